import Derived.Test.YthgejdenjmjkoaaDV8F83
import Derived.Test.YthgejdenjmjkoaaDV8T
section
set_option linter.unusedVariables false
set_option maxRecDepth 10000
namespace Go.Ab
open Classical in
noncomputable def ovN (bs:List DBlock) (b:Nat):Int:=if h:∃ a,Nx bs a b then ((h.choose:Nat):Int) else -1
theorem ovN_of {bs:List DBlock} {a b:Nat} (h:Nx bs a b):ovN bs b=(a:Int):=by
 have hx:∃ a,Nx bs a b:=⟨a,h⟩
 unfold ovN
 rw [dif_pos hx,(hx.choose_spec).det h]
theorem Nx.reached {bs:List DBlock} {a b:Nat} (h:Nx bs a b):Rc bs (-1) b∧b≠0:=by
 refine ⟨h.2.1.1,fun h0=>h.1 ?_⟩
 subst h0
 exact h.2.1.anti (.zero h.2.1.up)
theorem ovN_none {bs:List DBlock} {b:Nat} (h:¬ (Rc bs (-1) b∧b≠0)):ovN bs b=-1:=by
 unfold ovN
 rw [dif_neg]
 rintro ⟨a,ha⟩
 exact h ha.reached
noncomputable def overL (bs:List DBlock):List Int:=(List.range bs.length).map (ovN bs)
theorem overL_len (bs:List DBlock):(overL bs).length=bs.length:=by simp [overL]
theorem overL_get {bs:List DBlock} {b:Nat} (h:b < bs.length):(overL bs)[b]? = some (ovN bs b):=by simp [overL,h]
def edgeP (bs:List DBlock) (n k:Nat):Prop:=(∃ b:Nat,Dm bs n b∧(k:Int) ∈ nextAt bs b)∧(k=n∨¬ Dm bs n k)
open Classical in
noncomputable def edgeTo (bs:List DBlock) (n:Nat) (k:Nat):List Int:=((List.range k).filter fun i=>decide (edgeP bs n i)).map fun i:Nat=>(i:Int)
noncomputable def edgeL (bs:List DBlock) (n:Int):List Int:=if 0≤n then edgeTo bs n.toNat bs.length else []
theorem edgeTo_succ (bs:List DBlock) (n k:Nat) [Decidable (edgeP bs n k)]:edgeTo bs n (k + 1)=edgeTo bs n k ++ (if edgeP bs n k then [(k:Int)] else []):=by
 unfold edgeTo
 rw [List.range_succ,List.filter_append,List.map_append]
 by_cases h:edgeP bs n k <;> simp [h]
end Go.Ab
end
section
set_option linter.unusedVariables false
set_option linter.unusedSectionVars false
set_option maxRecDepth 10000
namespace Go.Ab
def blk (o:List Int) (n:Nat):Nat:=(o[n]?.getD 0).toNat
section
variable {bs:List DBlock} {o:List Int} (hI:OI bs o)
include hI
theorem OI.at_ {n:Nat} (h:n < o.length):o[n]? = some ((blk o n:Nat):Int):=by
 have hx:=List.getElem?_eq_getElem h
 have hp:=(hI.pos _ (List.mem_of_getElem? hx)).1
 unfold blk
 rw [hx]
 simp only [Option.getD_some]
 congr 1
 omega
theorem OI.blk_lt {n:Nat} (h:n < o.length):blk o n < bs.length:=by
 have:=(hI.pos _ (List.mem_of_getElem? (hI.at_ h))).2
 omega
theorem OI.inj {n m:Nat} (h:n < o.length) (h':m < o.length) (e:blk o n=blk o m):n=m:=by
 have h1:=hI.at_ h
 have h2:=hI.at_ h'
 rw [e,← h2] at h1
 exact (List.getElem?_inj h hI.nod).1 h1
theorem OI.rank {b:Nat} (h:Rc bs (-1) b):∃ n,n < o.length∧blk o n=b:=by
 obtain ⟨n,hn,e⟩:=List.mem_iff_getElem.1 ((hI.mem b).2 h)
 refine ⟨n,hn,?_⟩
 have:=hI.at_ hn
 rw [List.getElem?_eq_getElem hn,e] at this
 simp only [Option.some.injEq] at this
 omega
theorem OI.rc {n:Nat} (h:n < o.length):Rc bs (-1) (blk o n):=(hI.mem _).1 (List.mem_of_getElem? (hI.at_ h))
theorem OI.zero (h:bs≠[]):0 < o.length∧blk o 0=0:=by
 have:=hI.first h
 cases o with
 | nil=>cases this
 | cons a o =>
  simp only [List.head?_cons,Option.some.injEq] at this
  subst this
  exact ⟨by simp,rfl⟩
end
def prOne (o:List Int) (k n:Nat) (l:List Int):List Nat:=(l.filter fun g=>decide (g=((blk o n:Nat):Int))).map fun _=>k
def prTo (bs:List DBlock) (o:List Int):Nat→Nat→List Nat
 | 0,_=>[]
 | k + 1,n=>prTo bs o k n ++ prOne o k n (nextAt bs (blk o k))
def prL (bs:List DBlock) (o:List Int) (n:Nat):List Nat:=prTo bs o o.length n
theorem prOne_mem {o:List Int} {k n p:Nat} {l:List Int}:p ∈ prOne o k n l ↔ p=k∧((blk o n:Nat):Int) ∈ l:=by
 unfold prOne
 simp only [List.mem_map,List.mem_filter,decide_eq_true_eq]
 constructor
 ·rintro ⟨g,⟨h1,rfl⟩,rfl⟩; exact ⟨rfl,h1⟩
 ·rintro ⟨rfl,h⟩; exact ⟨_,⟨h,rfl⟩,rfl⟩
theorem prTo_mem {bs:List DBlock} {o:List Int} {n p:Nat}:∀ {k:Nat},p ∈ prTo bs o k n ↔ p < k∧((blk o n:Nat):Int) ∈ nextAt bs (blk o p)
 | 0=>by simp [prTo]
 | k + 1 => by
  simp only [prTo,List.mem_append,prTo_mem (k:=k),prOne_mem]
  constructor
  ·rintro (⟨h1,h2⟩ | ⟨rfl,h⟩)
   ·exact ⟨by omega,h2⟩
   ·exact ⟨by omega,h⟩
  ·rintro ⟨h1,h2⟩
   by_cases e:p=k
   ·subst e; exact .inr ⟨rfl,h2⟩
   ·exact .inl ⟨by omega,h2⟩
theorem prL_mem {bs:List DBlock} {o:List Int} {n p:Nat}:p ∈ prL bs o n ↔ p < o.length∧((blk o n:Nat):Int) ∈ nextAt bs (blk o p):=prTo_mem
theorem prTo_sorted {bs:List DBlock} {o:List Int} {n:Nat}:∀ (k:Nat),(prTo bs o k n).Pairwise (·≤·)
 | 0=>.nil
 | k + 1 => by
  simp only [prTo]
  refine List.pairwise_append.2 ⟨prTo_sorted k,?_,fun a ha b hb=>?_⟩
  ·refine List.pairwise_of_forall_mem_list fun a ha b hb=>?_
   rw [(prOne_mem.1 ha).1,(prOne_mem.1 hb).1]
   exact Nat.le_refl _
  ·have:=(prTo_mem.1 ha).1
   rw [(prOne_mem.1 hb).1]
   omega
def p0L (bs:List DBlock) (o:List Int) (n:Nat):Nat:=(prL bs o n)[0]?.getD 0
theorem p0_le {bs:List DBlock} {o:List Int} {n p:Nat} (h:p ∈ prL bs o n):p0L bs o n ∈ prL bs o n∧p0L bs o n≤p:=by
 have hs:=prTo_sorted (bs:=bs) (o:=o) (n:=n) o.length
 unfold p0L
 cases hl:prL bs o n with
 | nil=>rw [hl] at h; cases h
 | cons a l =>
  unfold prL at hl
  rw [hl] at hs
  have h1:=(List.pairwise_cons.1 hs).1
  refine ⟨by simp,?_⟩
  unfold prL at h
  rw [hl] at h
  rcases List.mem_cons.1 h with rfl | h
  ·simp
  ·have:=h1 p h
   simpa using this
theorem p0_at {bs:List DBlock} {o:List Int} {n:Nat} (h:prL bs o n≠[]):(prL bs o n)[0]? = some (p0L bs o n):=by
 unfold p0L
 cases hl:prL bs o n with
 | nil=>exact absurd hl h
 | cons a l=>rfl
section
variable {bs:List DBlock} {o:List Int} (hI:OI bs o)
include hI
theorem OI.low {n:Nat} (h0:n≠0) (hn:n < o.length):∃ p,p ∈ prL bs o n∧p < n:=by
 have hat:=hI.at_ hn
 have he:o=o.take n ++ ((blk o n:Nat):Int) :: o.drop (n + 1):=by
  have h1:=List.getElem?_eq_getElem hn
  rw [hat] at h1
  simp only [Option.some.injEq] at h1
  rw [h1,List.getElem_cons_drop,List.take_append_drop]
 rcases hI.led _ _ _ he with h1 | ⟨p,h1,h2⟩
 ·exfalso
  have hb:bs≠[]:=fun e=>by have:=hI.blk_lt hn; rw [e] at this; cases this
  obtain ⟨z1,z2⟩:=hI.zero hb
  exact h0 (hI.inj hn z1 (by rw [z2]; omega))
 ·obtain ⟨m,hm,e⟩:=List.mem_iff_getElem.1 h2
  simp only [List.length_take] at hm
  rw [List.getElem_take] at e
  have hm2:m < o.length:=by omega
  have hbm:=hI.at_ hm2
  rw [List.getElem?_eq_getElem hm2,e] at hbm
  simp only [Option.some.injEq] at hbm
  refine ⟨m,prL_mem.2 ⟨hm2,?_⟩,by omega⟩
  rw [show blk o m=p by omega]
  exact h1
theorem OI.grf:Grf o.length (prL bs o) (p0L bs o):=by
 refine ⟨fun n hn p hp=>(prL_mem.1 hp).1,fun n h0 hn=>?_,fun n h0 hn=>?_⟩
 ·obtain ⟨p,h1,h2⟩:=hI.low h0 hn
  exact (p0_le h1).1
 ·obtain ⟨p,h1,h2⟩:=hI.low h0 hn
  exact Nat.lt_of_le_of_lt (p0_le h1).2 h2
theorem OI.rv {d n:Nat} (hd:d < o.length) (hn:n < o.length):Rv (prL bs o) d n ↔ Rc bs ((blk o d:Nat):Int) (blk o n):=by
 have hb:bs≠[]:=fun e=>by have:=hI.blk_lt hn; rw [e] at this; cases this
 obtain ⟨z1,z2⟩:=hI.zero hb
 constructor
 ·intro h
  have key:∀ {n:Nat},Rv (prL bs o) d n→n < o.length→Rc bs ((blk o d:Nat):Int) (blk o n):=by
   intro n h
   induction h with
   | start h0 =>
    intro _
    rw [z2]
    refine .start (fun e=>h0 (hI.inj z1 hd (by omega))) (List.length_pos_iff.2 hb)
   | @next p n _ hp hne ih =>
    intro hn
    obtain ⟨q1,q2⟩:=prL_mem.1 hp
    have:=Rc.next (ih q1) q2 (fun e=>hne (hI.inj hn hd (by omega)))
    simpa using this
  exact key h hn
 ·intro h
  have key:∀ {b:Nat},Rc bs ((blk o d:Nat):Int) b→∃ n,n < o.length∧blk o n=b∧Rv (prL bs o) d n:=by
   intro b h
   induction h with
   | start h0 _=>exact ⟨0,z1,z2,.start fun e=>h0 (by rw [← e,z2]; rfl)⟩
   | @next i g hi hg hne ih =>
    obtain ⟨m,m1,m2,m3⟩:=ih
    have ht:=nextAt_there hg
    obtain ⟨n,n1,n2⟩:=hI.rank (Rc.next hi hg hne).any
    refine ⟨n,n1,n2,.next m3 (prL_mem.2 ⟨m1,?_⟩) fun e=>hne ?_⟩
    ·rw [n2,m2,show ((g.toNat:Nat):Int)=g by omega]; exact hg
    ·rw [← e,n2]; omega
  obtain ⟨m,m1,m2,m3⟩:=key h
  rw [hI.inj hn m1 m2.symm]
  exact m3
variable {T p0:Nat→Nat} {m:Nat} (hG:Grf o.length (prL bs o) p0) (h:TI o.length (prL bs o) p0 m T) (hf:∀ n,n≠0→n < o.length→∀ x,Up T (T n) x ↔ ∀ p ∈ prL bs o n,Up T p x)
include hG h hf
theorem OI.up {n x:Nat} (hn:n < o.length) (hx:x < o.length):Dm bs (blk o x) (blk o n) ↔ Up T n x:=by
 rw [Dm.self,h.last hG hf hn,hI.rv hx hn]
 exact ⟨fun h=>h.2,fun h=>⟨hI.rc hn,h⟩⟩
theorem OI.nx {n:Nat} (h0:n≠0) (hn:n < o.length):Nx bs (blk o (T n)) (blk o n):=by
 have hl:=h.low n h0 hn
 have ht:T n < o.length:=by omega
 refine ⟨fun e=>by have:=hI.inj ht hn e; omega,(hI.up hG h hf hn ht).2 (.step h0 .refl),fun c hc hd=>?_⟩
 obtain ⟨x,x1,rfl⟩:=hI.rank hd.up
 have hu:=(hI.up hG h hf hn x1).1 hd
 exact (hI.up hG h hf ht x1).2 (hu.inv fun e=>hc (by rw [e])).2
theorem OI.ov {n:Nat} (h0:n≠0) (hn:n < o.length):ovN bs (blk o n)=((blk o (T n):Nat):Int):=ovN_of (hI.nx hG h hf h0 hn)
end
def p0Z (bs:List DBlock) (o:List Int) (n:Nat):Nat:=if n=0 then 0 else p0L bs o n
theorem OI.grfZ {bs:List DBlock} {o:List Int} (hI:OI bs o):Grf o.length (prL bs o) (p0Z bs o) :=
 ⟨hI.grf.in_,fun n h0 hn=>by rw [p0Z,if_neg h0]; exact hI.grf.mem n h0 hn,fun n h0 hn=>by rw [p0Z,if_neg h0]; exact hI.grf.low n h0 hn⟩
theorem nodup_le:∀ (n:Nat) {l:List Nat},l.Nodup→(∀ x ∈ l,x < n)→l.length≤n
 | 0,l,_,h=>by
  cases l with
  | nil=>exact Nat.le_refl _
  | cons a l=>exact absurd (h a List.mem_cons_self) (Nat.not_lt_zero _)
 | n + 1, l, hd, h => by
  by_cases hn:n ∈ l
  ·have:=nodup_le n (hd.erase n) (fun x hx=>by
    have h1:=h x (List.mem_of_mem_erase hx)
    have h2:x≠n:=fun e=>by subst e; exact absurd hx (hd.not_mem_erase)
    omega)
   rw [List.length_erase_of_mem hn] at this
   omega
  ·have:=nodup_le n hd (fun x hx=>by
    have h1:=h x hx
    have h2:x≠n:=fun e=>by subst e; exact hn hx
    omega)
   omega
theorem OI.len {bs:List DBlock} {o:List Int} (hI:OI bs o):o.length≤bs.length:=by
 have h1:(o.map Int.toNat).Nodup:=by
  refine List.pairwise_map.2 (List.Pairwise.imp_of_mem (fun {a b} ha hb hne e=>hne ?_) hI.nod)
  have:=hI.pos a ha
  have:=hI.pos b hb
  omega
 have:=nodup_le bs.length h1 (fun x hx=>by
  obtain ⟨a,ha,rfl⟩:=List.mem_map.1 hx
  have:=hI.pos a ha
  omega)
 simpa using this
end Go.Ab
end
section
set_option linter.unusedVariables false
set_option maxRecDepth 10000
namespace Go.Ab
def RIL (q:Option Bool) (e:List TV) (l:List Nat):Prop:=∃ v,e=[v]∧RInts q v (castL l)
theorem RIL.own {e:List TV} {l:List Nat} (h:RIL (some true) e l):isOwnL e=true:=by
 obtain ⟨v,rfl,h⟩:=h
 have:=h.own fun _ _ h=>h.own
 simp [isOwnL,this]
theorem rep_nils {n:Nat} (h:n≤9223372036854775807):RL (some true) 1 (RIL (some true)) (.sl true 1 (List.replicate n [.lit nilV])) (List.replicate n []):=.sl (by simp) (F2.of_get (by simp) fun i e a he ha=>by
 rw [List.getElem?_replicate] at he ha
 by_cases hi:i < n
 ·rw [if_pos hi] at he ha
  cases he
  cases ha
  exact ⟨_,rfl,.nil⟩
 ·rw [if_neg hi] at he
  cases he) (by simpa using h)
theorem rep_ints {n:Nat} {a:Int} (ha:inI a) (h:n≤9223372036854775807):RInts (some true) (.sl true 1 (List.replicate n [I a])) (List.replicate n a):=.sl (by simp) (F2.of_get (by simp) fun i e b he hb=>by
 rw [List.getElem?_replicate] at he hb
 by_cases hi:i < n
 ·rw [if_pos hi] at he hb
  cases he
  cases hb
  exact ⟨rfl,ha⟩
 ·rw [if_neg hi] at he
  cases he) (by simpa using h)
theorem setNth_at {α:Type}:∀ {l:List α} {n:Nat} {a b:α},l[n]? = some a→(setNth l n b)[n]? = some b
 | [],n,a,b,h=>by simp at h
 | c :: l,0,a,b,h=>rfl
 | c :: l,n + 1,a,b,h=>by simp only [List.getElem?_cons_succ] at h; simp only [setNth,List.getElem?_cons_succ]; exact setNth_at h
theorem setNth_two {α:Type}:∀ {l:List α} {n:Nat} {a b:α},setNth (setNth l n a) n b=setNth l n b
 | [],n,a,b=>rfl
 | c :: l,0,a,b=>rfl
 | c :: l,n + 1,a,b=>by simp only [setNth,setNth_two]
theorem RL.takeEl {y v:TV} {ll:List (List Nat)} (hy:RL (some true) 1 (RIL (some true)) y ll) {n:Nat} (he:Go.Ab.pel y n=some [v]):∃ y1,setP [(n,0)] y .hole=some y1∧Go.Ab.slLen y1=some ll.length∧Go.Ab.slSize y1 1=true∧Go.Ab.pel y1 n=some [.hole] ∧
  ∀ {v':TV} {l':List Nat},RInts (some true) v' (castL l')→∃ y2,setC [] y1 n 0 [v']=some y2∧RL (some true) 1 (RIL (some true)) y2 (ll.set n l'):=by
 obtain ⟨xs,rfl,hk,hf,hb⟩:=hy.at he
 have hset:setNth [v] 0 TV.hole=[TV.hole]:=rfl
 refine ⟨.sl true 1 (setNth xs n [.hole]),?_,?_,rfl,setNth_at hk,fun {v' l'} hv=>?_⟩
 ·simp only [setP,hk,List.getElem?_cons_zero,hset]
 ·simp only [Go.Ab.slLen,setNth_len,hf.length]
 ·refine ⟨.sl true 1 (setNth xs n [v']),?_,.sl (by simp) (hf.set ⟨v',rfl,hv⟩) (by rw [setNth_len]; exact hb)⟩
  simp only [setC,getP,setEl,setNth_at hk,setP]
  rw [setNth_two]
  rfl
theorem castL_app (l m:List Nat):castL (l ++ m)=castL l ++ castL m:=by simp [castL]
def prRow (bs:List DBlock) (o:List Int) (k j n:Nat):List Nat:=prTo bs o k n ++ prOne o k n ((nextAt bs (blk o k)).take j)
def prRows (bs:List DBlock) (o:List Int) (k j:Nat):List (List Nat):=(List.range o.length).map (prRow bs o k j)
theorem prOne_len (o:List Int) (k n:Nat) (l:List Int):(prOne o k n l).length≤l.length:=by
 unfold prOne
 rw [List.length_map]
 exact List.length_filter_le _ _
theorem prTo_len (bs:List DBlock) (o:List Int) (n:Nat):∀ k,(prTo bs o k n).length≤3 * k
 | 0=>by simp [prTo]
 | k + 1=>by
  have h1:=prTo_len bs o n k
  have h2:=prOne_len o k n (nextAt bs (blk o k))
  have h3:=nextAt_len bs (blk o k)
  simp only [prTo,List.length_append]
  omega
theorem prRow_len (bs:List DBlock) (o:List Int) (k j n:Nat):(prRow bs o k j n).length≤3 * k + 3:=by
 have h1:=prTo_len bs o n k
 have h2:=prOne_len o k n ((nextAt bs (blk o k)).take j)
 have h3:=nextAt_len bs (blk o k)
 rw [List.length_take] at h2
 simp only [prRow,List.length_append]
 omega
theorem prRows_at {bs:List DBlock} {o:List Int} {k j n:Nat} (h:n < o.length):(prRows bs o k j)[n]? = some (prRow bs o k j n):=by simp [prRows,h]
theorem prRows_start (bs:List DBlock) (o:List Int):prRows bs o 0 0=List.replicate o.length []:=by
 apply List.ext_getElem?
 intro n
 rw [List.getElem?_replicate]
 by_cases h:n < o.length
 ·rw [prRows_at h,if_pos h]; simp [prRow,prTo,prOne]
 ·rw [if_neg h,List.getElem?_eq_none (by simp [prRows]; omega)]
theorem prRows_end (bs:List DBlock) (o:List Int):prRows bs o o.length 0=(List.range o.length).map (prL bs o):=by
 unfold prRows
 refine List.map_congr_left fun n _=>?_
 simp [prRow,prOne,prL]
theorem prRows_over (bs:List DBlock) (o:List Int) (k:Nat):prRows bs o k (nextAt bs (blk o k)).length=prRows bs o (k + 1) 0:=by
 unfold prRows
 refine List.map_congr_left fun n _=>?_
 simp [prRow,prTo,prOne]
theorem prRows_next {bs:List DBlock} {o:List Int} (hI:OI bs o) {k j n:Nat} (hn:n < o.length) (hg:(nextAt bs (blk o k))[j]? = some ((blk o n:Nat):Int)):prRows bs o k (j + 1)=(prRows bs o k j).set n (prRow bs o k j n ++ [k]):=by
 apply List.ext_getElem?
 intro m
 by_cases hm:m < o.length
 ·rw [prRows_at hm]
  by_cases hmn:n=m
  ·subst hmn
   rw [List.getElem?_set_self (by simp [prRows]; exact hm)]
   simp only [prRow,take_get hg,prOne,List.filter_append,List.map_append,List.append_assoc]
   simp
  ·rw [List.getElem?_set_ne hmn,prRows_at hm]
   simp only [prRow,take_get hg,prOne,List.filter_append,List.map_append]
   have:¬ ((blk o n:Nat):Int)=((blk o m:Nat):Int):=fun e=>hmn (hI.inj hn hm (by omega))
   simp [this]
 ·rw [List.getElem?_eq_none (by simp [prRows]; omega),List.getElem?_eq_none (by simp [prRows]; omega)]
end Go.Ab
namespace Go.Ab.V8
open Go Go.Ab Go.Proofs
section
variable {q:Option Bool} {b:TV} {f:DFunc} (hf:RFunc q [I f.params,I f.regs,b] f) (hs:f.blocks.length≤1000) {x:TV} {o:List Int} {qx:Option Bool} (hx:RInts qx x o) (hI:OI f.blocks o) (hol:o.length≤1000)
include hf hs hx hI hol
theorem befRows {w6:TV} {M:List Int} (hM:RInts (some true) w6 M) (hMl:M.length=f.blocks.length) (hMa:∀ n,n < o.length→M[blk o n]? = some ((n:Nat):Int)):∀ (d k:Nat) (w:TV),k + d=o.length→RL (some true) 1 (RIL (some true)) w (prRows f.blocks o k 0) →
  ∃ y,Goes prog 30 (f30_2 x (I o.length) (I k) (I f.params) (I f.regs) b w6 w) y∧RL (some true) 1 (RIL (some true)) y ((List.range o.length).map (prL f.blocks o)):=by
 intro d
 induction d with
 | zero =>
  intro k w hk hw
  have hk:k=o.length:=by omega
  subst hk
  rw [prRows_end] at hw
  refine ⟨w,?_,hw⟩
  unfold f30_2
  exact Goes.tv rfl (Goes.ite asB_end (fun h=>nomatch h) fun _=>Goes.chk (hw.own fun _ _ h=>h.own) Goes.ret)
 | succ d ih =>
  intro k w hk hw
  have hkl:k < o.length:=by omega
  obtain ⟨e,he,rfl,hei⟩:=hx.idx (k:=.i64) (hI.at_ hkl)
  obtain ⟨v,hv,hvr⟩:=r71 hf ((blk o k:Nat):Int)
  rw [nextL_nat] at hvr
  have hnl:=nextAt_len f.blocks (blk o k)
  have inner:∀ (c j:Nat) (w:TV),j + c=(nextAt f.blocks (blk o k)).length→RL (some true) 1 (RIL (some true)) w (prRows f.blocks o k j) →
    ∃ y,Goes prog 30 (f30_3 (I k) x (I o.length) (I k) (I (nextAt f.blocks (blk o k)).length) (I j) (I f.params) (I f.regs) b w6 w v) y∧RL (some true) 1 (RIL (some true)) y ((List.range o.length).map (prL f.blocks o)):=by
   intro c
   induction c with
   | zero =>
    intro j w hj hw
    have hj:j=(nextAt f.blocks (blk o k)).length:=by omega
    subst hj
    rw [prRows_over] at hw
    obtain ⟨y,hy,hr⟩:=ih (k + 1) w (by omega) hw
    refine ⟨y,?_,hr⟩
    unfold f30_3
    exact Goes.tv rfl (Goes.ite asB_end (fun h=>nomatch h) fun _=>Goes.tv (inc hkl (by omega)) (f30_2_J hy))
   | succ c ihc =>
    intro j w hj hw
    have hjl:j < (nextAt f.blocks (blk o k)).length:=by omega
    obtain ⟨g,hgg⟩:∃ g,g=(nextAt f.blocks (blk o k))[j]:=⟨_,rfl⟩
    have hg:(nextAt f.blocks (blk o k))[j]? = some g:=by rw [hgg]; exact List.getElem?_eq_getElem hjl
    have hgm:=List.mem_of_getElem? hg
    have hgt:=nextAt_there hgm
    obtain ⟨n,hn,hnb⟩:=hI.rank (Rc.next (hI.rc hkl) hgm (by omega))
    have hgn:g=((blk o n:Nat):Int):=by omega
    subst hgn
    obtain ⟨e1,he1,rfl,_⟩:=hvr.pel hg
    obtain ⟨e2,he2,rfl,_⟩:=hM.pel (hMa n hn)
    obtain ⟨e3,he3,u,rfl,hu⟩:=hw.pel (prRows_at (k:=k) (j:=j) hn)
    have hlen:=prRow_len f.blocks o k j n
    obtain ⟨u',hu1,hu2⟩:=hu.app (e:=[I k]) (a:=(k:Int)) ⟨rfl,by constructor <;> omega⟩ (by simp only [castL,List.length_map]; omega)
    obtain ⟨w1,t1,t2,t3,t4,t5⟩:=hw.takeEl he3
    obtain ⟨w2,s1,s2⟩:=t5 (v':=u') (l':=prRow f.blocks o k j n ++ [k]) (by rw [castL_app]; exact hu2)
    rw [← prRows_next hI hn hg] at s2
    obtain ⟨y,hy,hr⟩:=ihc (j + 1) w2 (by omega) s2
    refine ⟨y,?_,hr⟩
    have hblt:=hI.blk_lt hn
    have hrl:(prRows f.blocks o k j).length=o.length:=by simp [prRows]
    have anb:asNat (nth TV.hole [I ((blk o n:Nat):Int)] 0)=some (blk o n):=asNat_nat (by omega)
    have ann:asNat (nth TV.hole [I ((n:Nat):Int)] 0)=some n:=asNat_nat (by omega)
    have c9:(Bool.and (slSize w6 1) (Nat.blt (blk o n) M.length))=true:=by rw [hM.slSize]; simp; omega
    unfold f30_3
    refine Goes.tv rfl (Goes.ite (asB_lt hjl) (fun _=>?_) fun h=>nomatch h)
    refine Goes.nat hvr.slLen (Goes.nat (asNat_nat (by omega)) (Goes.chk ?_ (Goes.tvs he1 (Goes.chk rfl ?_))))
    ·rw [hvr.slSize]; simpa using hjl
    refine Goes.nat hM.slLen (Goes.nat anb (Goes.chk c9 (Goes.tvs he2 (Goes.chk rfl ?_))))
    refine Goes.nat hM.slLen (Goes.nat anb (Goes.chk c9 (Goes.tvs he2 (Goes.chk rfl ?_))))
    refine Goes.nat hw.slLen (Goes.nat ann (Goes.chk ?_ (Goes.tvs he3 (Goes.chk (fit_slc hu.isSl) (Goes.chk rfl (Goes.rws rfl ?_))))))
    ·rw [hw.slSize,hrl]; simpa using hn
    refine Goes.tv (hw.deep he3 (j:=0) (z:=u) rfl) (Goes.tv hu1 (Goes.tv t1 ?_))
    refine Goes.nat t2 (Goes.nat ann (Goes.chk ?_ (Goes.tvs t4 (Goes.chk ?_ (Goes.tv s1 (Goes.tv (inc hjl (by omega)) (f30_3_J hy)))))))
    ·rw [t3,hrl]; simpa using hn
    ·rw [fit_slc hu2.isSl]; rfl
  obtain ⟨y,hy,hr⟩:=inner _ 0 w (Nat.zero_add _) hw
  refine ⟨y,?_,hr⟩
  unfold f30_2
  exact Goes.tv rfl (Goes.ite (asB_lt hkl) (fun _=>Goes.tvs he (Goes.chk rfl (Goes.call hv (Goes.chk (fit_slc hvr.isSl) (Goes.tv hvr.len (f30_3_J hy)))))) fun h=>nomatch h)
theorem befOf:∀ (d k:Nat) (w:TV) (M:List Int),k + d=o.length→RInts (some true) w M→M.length=f.blocks.length→(∀ n,n < k→M[blk o n]? = some ((n:Nat):Int)) →
  ∃ y,Goes prog 30 (f30_0 x x (I o.length) (I k) (I f.params) (I f.regs) b w) y∧RL (some true) 1 (RIL (some true)) y ((List.range o.length).map (prL f.blocks o)):=by
 intro d
 induction d with
 | zero =>
  intro k w M hk hw hl hm
  have hk:k=o.length:=by omega
  subst hk
  obtain ⟨y,hy,hr⟩:=befRows hf hs hx hI hol hw hl hm o.length 0 _ (by omega) (by rw [prRows_start]; exact rep_nils (n:=o.length) (by omega))
  refine ⟨y,?_,hr⟩
  unfold f30_0
  refine Goes.tv rfl (Goes.ite asB_end (fun h=>nomatch h) fun _=>f30_1_J ?_)
  have hn:asNat (I (o.length:Nat))=some o.length:=asNat_nat (by omega)
  unfold f30_1
  exact Goes.tv hx.len (Goes.nat hn (Goes.nat hn (Goes.chk (by simp; omega) (Goes.tv hx.len (f30_2_J hy)))))
 | succ d ih =>
  intro k w M hk hw hl hm
  have hkl:k < o.length:=by omega
  obtain ⟨e,he,rfl,hei⟩:=hx.idx (k:=.i64) (hI.at_ hkl)
  have hblt:=hI.blk_lt hkl
  have hbM:blk o k < M.length:=by omega
  obtain ⟨e2,he2,rfl,_⟩:=hw.pel (List.getElem?_eq_getElem hbM)
  obtain ⟨w',c1,c2⟩:=hw.setAt he2 (d:=0) (ys:=[I k]) (a:=(k:Int)) ⟨rfl,by constructor <;> omega⟩
  obtain ⟨y,hy,hr⟩:=ih (k + 1) w' _ (by omega) c2 (by simpa using hl) (fun n hn=>by
   by_cases e:n=k
   ·subst e; exact List.getElem?_set_self hbM
   ·rw [List.getElem?_set_ne (fun h=>e (hI.inj (by omega) hkl h.symm))]
    exact hm n (by omega))
  refine ⟨y,?_,hr⟩
  unfold f30_0
  refine Goes.tv rfl (Goes.ite (asB_lt hkl) (fun _=>Goes.tvs he (Goes.chk rfl ?_)) fun h=>nomatch h)
  refine Goes.nat hw.slLen (Goes.nat (asNat_nat (by omega)) (Goes.chk ?_ (Goes.chk rfl (Goes.tvs he2 (Goes.chk rfl (Goes.tv c1 (Goes.tv (inc hkl (by omega)) (f30_0_J hy))))))))
  rw [hw.slSize]; simpa using hbM
end
theorem rBefore8 {q:Option Bool} {e:List TV} {f:DFunc} (he:RFunc q e f) (hs:f.blocks.length≤1000) {x:TV} {o:List Int} {qx:Option Bool} (hx:RInts qx x o) (hI:OI f.blocks o) (hol:o.length≤1000) :
  ∃ y,Runs prog 30 [.agg e,x] y∧RL (some true) 1 (RIL (some true)) y ((List.range o.length).map (prL f.blocks o)):=by
 have he0:=he
 obtain ⟨b,rfl,hb,_⟩:=he
 obtain ⟨y,hy,hr⟩:=befOf he0 hs hx hI hol o.length 0 _ _ (by omega) (rep_ints (n:=f.blocks.length) (a:=0) ⟨by decide,by decide⟩ (by omega)) (by simp) (fun n hn=>absurd hn (Nat.not_lt_zero _))
 refine ⟨y,?_,hr⟩
 have hn:asNat (I (f.blocks.length:Nat))=some f.blocks.length:=asNat_nat (by omega)
 refine Runs.of (f30_MR _ _) ?_
 unfold f30_M
 exact Goes.chk rfl (Goes.tv hb.len (Goes.nat hn (Goes.nat hn (Goes.chk (by simp; omega) (Goes.tv hx.len (f30_0_J hy))))))
end Go.Ab.V8
end
section
set_option linter.unusedVariables false
set_option linter.unusedSectionVars false
set_option maxRecDepth 10000
namespace Go.Ab
theorem RL.sl_of {α:Type} {q:Option Bool} {s:Nat} {R:List TV→α→Prop} {x:TV} {l:List α} (h:RL q s R x l) (hl:l≠[]):∃ o xs,x=.sl o s xs∧F2 R xs l:=by
 rcases h with ⟨_,rfl⟩ | ⟨o,xs,rfl,_,h,_⟩
 ·exact absurd rfl hl
 ·exact ⟨o,xs,rfl,h⟩
def begRow (p:Nat→Nat) (N n:Nat):List Int:=(List.range N).map fun i=>if i≠0∧i < n then ((p i:Nat):Int) else 0
theorem begRow_at {p:Nat→Nat} {N n i:Nat} (h:i < N):(begRow p N n)[i]? = some (if i≠0∧i < n then ((p i:Nat):Int) else 0):=by simp [begRow,h]
theorem begRow_start (p:Nat→Nat) (N:Nat):begRow p N 1=List.replicate N 0:=by
 apply List.ext_getElem?
 intro i
 rw [List.getElem?_replicate]
 by_cases h:i < N
 ·rw [begRow_at h,if_pos h,if_neg (by omega)]
 ·rw [if_neg h,List.getElem?_eq_none (by simp [begRow]; omega)]
theorem begRow_next {p:Nat→Nat} {N n:Nat} (h0:n≠0) (h:n < N):begRow p N (n + 1)=(begRow p N n).set n ((p n:Nat):Int):=by
 apply List.ext_getElem?
 intro i
 by_cases hi:i < N
 ·rw [begRow_at hi]
  by_cases e:n=i
  ·subst e
   rw [List.getElem?_set_self (by simp [begRow]; exact h),if_pos ⟨h0,by omega⟩]
  ·rw [List.getElem?_set_ne e,begRow_at hi]
   by_cases h2:i≠0∧i < n
   ·rw [if_pos h2,if_pos ⟨h2.1,by omega⟩]
   ·rw [if_neg h2,if_neg (by omega)]
 ·rw [List.getElem?_eq_none (by simp [begRow]; omega),List.getElem?_eq_none (by simp [begRow]; omega)]
theorem begRow_end (bs:List DBlock) (o:List Int) {n:Nat} (h:o.length≤n):TreeL o.length (begRow (p0L bs o) o.length n) (p0Z bs o):=by
 refine ⟨by simp [begRow],fun i hi=>?_⟩
 rw [begRow_at hi]
 unfold p0Z
 by_cases h0:i=0
 ·rw [if_pos h0,if_neg (by omega)]; rfl
 ·rw [if_neg h0,if_pos ⟨h0,by omega⟩]
theorem TreeL.upd {N:Nat} {l:List Int} {T:Nat→Nat} (h:TreeL N l T) {m v:Nat} (hm:m < N):TreeL N (l.set m ((v:Nat):Int)) (updT T m v):=by
 refine ⟨by rw [List.length_set]; exact h.1,fun n hn=>?_⟩
 by_cases e:m=n
 ·subst e; rw [updT_at,List.getElem?_set_self (by rw [h.1]; exact hm)]
 ·rw [updT_ne (Ne.symm e),List.getElem?_set_ne e]; exact h.2 n hn
end Go.Ab
namespace Go.Ab.V8
open Go Go.Ab Go.Proofs
theorem rAll8 {a b wv v:TV} {qa qb:Option Bool} {l:List Int} {T:Nat→Nat} {N:Nat} {ls:List Nat} (hw:RInts qa wv l) (hv:RInts qb v (castL ls)) (hT:TreeL N l T) (hL:Low N T) (h0:ls≠[]) (hN:∀ p ∈ ls,p < N) (hN1:N≤1000000) (hl1:ls.length≤1000000) {r:Nat} (hr:AllP l (castL ls) r) :
  Runs prog 31 [.agg [a,b,wv],v] (I (r:Int)):=by
 have hpos:0 < N:=by
  cases ls with
  | nil=>exact absurd rfl h0
  | cons p ls=>exact Nat.lt_of_le_of_lt (Nat.zero_le _) (hN p List.mem_cons_self)
 obtain ⟨o1,xs,rfl,hf⟩:=hw.sl_of (by rintro rfl; have:=hT.1; simp at this; omega)
 obtain ⟨o2,ys,rfl,hg⟩:=hv.sl_of (by intro e; simp [castL] at e; exact h0 e)
 exact Runs.ext rfl (xAll_of ⟨N,T,l,ls,hT,hL,hf,hg,h0,hN,hN1,hl1,hr⟩)
theorem rRank8 {q:Option Bool} {e:List TV} {f:DFunc} (he:RFunc q e f) (hs:f.blocks.length≤1000):∃ v0 v1 v2 o l,Runs prog 18 [.agg e] (.agg [v0,v1,v2])∧OrderP f.blocks o∧RInts (some true) v0 o ∧
  RL (some true) 1 (RIL (some true)) v1 ((List.range o.length).map (prL f.blocks o))∧RInts (some true) v2 l∧TreeL o.length l (p0Z f.blocks o):=by
 have he0:=he
 obtain ⟨b,rfl,hb,_⟩:=he
 obtain ⟨v0,o,hv0,k0,hO⟩:=r80 he0 hs
 have hI:=hO.keeps
 have hol:o.length≤1000:=Nat.le_trans hI.len hs
 obtain ⟨v1,hv1,k1⟩:=rBefore8 he0 hs (k0.frz fun _ _ h=>h.frz) hI hol
 have loop:∀ (d n:Nat) (w:TV),o.length - n≤d→n≠0→RInts (some true) w (begRow (p0L f.blocks o) o.length n)→∃ v2 l,Goes prog 18 (f18_0 (I n) v0 v1 w) (.agg [v0,v1,v2])∧RInts (some true) v2 l∧TreeL o.length l (p0Z f.blocks o):=by
  intro d
  have fin:∀ (n:Nat) (w:TV),o.length≤n→n≠0→RInts (some true) w (begRow (p0L f.blocks o) o.length n)→∃ v2 l,Goes prog 18 (f18_0 (I n) v0 v1 w) (.agg [v0,v1,v2])∧RInts (some true) v2 l∧TreeL o.length l (p0Z f.blocks o):=by
   intro n w hn h0 hw
   refine ⟨w,_,?_,hw,begRow_end f.blocks o hn⟩
   unfold f18_0
   refine Goes.tv k0.len (Goes.tv rfl (Goes.ite (v:=false) (by simp [asBool]; omega) (fun h=>nomatch h) fun _=>Goes.chk ?_ Goes.ret))
   have o0:=k0.own fun _ _ h=>h.own
   have o1:=k1.own fun _ _ h=>h.own
   have o2:=hw.own fun _ _ h=>h.own
   simp [isOwn,isOwnL,o0,o1,o2]
  induction d with
  | zero=>intro n w hd h0 hw; exact fin n w (by omega) h0 hw
  | succ d ih =>
   intro n w hd h0 hw
   by_cases hn:n < o.length
   ·obtain ⟨p,hp,_⟩:=hI.low h0 hn
    have hne:prL f.blocks o n≠[]:=fun e=>by rw [e] at hp; cases hp
    have hlen:0 < (prL f.blocks o n).length:=List.length_pos_iff.2 hne
    obtain ⟨e1,he1,u,rfl,hu⟩:=k1.pel (i:=n) (a:=prL f.blocks o n) (by simp [hn])
    obtain ⟨e2,he2,rfl,hei⟩:=hu.pel (i:=0) (a:=((p0L f.blocks o n:Nat):Int)) (by simp only [castL,List.getElem?_map,p0_at hne,Option.map_some])
    obtain ⟨e3,he3,rfl,_⟩:=hw.pel (begRow_at hn)
    obtain ⟨w',c1,c2⟩:=hw.setAt he3 (d:=0) (ys:=[I (p0L f.blocks o n:Nat)]) (a:=((p0L f.blocks o n:Nat):Int)) ⟨rfl,hei⟩
    rw [← begRow_next h0 hn] at c2
    obtain ⟨v2,l,hy,r1,r2⟩:=ih (n + 1) w' (by omega) (by omega) c2
    refine ⟨v2,l,?_,r1,r2⟩
    have ann:asNat (I (n:Nat))=some n:=asNat_nat (by omega)
    have hgp:=k1.deep he1 (j:=0) (z:=u) rfl
    unfold f18_0
    refine Goes.tv k0.len (Goes.tv rfl (Goes.ite (v:=true) (by simp [asBool]; omega) (fun _=>?_) fun h=>nomatch h))
    refine Goes.nat k1.slLen (Goes.nat ann (Goes.chk ?_ (Goes.tvs he1 (Goes.chk (fit_slc hu.isSl) (Goes.tv hgp (Goes.nat hu.slLen (Goes.nat (v:=0) rfl (Goes.chk ?_ (Goes.tv hgp (Goes.tvs he2 (Goes.chk rfl ?_)))))))))))
    ·rw [k1.slSize]; simp; omega
    ·rw [hu.slSize]; simp [castL]; omega
    refine Goes.nat hw.slLen (Goes.nat ann (Goes.chk ?_ (Goes.tvs he3 (Goes.chk rfl (Goes.tv c1 (Goes.tv (inc hn (by omega)) (f18_0_J hy)))))))
    rw [hw.slSize]; simp [begRow]; omega
   ·exact fin n w (by omega) h0 hw
 obtain ⟨v2,l,hy,r1,r2⟩:=loop o.length 1 _ (by omega) (by omega) (by rw [begRow_start]; exact rep_ints (n:=o.length) (a:=0) ⟨by decide,by decide⟩ (by omega))
 refine ⟨v0,v1,v2,o,l,?_,hO,k0,k1,r1,r2⟩
 have hn:asNat (I (o.length:Nat))=some o.length:=asNat_nat (by omega)
 refine Runs.of (f18_MR _) ?_
 unfold f18_M
 exact Goes.chk rfl (Goes.call hv0 (Goes.chk (fit_slc k0.isSl) (Goes.call hv1 (Goes.chk (fit_slc k1.isSl) (Goes.tv k0.len (Goes.nat hn (Goes.nat hn (Goes.chk (by simp; omega) (f18_0_J hy)))))))))
section
variable {q:Option Bool} {b:TV} {f:DFunc} (hb:RL q 14 (RBlock q) b f.blocks) (hs:f.blocks.length≤1000) {v0 v1:TV} {o:List Int} (hI:OI f.blocks o) (hol:o.length≤1000) (k0:RInts (some true) v0 o) (k1:RL (some true) 1 (RIL (some true)) v1 ((List.range o.length).map (prL f.blocks o)))
include hb hs hI hol k0
theorem ovrLast {w4:TV} {l:List Int} {T:Nat→Nat} (k4:RInts (some true) w4 l) (hT:TreeL o.length l T) (hL:Low o.length T) (hov:∀ n,n≠0→n < o.length→ovN f.blocks (blk o n)=((blk o (T n):Nat):Int)):∀ (d n:Nat) (w:TV) (M:List Int),o.length - n≤d→n≠0→RInts (some true) w M→M.length=f.blocks.length →
  (∀ i,i≠0→i < n→i < o.length→M[blk o i]? = some ((blk o (T i):Nat):Int))→(∀ b,b < f.blocks.length→(∀ i,i≠0→i < n→i < o.length→blk o i≠b)→M[b]? = some (-1)) →
  ∃ y,Goes prog 9 (f9_5 (I n) w v0 v1 w4) y∧RInts (some true) y (overL f.blocks):=by
 have fin : ∀ (n : Nat) (w : TV) (M : List Int), o.length ≤ n → n ≠ 0 → RInts (some true) w M → M.length = f.blocks.length →
   (∀ i,i≠0→i < n→i < o.length→M[blk o i]? = some ((blk o (T i):Nat):Int))→(∀ b,b < f.blocks.length→(∀ i,i≠0→i < n→i < o.length→blk o i≠b)→M[b]? = some (-1)) →
   ∃ y,Goes prog 9 (f9_5 (I n) w v0 v1 w4) y∧RInts (some true) y (overL f.blocks):=by
  intro n w M hn h0 hw hl hm hm2
  have e:M=overL f.blocks:=by
   apply List.ext_getElem?
   intro c
   by_cases hc:c < f.blocks.length
   ·rw [overL_get hc]
    by_cases hr:Rc f.blocks (-1) c∧c≠0
    ·obtain ⟨i,hi,rfl⟩:=hI.rank hr.1
     have hi0:i≠0:=fun e=>by
      subst e
      exact hr.2 (hI.zero (by rintro e; rw [e] at hc; cases hc)).2
     rw [hm i hi0 (by omega) hi,hov i hi0 hi]
    ·rw [ovN_none hr]
     refine hm2 c hc fun i hi0 _ hi e=>hr ?_
     subst e
     refine ⟨hI.rc hi,fun e=>hi0 ?_⟩
     have hz:=hI.zero (by rintro e; rw [e] at hc; cases hc)
     exact hI.inj hi hz.1 (by rw [e,hz.2])
   ·rw [List.getElem?_eq_none (by omega),List.getElem?_eq_none (by rw [overL_len]; omega)]
  subst e
  refine ⟨w,?_,hw⟩
  unfold f9_5
  exact Goes.tv k0.len (Goes.tv rfl (Goes.ite (v:=false) (by simp [asBool]; omega) (fun h=>nomatch h) fun _=>Goes.chk (hw.own fun _ _ h=>h.own) Goes.ret))
 intro d
 induction d with
 | zero=>intro n w M hd h0 hw hl hm hm2; exact fin n w M (by omega) h0 hw hl hm hm2
 | succ d ih =>
  intro n w M hd h0 hw hl hm hm2
  by_cases hn:n < o.length
  ·have hlow:=hL n h0 hn
   have htn:T n < o.length:=by omega
   have hblt:=hI.blk_lt hn
   have hbt:=hI.blk_lt htn
   obtain ⟨e1,he1,rfl,_⟩:=k0.pel (hI.at_ hn)
   obtain ⟨e2,he2,rfl,_⟩:=k4.pel (hT.2 n hn)
   obtain ⟨e3,he3,rfl,hei⟩:=k0.pel (hI.at_ htn)
   have hbM:blk o n < M.length:=by omega
   obtain ⟨e4,he4,rfl,_⟩:=hw.pel (List.getElem?_eq_getElem hbM)
   obtain ⟨w',c1,c2⟩:=hw.setAt he4 (d:=0) (ys:=[I (blk o (T n):Nat)]) (a:=((blk o (T n):Nat):Int)) ⟨rfl,hei⟩
   obtain ⟨y,hy,hr⟩:=ih (n + 1) w' _ (by omega) (by omega) c2 (by rw [List.length_set]; exact hl) (fun i hi0 hin hil=>by
    by_cases e:i=n
    ·subst e; exact List.getElem?_set_self hbM
    ·rw [List.getElem?_set_ne (fun h=>e (hI.inj hil hn h.symm))]
     exact hm i hi0 (by omega) hil) (fun c hc hno=>by
    rw [List.getElem?_set_ne (hno n h0 (by omega) hn)]
    exact hm2 c hc fun i hi0 hin hil=>hno i hi0 (by omega) hil)
   refine ⟨y,?_,hr⟩
   have ann:asNat (I (n:Nat))=some n:=asNat_nat (by omega)
   have hl4:l.length=o.length:=hT.1
   unfold f9_5
   refine Goes.tv k0.len (Goes.tv rfl (Goes.ite (v:=true) (by simp [asBool]; omega) (fun _=>?_) fun h=>nomatch h))
   refine Goes.nat k0.slLen (Goes.nat ann (Goes.chk ?_ (Goes.tvs he1 (Goes.chk rfl (Goes.nat k4.slLen (Goes.nat ann (Goes.chk ?_ (Goes.tvs he2 (Goes.chk rfl ?_)))))))))
   ·rw [k0.slSize]; simp; omega
   ·rw [k4.slSize]; simp; omega
   refine Goes.nat k0.slLen (Goes.nat (asNat_nat (k:=T n) (by omega)) (Goes.chk ?_ (Goes.tvs he3 (Goes.chk rfl (Goes.nat hw.slLen (Goes.nat (asNat_nat (k:=blk o n) (by omega)) (Goes.chk ?_ (Goes.tvs he4 (Goes.chk rfl (Goes.tv c1 (Goes.tv (inc hn (by omega)) (f9_5_J hy))))))))))))
   ·rw [k0.slSize]; simp; omega
   ·rw [hw.slSize]; simp; omega
  ·exact fin n w M (by omega) h0 hw hl hm hm2
theorem ovrNone {w4:TV} {l:List Int} {T:Nat→Nat} (k4:RInts (some true) w4 l) (hT:TreeL o.length l T) (hL:Low o.length T) (hov:∀ n,n≠0→n < o.length→ovN f.blocks (blk o n)=((blk o (T n):Nat):Int)):∀ (d k:Nat) (w:TV) (M:List Int),k + d=f.blocks.length→RInts (some true) w M→M.length=f.blocks.length→(∀ i,i < k→M[i]? = some (-1)) →
  ∃ y,Goes prog 9 (f9_3 (I f.blocks.length) (I k) w v0 v1 w4) y∧RInts (some true) y (overL f.blocks):=by
 intro d
 induction d with
 | zero =>
  intro k w M hk hw hl hm
  have hk:k=f.blocks.length:=by omega
  subst hk
  obtain ⟨y,hy,hr⟩:=ovrLast hb hs hI hol k0 (v1:=v1) k4 hT hL hov o.length 1 w M (by omega) (by omega) hw hl (fun i h0 h1=>by omega) (fun c hc _=>hm c hc)
  refine ⟨y,?_,hr⟩
  unfold f9_3
  refine Goes.tv rfl (Goes.ite asB_end (fun h=>nomatch h) fun _=>f9_4_J ?_)
  unfold f9_4
  exact f9_5_J hy
 | succ d ih =>
  intro k w M hk hw hl hm
  have hkl:k < f.blocks.length:=by omega
  have hkM:k < M.length:=by omega
  obtain ⟨e4,he4,rfl,_⟩:=hw.pel (List.getElem?_eq_getElem hkM)
  obtain ⟨w',c1,c2⟩:=hw.setAt he4 (d:=0) (ys:=[I (-1)]) (a:=-1) ⟨rfl,⟨by decide,by decide⟩⟩
  obtain ⟨y,hy,hr⟩:=ih (k + 1) w' _ (by omega) c2 (by rw [List.length_set]; exact hl) (fun i hi=>by
   by_cases e:k=i
   ·subst e; exact List.getElem?_set_self hkM
   ·rw [List.getElem?_set_ne e]; exact hm i (by omega))
  refine ⟨y,?_,hr⟩
  unfold f9_3
  refine Goes.tv rfl (Goes.ite (asB_lt hkl) (fun _=>?_) fun h=>nomatch h)
  refine Goes.nat hw.slLen (Goes.nat (asNat_nat (by omega)) (Goes.chk ?_ (Goes.tvs he4 (Goes.chk rfl (Goes.tv c1 (Goes.tv (inc hkl (by omega)) (f9_3_J hy)))))))
  rw [hw.slSize]; simp; omega
include k1
theorem ovrTree {p0 : Nat → Nat} (hG : Grf o.length (prL f.blocks o) p0) : ∀ (z : Nat) (w : TV) (l : List Int) (T : Nat → Nat), high T o.length < z → RInts (some true) w l → TreeL o.length l T → TI o.length (prL f.blocks o) p0 1 T →
  ∃ y,Goes prog 9 (f9_0 (I f.params) (I f.regs) b v0 v1 w) y∧RInts (some true) y (overL f.blocks):=by
 intro z
 induction z with
 | zero=>intro w l T hz; omega
 | succ z ihz =>
  intro w0 l0 T0 hz0 hw0 hT0 hTI0
  have sweep : ∀ (d n : Nat) (c : Bool) (w : TV) (l : List Int) (T : Nat → Nat), o.length - n ≤ d → n ≠ 0 → RInts (some true) w l → TreeL o.length l T → TI o.length (prL f.blocks o) p0 n T → high T o.length ≤ high T0 o.length → (c = true → high T o.length < high T0 o.length) →
    (c=false→∀ i,i≠0→i < n→i < o.length→∀ x,Up T (T i) x ↔ ∀ p ∈ prL f.blocks o i,Up T p x) →
    ∃ y,Goes prog 9 (f9_1 (B c) (I n) (I f.params) (I f.regs) b v0 v1 w) y∧RInts (some true) y (overL f.blocks):=by
   have fin:∀ (n:Nat) (c:Bool) (w:TV) (l:List Int) (T:Nat→Nat),o.length≤n→n≠0→RInts (some true) w l→TreeL o.length l T→TI o.length (prL f.blocks o) p0 n T→(c=true→high T o.length < high T0 o.length) →
     (c=false→∀ i,i≠0→i < n→i < o.length→∀ x,Up T (T i) x ↔ ∀ p ∈ prL f.blocks o i,Up T p x) →
     ∃ y,Goes prog 9 (f9_1 (B c) (I n) (I f.params) (I f.regs) b v0 v1 w) y∧RInts (some true) y (overL f.blocks):=by
    intro n c w l T hn h0 hw hT hTI hc1 hc0
    have hl:l.length=o.length:=hT.1
    cases c with
    | true =>
     obtain ⟨y,hy,hr⟩:=ihz w l T (by have:=hc1 rfl; omega) hw hT (hTI.again hn)
     refine ⟨y,?_,hr⟩
     unfold f9_1
     exact Goes.tv hw.len (Goes.tv rfl (Goes.ite (v:=false) (by simp [asBool]; omega) (fun h=>nomatch h) fun _=>Goes.ite (v:=true) rfl (fun _=>f9_0_J hy) fun h=>nomatch h))
    | false =>
     obtain ⟨y,hy,hr⟩:=ovrNone hb hs hI hol k0 (v1:=v1) hw hT hTI.low (fun i h0 hi=>hI.ov hG hTI (fun n h0 hn=>hc0 rfl n h0 (by omega) hn) h0 hi) f.blocks.length 0 _ _ (by omega) (rep_ints (n:=f.blocks.length) (a:=0) ⟨by decide,by decide⟩ (by omega)) (by simp) (fun i hi=>absurd hi (Nat.not_lt_zero _))
     refine ⟨y,?_,hr⟩
     have hnb:asNat (I (f.blocks.length:Nat))=some f.blocks.length:=asNat_nat (by omega)
     unfold f9_1
     refine Goes.tv hw.len (Goes.tv rfl (Goes.ite (v:=false) (by simp [asBool]; omega) (fun h=>nomatch h) fun _=>Goes.ite (v:=false) rfl (fun h=>nomatch h) fun _=>f9_2_J ?_))
     unfold f9_2
     exact Goes.tv hb.len (Goes.nat hnb (Goes.nat hnb (Goes.chk (by simp; omega) (Goes.tv (rep_ints (n:=f.blocks.length) (a:=0) ⟨by decide,by decide⟩ (by omega)).len (by
      rw [List.length_replicate]
      exact f9_3_J hy)))))
   intro d
   induction d with
   | zero=>intro n c w l T hd h0 hw hT hTI _ hc1 hc0; exact fin n c w l T (by omega) h0 hw hT hTI hc1 hc0
   | succ d ih =>
    intro n c w l T hd h0 hw hT hTI hhi hc1 hc0
    by_cases hn:n < o.length
    ·have hl:l.length=o.length:=hT.1
     obtain ⟨p,hp,_⟩:=hI.low h0 hn
     have hne:prL f.blocks o n≠[]:=fun e=>by rw [e] at hp; cases hp
     obtain ⟨r,a1,a2,a3⟩:=all_ex hT hTI.low hne (hG.in_ n hn)
     obtain ⟨e1,he1,u,rfl,hu⟩:=k1.pel (i:=n) (a:=prL f.blocks o n) (by simp [hn])
     obtain ⟨e2,he2,rfl,_⟩:=hw.pel (hT.2 n hn)
     have hgp:=k1.deep he1 (j:=0) (z:=u) rfl
     have hplen:(prL f.blocks o n).length≤1000000:=by
      have:=prTo_len f.blocks o n o.length
      unfold prL
      omega
     have hcall:=rAll8 (a:=frz v0) (b:=frz v1) (hw.frz fun _ _ h=>h.frz) (hu.frz fun _ _ h=>h.frz) hT hTI.low hne (hG.in_ n hn) (by omega) hplen a1
     have ann:asNat (I (n:Nat))=some n:=asNat_nat (by omega)
     have hle:=TI.lower_le hG hTI h0 hn a3
     have hnx:=TI.next hG hTI h0 hn a3
     have hup:=high_upd (T:=T) (m:=n) (v:=r) o.length hn
     have front:∀ {y:TV},(r=T n→Goes prog 9 (f9_1 (B c) (I ((n + 1:Nat):Int)) (I f.params) (I f.regs) b v0 v1 w) y)→(∀ w',setC [] w n 0 [I (r:Int)]=some w'→r≠T n→Goes prog 9 (f9_1 (B true) (I ((n + 1:Nat):Int)) (I f.params) (I f.regs) b v0 v1 w') y)→(∃ w',setC [] w n 0 [I (r:Int)]=some w') →
       Goes prog 9 (f9_1 (B c) (I n) (I f.params) (I f.regs) b v0 v1 w) y:=by
      rintro y g1 g2 ⟨w',hw'⟩
      unfold f9_1
      refine Goes.tv hw.len (Goes.tv rfl (Goes.ite (v:=true) (by simp [asBool]; omega) (fun _=>?_) fun h=>nomatch h))
      refine Goes.nat k1.slLen (Goes.nat ann (Goes.chk ?_ (Goes.tvs he1 (Goes.chk (fit_slc hu.isSl) (Goes.tv hgp (Goes.call hcall (Goes.chk rfl ?_)))))))
      ·rw [k1.slSize]; simp; omega
      refine Goes.nat hw.slLen (Goes.nat ann (Goes.chk ?_ (Goes.tvs he2 (Goes.chk rfl (Goes.tv rfl (Goes.ite rfl (fun h=>?_) fun h=>?_))))))
      ·rw [hw.slSize]; simp; omega
      ·have hne:r≠T n:=by
        have h1:((r:Int) != (T n:Int))=true:=h
        have h2:¬ (r:Int)=(T n:Int):=by simpa using h1
        omega
       refine Goes.nat hw.slLen (Goes.nat ann (Goes.chk ?_ (Goes.tvs he2 (Goes.chk rfl (Goes.tv hw' (Goes.tv (inc hn (by omega)) (f9_1_J (g2 w' hw' hne))))))))
       rw [hw.slSize]; simp; omega
      ·have hre:r=T n:=by
        have h1:((r:Int) != (T n:Int))=false:=h
        have h2:(r:Int)=(T n:Int):=by simpa using h1
        omega
       exact Goes.tv (inc hn (by omega)) (f9_1_J (g1 hre))
     have hrI:inI (r:Int):=by constructor <;> omega
     obtain ⟨w',c1,c2⟩:=hw.setAt he2 (d:=0) (ys:=[I (r:Int)]) (a:=(r:Int)) ⟨rfl,hrI⟩
     by_cases e:r=T n
     ·have hsame:updT T n r=T:=by
       funext i
       by_cases hi:i=n
       ·subst hi; rw [updT_at,e]
       ·rw [updT_ne hi]
      rw [hsame] at hnx
      obtain ⟨y,hy,hr⟩:=ih (n + 1) c w l T (by omega) (by omega) hw hT hnx hhi hc1 (fun hc i hi0 hin hil=>by
       by_cases hi:i=n
       ·subst hi; rw [← e]; exact a3
       ·exact hc0 hc i hi0 (by omega) hil)
      exact ⟨y,front (fun _=>hy) (fun _ _ h=>absurd e h) ⟨w',c1⟩,hr⟩
     ·obtain ⟨y,hy,hr⟩:=ih (n + 1) true w' _ (updT T n r) (by omega) (by omega) c2 (hT.upd hn) hnx (by omega) (fun _=>by omega) (fun h=>nomatch h)
      refine ⟨y,front (fun h=>absurd h e) (fun w'' h _=>?_) ⟨w',c1⟩,hr⟩
      rw [c1] at h
      cases h
      exact hy
    ·exact fin n c w l T (by omega) h0 hw hT hTI hc1 hc0
  obtain ⟨y,hy,hr⟩:=sweep o.length 1 false w0 l0 T0 (by omega) (by omega) hw0 hT0 hTI0 (Nat.le_refl _) (fun h=>nomatch h) (fun _ i h0 h1=>by omega)
  refine ⟨y,?_,hr⟩
  unfold f9_0
  exact f9_1_J hy
end
theorem rOver8 {q:Option Bool} {e:List TV} {f:DFunc} (he:RFunc q e f) (hs:f.blocks.length≤1000):∃ y,Runs prog 9 [.agg e] y∧RInts (some true) y (overL f.blocks):=by
 obtain ⟨v0,v1,v2,o,l,hv,hO,k0,k1,k2,hT⟩:=rRank8 he hs
 have he0:=he
 obtain ⟨b,rfl,hb,_⟩:=he
 have hI:=hO.keeps
 have hol:o.length≤1000:=Nat.le_trans hI.len hs
 obtain ⟨y,hy,hr⟩:=ovrTree hb hs hI hol k0 k1 hI.grfZ (high (p0Z f.blocks o) o.length + 1) v2 l _ (by omega) k2 hT (TI.start hI.grfZ 1)
 refine ⟨y,?_,hr⟩
 refine Runs.of (f9_MR _) ?_
 unfold f9_M
 refine Goes.chk rfl (Goes.call hv (Goes.chk ?_ (f9_0_J hy)))
 show (true && (v0.isSl && (v1.isSl && (v2.isSl && true))))=true
 rw [k0.isSl,k1.isSl,k2.isSl]; rfl
end Go.Ab.V8
end

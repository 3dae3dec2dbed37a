import Derived.Test.YtfnpejmlcbkepaaUX8
import Derived.Test.YtfnpejmlcbkepaaUQ12F71
set_option linter.all false
section
set_option maxRecDepth 10000
namespace Go.Ab
def blk (o:List Int) (n:Nat):Nat:=(o[n]?.getD 0).toNat
section
variable {bs:List DBlock} {o:List Int} (hI:OI bs o)
include hI
theorem OI.at_ {n:Nat} (h:n < o.length):o[n]? = some ((blk o n:Nat):Int):=by
 have hx:=El h
 have hp:=(hI.pos _ (Eu hx)).1
 unfold blk
 rw [hx]
 simp only [Option.getD_some]
 congr 1
 omega
theorem OI.gS {n:Nat} (h:n < o.length):blk o n < bs.length:=by
 have:=(hI.pos _ (Eu (hI.at_ h))).2
 omega
theorem OI.inj {n m:Nat} (h:n < o.length) (h':m < o.length) (e:blk o n=blk o m):n=m:=by
 have h1:=hI.at_ h
 have h2:=hI.at_ h'
 rw [e,<- h2] at h1
 exact (List.getElem?_inj h hI.nod).1 h1
theorem OI.rank {b:Nat} (h:Rc bs (-1) b):∃ n,n < o.length/\blk o n=b:=by
 obtain ⟨n,hn,e⟩:=List.mem_iff_getElem.1 ((hI.mem b).2 h)
 refine ⟨n,hn,?_⟩
 have:=hI.at_ hn
 rw [El hn,e] at this
 simp only [Em] at this
 omega
theorem OI.rc {n:Nat} (h:n < o.length):Rc bs (-1) (blk o n):=(hI.mem _).1 (Eu (hI.at_ h))
theorem OI.zero (h:bs≠[]):0 < o.length/\blk o 0=0:=by
 have:=hI.first h
 cases o with
 | nil=>cases this
 | cons a o =>
  simp only [List.head?_cons,Em] at this
  subst this
  exact ⟨by simp,rfl⟩
end
def lL (o:List Int) (k n:Nat) (l:List Int):List Nat:=(l.filter fun g=>decide (g=((blk o n:Nat):Int))).map fun _=>k
def oO (bs:List DBlock) (o:List Int):Nat->Nat->List Nat
 | 0,_=>[]
 | k + 1,n=>oO bs o k n ++ lL o k n (am bs (blk o k))
def prL (bs:List DBlock) (o:List Int) (n:Nat):List Nat:=oO bs o o.length n
theorem l7 {o:List Int} {k n p:Nat} {l:List Int}:p ∈ lL o k n l ↔ p=k/\((blk o n:Nat):Int) ∈ l:=by
 unfold lL
 simp only [List.mem_map,List.mem_filter,decide_eq_true_eq]
 constructor
 ·rintro ⟨g,⟨h1,rfl⟩,rfl⟩; exact ⟨rfl,h1⟩
 ·rintro ⟨rfl,h⟩; exact ⟨_,⟨h,rfl⟩,rfl⟩
theorem rz {bs:List DBlock} {o:List Int} {n p:Nat}:∀ {k:Nat},p ∈ oO bs o k n ↔ p < k/\((blk o n:Nat):Int) ∈ am bs (blk o p)
 | 0=>by simp [oO]
 | k + 1 => by
  simp only [oO,List.mem_append,rz (k:=k),l7]
  constructor
  ·rintro (⟨h1,h2⟩ | ⟨rfl,h⟩)
   ·exact ⟨by omega,h2⟩
   ·exact ⟨by omega,h⟩
  ·rintro ⟨h1,h2⟩
   by_cases e:p=k
   ·subst e; exact .inr ⟨rfl,h2⟩
   ·exact .inl ⟨by omega,h2⟩
theorem ow {bs:List DBlock} {o:List Int} {n p:Nat}:p ∈ prL bs o n ↔ p < o.length/\((blk o n:Nat):Int) ∈ am bs (blk o p):=rz
theorem pP {bs:List DBlock} {o:List Int} {n:Nat}:∀ (k:Nat),(oO bs o k n).Pairwise (·<=·)
 | 0=>.nil
 | k + 1 => by
  simp only [oO]
  refine List.pairwise_append.2 ⟨pP k,?_,fun a ha b hb=>?_⟩
  ·refine List.pairwise_of_forall_mem_list fun a ha b hb=>?_
   rw [(l7.1 ha).1,(l7.1 hb).1]
   exact Nat.le_refl _
  ·have:=(rz.1 ha).1
   rw [(l7.1 hb).1]
   omega
def p0L (bs:List DBlock) (o:List Int) (n:Nat):Nat:=(prL bs o n)[0]?.getD 0
theorem Ef {bs:List DBlock} {o:List Int} {n p:Nat} (h:p ∈ prL bs o n):p0L bs o n ∈ prL bs o n/\p0L bs o n<=p:=by
 have hs:=pP (bs:=bs) (o:=o) (n:=n) o.length
 unfold p0L
 cases hl:prL bs o n with
 | nil=>rw [hl] at h; cases h
 | cons a l =>
  unfold prL at hl
  rw [hl] at hs
  have h1:=(List.pairwise_cons.1 hs).1
  refine ⟨by simp,?_⟩
  unfold prL at h
  rw [hl] at h
  rcases List.mem_cons.1 h with rfl | h
  ·simp
  ·have:=h1 p h
   simpa using this
theorem p0_at {bs:List DBlock} {o:List Int} {n:Nat} (h:prL bs o n≠[]):(prL bs o n)[0]? = some (p0L bs o n):=by
 unfold p0L
 cases hl:prL bs o n with
 | nil=>exact absurd hl h
 | cons a l=>rfl
section
variable {bs:List DBlock} {o:List Int} (hI:OI bs o)
include hI
theorem OI.low {n:Nat} (h0:n≠0) (hn:n < o.length):∃ p,p ∈ prL bs o n/\p < n:=by
 have hat:=hI.at_ hn
 have he:o=o.take n ++ ((blk o n:Nat):Int) :: o.drop (n + 1):=by
  have h1:=El hn
  rw [hat] at h1
  simp only [Em] at h1
  rw [h1,List.getElem_cons_drop,List.take_append_drop]
 rcases hI.led _ _ _ he with h1 | ⟨p,h1,h2⟩
 ·exfalso
  have hb:bs≠[]:=fun e=>by have:=hI.gS hn; rw [e] at this; cases this
  obtain ⟨z1,z2⟩:=hI.zero hb
  exact h0 (hI.inj hn z1 (by rw [z2]; omega))
 ·obtain ⟨m,hm,e⟩:=List.mem_iff_getElem.1 h2
  simp only [List.length_take] at hm
  rw [List.getElem_take] at e
  have hm2:m < o.length:=by omega
  have hbm:=hI.at_ hm2
  rw [El hm2,e] at hbm
  simp only [Em] at hbm
  refine ⟨m,ow.2 ⟨hm2,?_⟩,by omega⟩
  rw [show blk o m=p by omega]
  exact h1
theorem OI.grf:Grf o.length (prL bs o) (p0L bs o):=by
 refine ⟨fun n hn p hp=>(ow.1 hp).1,fun n h0 hn=>?_,fun n h0 hn=>?_⟩
 ·obtain ⟨p,h1,h2⟩:=hI.low h0 hn
  exact (Ef h1).1
 ·obtain ⟨p,h1,h2⟩:=hI.low h0 hn
  exact Nat.lt_of_le_of_lt (Ef h1).2 h2
theorem OI.rv {d n:Nat} (hd:d < o.length) (hn:n < o.length):Rv (prL bs o) d n ↔ Rc bs ((blk o d:Nat):Int) (blk o n):=by
 have hb:bs≠[]:=fun e=>by have:=hI.gS hn; rw [e] at this; cases this
 obtain ⟨z1,z2⟩:=hI.zero hb
 constructor
 ·intro h
  have key:∀ {n:Nat},Rv (prL bs o) d n->n < o.length->Rc bs ((blk o d:Nat):Int) (blk o n):=by
   intro n h
   induction h with
   | start h0 =>
    intro _
    rw [z2]
    refine .start (fun e=>h0 (hI.inj z1 hd (by omega))) (List.length_pos_iff.2 hb)
   | @next p n _ hp hne ih =>
    intro hn
    obtain ⟨q1,q2⟩:=ow.1 hp
    have:=Rc.next (ih q1) q2 (fun e=>hne (hI.inj hn hd (by omega)))
    simpa using this
  exact key h hn
 ·intro h
  have key:∀ {b:Nat},Rc bs ((blk o d:Nat):Int) b->∃ n,n < o.length/\blk o n=b/\Rv (prL bs o) d n:=by
   intro b h
   induction h with
   | start h0 _=>exact ⟨0,z1,z2,.start fun e=>h0 (by rw [<- e,z2]; rfl)⟩
   | @next i g hi hg hne ih =>
    obtain ⟨m,m1,m2,m3⟩:=ih
    have ht:=aI hg
    obtain ⟨n,n1,n2⟩:=hI.rank (Rc.next hi hg hne).any
    refine ⟨n,n1,n2,.next m3 (ow.2 ⟨m1,?_⟩) fun e=>hne ?_⟩
    ·rw [n2,m2,show ((g.toNat:Nat):Int)=g by omega]; exact hg
    ·rw [<- e,n2]; omega
  obtain ⟨m,m1,m2,m3⟩:=key h
  rw [hI.inj hn m1 m2.symm]
  exact m3
variable {T p0:Nat->Nat} {m:Nat} (hG:Grf o.length (prL bs o) p0) (h:TI o.length (prL bs o) p0 m T) (hf:∀ n,n≠0->n < o.length->∀ x,Up T (T n) x ↔ ∀ p ∈ prL bs o n,Up T p x)
include hG h hf
theorem OI.up {n x:Nat} (hn:n < o.length) (hx:x < o.length):Dm bs (blk o x) (blk o n) ↔ Up T n x:=by
 rw [Dm.self,h.last hG hf hn,hI.rv hx hn]
 exact ⟨fun h=>h.2,fun h=>⟨hI.rc hn,h⟩⟩
theorem OI.nx {n:Nat} (h0:n≠0) (hn:n < o.length):Nx bs (blk o (T n)) (blk o n):=by
 have hl:=h.low n h0 hn
 have ht:T n < o.length:=by omega
 refine ⟨fun e=>by have:=hI.inj ht hn e; omega,(hI.up hG h hf hn ht).2 (.step h0 .refl),fun c hc hd=>?_⟩
 obtain ⟨x,x1,rfl⟩:=hI.rank hd.up
 have hu:=(hI.up hG h hf hn x1).1 hd
 exact (hI.up hG h hf ht x1).2 (hu.inv fun e=>hc (by rw [e])).2
theorem OI.ov {n:Nat} (h0:n≠0) (hn:n < o.length):ovN bs (blk o n)=((blk o (T n):Nat):Int):=Bx (hI.nx hG h hf h0 hn)
end
def p0Z (bs:List DBlock) (o:List Int) (n:Nat):Nat:=if n=0 then 0 else p0L bs o n
theorem OI.grfZ {bs:List DBlock} {o:List Int} (hI:OI bs o):Grf o.length (prL bs o) (p0Z bs o) :=
 ⟨hI.grf.in_,fun n h0 hn=>by rw [p0Z,if_neg h0]; exact hI.grf.mem n h0 hn,fun n h0 hn=>by rw [p0Z,if_neg h0]; exact hI.grf.low n h0 hn⟩
theorem jQ:∀ (n:Nat) {l:List Nat},l.Nodup->(∀ x ∈ l,x < n)->l.length<=n
 | 0,l,_,h=>by
  cases l with
  | nil=>exact Nat.le_refl _
  | cons a l=>exact absurd (h a Es) (Nat.not_lt_zero _)
 | n + 1, l, hd, h => by
  by_cases hn:n ∈ l
  ·have:=jQ n (hd.erase n) (fun x hx=>by
    have h1:=h x (List.mem_of_mem_erase hx)
    have h2:x≠n:=fun e=>by subst e; exact absurd hx (hd.not_mem_erase)
    omega)
   rw [List.length_erase_of_mem hn] at this
   omega
  ·have:=jQ n hd (fun x hx=>by
    have h1:=h x hx
    have h2:x≠n:=fun e=>by subst e; exact hn hx
    omega)
   omega
theorem OI.len {bs:List DBlock} {o:List Int} (hI:OI bs o):o.length<=bs.length:=by
 have h1:(o.map Int.toNat).Nodup:=by
  refine List.pairwise_map.2 (List.Pairwise.imp_of_mem (fun {a b} ha hb hne e=>hne ?_) hI.nod)
  have:=hI.pos a ha
  have:=hI.pos b hb
  omega
 have:=jQ bs.length h1 (fun x hx=>by
  obtain ⟨a,ha,rfl⟩:=List.mem_map.1 hx
  have:=hI.pos a ha
  omega)
 simpa using this
end Go.Ab
end
section
set_option maxRecDepth 10000
namespace Go.Ab
def RIL (q:Option Bool) (e:List TV) (l:List Nat):Prop:=∃ v,e=[v]/\RInts q v (bi l)
theorem RIL.own {e:List TV} {l:List Nat} (h:RIL (some true) e l):df e=true:=by
 obtain ⟨v,rfl,h⟩:=h
 have:=h.own fun _ _ h=>h.own
 simp [df,this]
theorem RIL.frz {q:Option Bool} {e:List TV} {l:List Nat} (h:RIL q e l):RIL (some false) (pc e) l:=by
 obtain ⟨v,rfl,h⟩:=h
 exact ⟨Ab.frz v,rfl,h.frz fun _ _ h=>h.frz⟩
theorem sO {n:Nat} (h:n<=9223372036854775807):RL (some true) 1 (RIL (some true)) (.sl true 1 (List.replicate n [.lit aD])) (List.replicate n []):=.sl (by simp) (F2.tj (by simp) fun i e a he ha=>by
 rw [List.getElem?_replicate] at he ha
 by_cases hi:i < n
 ·rw [if_pos hi] at he ha
  cases he
  cases ha
  exact ⟨_,rfl,.nil⟩
 ·rw [if_neg hi] at he
  cases he) (by simpa using h)
theorem kZ {n:Nat} {a:Int} (ha:inI a) (h:n<=9223372036854775807):RInts (some true) (.sl true 1 (List.replicate n [I a])) (List.replicate n a):=.sl (by simp) (F2.tj (by simp) fun i e b he hb=>by
 rw [List.getElem?_replicate] at he hb
 by_cases hi:i < n
 ·rw [if_pos hi] at he hb
  cases he
  cases hb
  exact ⟨rfl,ha⟩
 ·rw [if_neg hi] at he
  cases he) (by simpa using h)
theorem oJ {α:Type}:∀ {l:List α} {n:Nat} {a b:α},l[n]? = some a->(al l n b)[n]? = some b
 | [],n,a,b,h=>by simp at h
 | c :: l,0,a,b,h=>rfl
 | c :: l,n + 1,a,b,h=>by simp only [List.getElem?_cons_succ] at h; simp only [al,List.getElem?_cons_succ]; exact oJ h
theorem rZ {α:Type}:∀ {l:List α} {n:Nat} {a b:α},al (al l n a) n b=al l n b
 | [],n,a,b=>rfl
 | c :: l,0,a,b=>rfl
 | c :: l,n + 1,a,b=>by simp only [al,rZ]
theorem RL.yO {y v:TV} {ll:List (List Nat)} (hy:RL (some true) 1 (RIL (some true)) y ll) {n:Nat} (he:Go.Ab.pel y n=some [v]):∃ y1,gI [(n,0)] y .hole=some y1/\Go.Ab.slLen y1=some ll.length/\Go.Ab.slSize y1 1=true/\Go.Ab.pel y1 n=some [.hole] /\
  ∀ {v':TV} {l':List Nat},RInts (some true) v' (bi l')->∃ y2,di [] y1 n 0 [v']=some y2/\RL (some true) 1 (RIL (some true)) y2 (ll.set n l'):=by
 obtain ⟨xs,rfl,hk,hf,hb⟩:=hy.at he
 have hset:al [v] 0 TV.hole=[TV.hole]:=rfl
 refine ⟨.sl true 1 (al xs n [.hole]),?_,?_,rfl,oJ hk,fun {v' l'} hv=>?_⟩
 ·simp only [gI,hk,List.getElem?_cons_zero,hset]
 ·simp only [Go.Ab.slLen,io,hf.length]
 ·refine ⟨.sl true 1 (al xs n [v']),?_,.sl (by simp) (hf.set ⟨v',rfl,hv⟩) (by rw [io]; exact hb)⟩
  simp only [di,bP,wy,oJ hk,gI]
  rw [rZ]
  rfl
theorem jp (l m:List Nat):bi (l ++ m)=bi l ++ bi m:=by simp [bi]
def k8 (bs:List DBlock) (o:List Int) (k j n:Nat):List Nat:=oO bs o k n ++ lL o k n ((am bs (blk o k)).take j)
def dL (bs:List DBlock) (o:List Int) (k j:Nat):List (List Nat):=(List.range o.length).map (k8 bs o k j)
theorem uI (o:List Int) (k n:Nat) (l:List Int):(lL o k n l).length<=l.length:=by
 unfold lL
 rw [List.length_map]
 exact List.length_filter_le _ _
theorem tg (bs:List DBlock) (o:List Int) (n:Nat):∀ k,(oO bs o k n).length<=3 * k
 | 0=>by simp [oO]
 | k + 1=>by
  have h1:=tg bs o n k
  have h2:=uI o k n (am bs (blk o k))
  have h3:=fL bs (blk o k)
  simp only [oO,List.length_append]
  omega
theorem Aq (bs:List DBlock) (o:List Int) (k j n:Nat):(k8 bs o k j n).length<=3 * k + 3:=by
 have h1:=tg bs o n k
 have h2:=uI o k n ((am bs (blk o k)).take j)
 have h3:=fL bs (blk o k)
 rw [List.length_take] at h2
 simp only [k8,List.length_append]
 omega
theorem l5 {bs:List DBlock} {o:List Int} {k j n:Nat} (h:n < o.length):(dL bs o k j)[n]? = some (k8 bs o k j n):=by simp [dL,h]
theorem vG (bs:List DBlock) (o:List Int):dL bs o 0 0=List.replicate o.length []:=by
 apply List.ext_getElem?
 intro n
 rw [List.getElem?_replicate]
 by_cases h:n < o.length
 ·rw [l5 h,if_pos h]; simp [k8,oO,lL]
 ·rw [if_neg h,Ex (by simp [dL]; omega)]
theorem xU (bs:List DBlock) (o:List Int):dL bs o o.length 0=(List.range o.length).map (prL bs o):=by
 unfold dL
 refine List.map_congr_left fun n _=>?_
 simp [k8,lL,prL]
theorem wG (bs:List DBlock) (o:List Int) (k:Nat):dL bs o k (am bs (blk o k)).length=dL bs o (k + 1) 0:=by
 unfold dL
 refine List.map_congr_left fun n _=>?_
 simp [k8,oO,lL]
theorem xu {bs:List DBlock} {o:List Int} (hI:OI bs o) {k j n:Nat} (hn:n < o.length) (hg:(am bs (blk o k))[j]? = some ((blk o n:Nat):Int)):dL bs o k (j + 1)=(dL bs o k j).set n (k8 bs o k j n ++ [k]):=by
 apply List.ext_getElem?
 intro m
 by_cases hm:m < o.length
 ·rw [l5 hm]
  by_cases hmn:n=m
  ·subst hmn
   rw [List.getElem?_set_self (by simp [dL]; exact hm)]
   simp only [k8,ir hg,lL,List.filter_append,List.map_append,List.append_assoc]
   simp
  ·rw [List.getElem?_set_ne hmn,l5 hm]
   simp only [k8,ir hg,lL,List.filter_append,List.map_append]
   have:¬ ((blk o n:Nat):Int)=((blk o m:Nat):Int):=fun e=>hmn (hI.inj hn hm (by omega))
   simp [this]
 ·rw [Ex (by simp [dL]; omega),Ex (by simp [dL]; omega)]
end Go.Ab
namespace Go.Ab.Q12
open Go Go.Ab Go.Proofs
section
variable {q:Option Bool} {b:TV} {f:DFunc} (hf:RFunc q [I f.params,I f.regs,b] f) (hs:f.blocks.length<=1000) {x:TV} {o:List Int} {qx:Option Bool} (hx:RInts qx x o) (hI:OI f.blocks o) (hol:o.length<=1000)
include hf hs hx hI hol
theorem Dg {w6:TV} {M:List Int} (hM:RInts (some true) w6 M) (hMl:M.length=f.blocks.length) (hMa:∀ n,n < o.length->M[blk o n]? = some ((n:Nat):Int)):∀ (d k:Nat) (w:TV),k + d=o.length->RL (some true) 1 (RIL (some true)) w (dL f.blocks o k 0) ->
  ∃ y,aa prog 74 (f74_2 x (I o.length) (I k) (I f.params) (I f.regs) b w6 w) y/\RL (some true) 1 (RIL (some true)) y ((List.range o.length).map (prL f.blocks o)):=by
 intro d
 induction d with
 | zero =>
  intro k w hk hw
  have hk:k=o.length:=by omega
  subst hk
  rw [xU] at hw
  refine ⟨w,?_,hw⟩
  unfold f74_2
  exact aa.tv rfl (aa.ite cM nofun fun _=>aa.chk (hw.own fun _ _ h=>h.own) aa.ret)
 | succ d ih =>
  intro k w hk hw
  have hkl:k < o.length:=by omega
  obtain ⟨e,he,rfl,hei⟩:=hx.idx (k:=.i64) (hI.at_ hkl)
  obtain ⟨v,hv,hvr⟩:=r71 hf ((blk o k:Nat):Int)
  rw [lT] at hvr
  have hnl:=fL f.blocks (blk o k)
  have inner:∀ (c j:Nat) (w:TV),j + c=(am f.blocks (blk o k)).length->RL (some true) 1 (RIL (some true)) w (dL f.blocks o k j) ->
    ∃ y,aa prog 74 (f74_3 (I k) x (I o.length) (I k) (I (am f.blocks (blk o k)).length) (I j) (I f.params) (I f.regs) b w6 w v) y/\RL (some true) 1 (RIL (some true)) y ((List.range o.length).map (prL f.blocks o)):=by
   intro c
   induction c with
   | zero =>
    intro j w hj hw
    have hj:j=(am f.blocks (blk o k)).length:=by omega
    subst hj
    rw [wG] at hw
    obtain ⟨y,hy,hr⟩:=ih (k + 1) w (by omega) hw
    refine ⟨y,?_,hr⟩
    unfold f74_3
    exact aa.tv rfl (aa.ite cM nofun fun _=>aa.tv (inc hkl (by omega)) (f74_2_J hy))
   | succ c ihc =>
    intro j w hj hw
    have hjl:j < (am f.blocks (blk o k)).length:=by omega
    obtain ⟨g,hgg⟩:∃ g,g=(am f.blocks (blk o k))[j]:=⟨_,rfl⟩
    have hg:(am f.blocks (blk o k))[j]? = some g:=by rw [hgg]; exact El hjl
    have hgm:=Eu hg
    have hgt:=aI hgm
    obtain ⟨n,hn,hnb⟩:=hI.rank (Rc.next (hI.rc hkl) hgm (by omega))
    have hgn:g=((blk o n:Nat):Int):=by omega
    subst hgn
    obtain ⟨e1,he1,rfl,_⟩:=hvr.pel hg
    obtain ⟨e2,he2,rfl,_⟩:=hM.pel (hMa n hn)
    obtain ⟨e3,he3,u,rfl,hu⟩:=hw.pel (l5 (k:=k) (j:=j) hn)
    have hlen:=Aq f.blocks o k j n
    obtain ⟨u',hu1,hu2⟩:=hu.app (e:=[I k]) (a:=(k:Int)) ⟨rfl,by constructor <;> omega⟩ (by simp only [bi,List.length_map]; omega)
    obtain ⟨w1,t1,t2,t3,t4,t5⟩:=hw.yO he3
    obtain ⟨w2,s1,s2⟩:=t5 (v':=u') (l':=k8 f.blocks o k j n ++ [k]) (by rw [jp]; exact hu2)
    rw [<- xu hI hn hg] at s2
    obtain ⟨y,hy,hr⟩:=ihc (j + 1) w2 (by omega) s2
    refine ⟨y,?_,hr⟩
    have hblt:=hI.gS hn
    have hrl:(dL f.blocks o k j).length=o.length:=by simp [dL]
    have anb:af (nth TV.hole [I ((blk o n:Nat):Int)] 0)=some (blk o n):=ak (by omega)
    have ann:af (nth TV.hole [I ((n:Nat):Int)] 0)=some n:=ak (by omega)
    have c9:(Bool.and (slSize w6 1) (Nat.blt (blk o n) M.length))=true:=by rw [hM.slSize]; simp; omega
    unfold f74_3
    refine aa.tv rfl (aa.ite (cO hjl) (fun _=>?_) nofun)
    refine aa.nat hvr.slLen (aa.nat (ak (by omega)) (aa.chk ?_ (aa.tvs he1 (aa.chk rfl ?_))))
    ·rw [hvr.slSize]; simpa using hjl
    refine aa.nat hM.slLen (aa.nat anb (aa.chk c9 (aa.tvs he2 (aa.chk rfl ?_))))
    refine aa.nat hM.slLen (aa.nat anb (aa.chk c9 (aa.tvs he2 (aa.chk rfl ?_))))
    refine aa.nat hw.slLen (aa.nat ann (aa.chk ?_ (aa.tvs he3 (aa.chk (ba hu.isSl) (aa.chk rfl (aa.rws rfl ?_))))))
    ·rw [hw.slSize,hrl]; simpa using hn
    refine aa.tv (hw.deep he3 (j:=0) (z:=u) rfl) (aa.tv hu1 (aa.tv t1 ?_))
    refine aa.nat t2 (aa.nat ann (aa.chk ?_ (aa.tvs t4 (aa.chk ?_ (aa.tv s1 (aa.tv (inc hjl (by omega)) (f74_3_J hy)))))))
    ·rw [t3,hrl]; simpa using hn
    ·rw [ba hu2.isSl]; rfl
  obtain ⟨y,hy,hr⟩:=inner _ 0 w (Nat.zero_add _) hw
  refine ⟨y,?_,hr⟩
  unfold f74_2
  exact aa.tv rfl (aa.ite (cO hkl) (fun _=>aa.tvs he (aa.chk rfl (aa.call hv (aa.chk (ba hvr.isSl) (aa.tv hvr.len (f74_3_J hy)))))) nofun)
theorem befOf:∀ (d k:Nat) (w:TV) (M:List Int),k + d=o.length->RInts (some true) w M->M.length=f.blocks.length->(∀ n,n < k->M[blk o n]? = some ((n:Nat):Int)) ->
  ∃ y,aa prog 74 (f74_0 x x (I o.length) (I k) (I f.params) (I f.regs) b w) y/\RL (some true) 1 (RIL (some true)) y ((List.range o.length).map (prL f.blocks o)):=by
 intro d
 induction d with
 | zero =>
  intro k w M hk hw hl hm
  have hk:k=o.length:=by omega
  subst hk
  obtain ⟨y,hy,hr⟩:=Dg hf hs hx hI hol hw hl hm o.length 0 _ (by omega) (by rw [vG]; exact sO (n:=o.length) (by omega))
  refine ⟨y,?_,hr⟩
  unfold f74_0
  refine aa.tv rfl (aa.ite cM nofun fun _=>f74_1_J ?_)
  have hn:af (I (o.length:Nat))=some o.length:=ak (by omega)
  unfold f74_1
  exact aa.tv hx.len (aa.nat hn (aa.nat hn (aa.chk (by simp; omega) (aa.tv hx.len (f74_2_J hy)))))
 | succ d ih =>
  intro k w M hk hw hl hm
  have hkl:k < o.length:=by omega
  obtain ⟨e,he,rfl,hei⟩:=hx.idx (k:=.i64) (hI.at_ hkl)
  have hblt:=hI.gS hkl
  have hbM:blk o k < M.length:=by omega
  obtain ⟨e2,he2,rfl,_⟩:=hw.pel (El hbM)
  obtain ⟨w',c1,c2⟩:=hw.i7 he2 (d:=0) (ys:=[I k]) (a:=(k:Int)) ⟨rfl,by constructor <;> omega⟩
  obtain ⟨y,hy,hr⟩:=ih (k + 1) w' _ (by omega) c2 (by simpa using hl) (fun n hn=>by
   by_cases e:n=k
   ·subst e; exact List.getElem?_set_self hbM
   ·rw [List.getElem?_set_ne (fun h=>e (hI.inj (by omega) hkl h.symm))]
    exact hm n (by omega))
  refine ⟨y,?_,hr⟩
  unfold f74_0
  refine aa.tv rfl (aa.ite (cO hkl) (fun _=>aa.tvs he (aa.chk rfl ?_)) nofun)
  refine aa.nat hw.slLen (aa.nat (ak (by omega)) (aa.chk ?_ (aa.chk rfl (aa.tvs he2 (aa.chk rfl (aa.tv c1 (aa.tv (inc hkl (by omega)) (f74_0_J hy))))))))
  rw [hw.slSize]; simpa using hbM
end
theorem Bv {q:Option Bool} {e:List TV} {f:DFunc} (he:RFunc q e f) (hs:f.blocks.length<=1000) {x:TV} {o:List Int} {qx:Option Bool} (hx:RInts qx x o) (hI:OI f.blocks o) (hol:o.length<=1000) :
  ∃ y,bQ prog 74 [.agg e,x] y/\RL (some true) 1 (RIL (some true)) y ((List.range o.length).map (prL f.blocks o)):=by
 have he0:=he
 obtain ⟨b,rfl,hb,_⟩:=he
 obtain ⟨y,hy,hr⟩:=befOf he0 hs hx hI hol o.length 0 _ _ (by omega) (kZ (n:=f.blocks.length) (a:=0) ⟨by decide,by decide⟩ (by omega)) (by simp) (fun n hn=>absurd hn (Nat.not_lt_zero _))
 refine ⟨y,?_,hr⟩
 have hn:af (I (f.blocks.length:Nat))=some f.blocks.length:=ak (by omega)
 refine bQ.of (f74_MR _ _) ?_
 unfold f74_M
 exact aa.chk rfl (aa.tv hb.len (aa.nat hn (aa.nat hn (aa.chk (by simp; omega) (aa.tv hx.len (f74_0_J hy))))))
end Go.Ab.Q12
end
section
set_option maxRecDepth 10000
namespace Go.Ab
theorem RL.Eh {α:Type} {q:Option Bool} {s:Nat} {R:List TV->α->Prop} {x:TV} {l:List α} (h:RL q s R x l) (hl:l≠[]):∃ o xs,x=.sl o s xs/\F2 R xs l:=by
 rcases h with ⟨_,rfl⟩ | ⟨o,xs,rfl,_,h,_⟩
 ·exact absurd rfl hl
 ·exact ⟨o,xs,rfl,h⟩
def fu (p:Nat->Nat) (N n:Nat):List Int:=(List.range N).map fun i=>if i≠0/\i < n then ((p i:Nat):Int) else 0
theorem jK {p:Nat->Nat} {N n i:Nat} (h:i < N):(fu p N n)[i]? = some (if i≠0/\i < n then ((p i:Nat):Int) else 0):=by simp [fu,h]
theorem vO (p:Nat->Nat) (N:Nat):fu p N 1=List.replicate N 0:=by
 apply List.ext_getElem?
 intro i
 rw [List.getElem?_replicate]
 by_cases h:i < N
 ·rw [jK h,if_pos h,if_neg (by omega)]
 ·rw [if_neg h,Ex (by simp [fu]; omega)]
theorem xc {p:Nat->Nat} {N n:Nat} (h0:n≠0) (h:n < N):fu p N (n + 1)=(fu p N n).set n ((p n:Nat):Int):=by
 apply List.ext_getElem?
 intro i
 by_cases hi:i < N
 ·rw [jK hi]
  by_cases e:n=i
  ·subst e
   rw [List.getElem?_set_self (by simp [fu]; exact h),if_pos ⟨h0,by omega⟩]
  ·rw [List.getElem?_set_ne e,jK hi]
   by_cases h2:i≠0/\i < n
   ·rw [if_pos h2,if_pos ⟨h2.1,by omega⟩]
   ·rw [if_neg h2,if_neg (by omega)]
 ·rw [Ex (by simp [fu]; omega),Ex (by simp [fu]; omega)]
theorem x6 (bs:List DBlock) (o:List Int) {n:Nat} (h:o.length<=n):gU o.length (fu (p0L bs o) o.length n) (p0Z bs o):=by
 refine ⟨by simp [fu],fun i hi=>?_⟩
 rw [jK hi]
 unfold p0Z
 by_cases h0:i=0
 ·rw [if_pos h0,if_neg (by omega)]; rfl
 ·rw [if_neg h0,if_pos ⟨h0,by omega⟩]
theorem gU.upd {N:Nat} {l:List Int} {T:Nat->Nat} (h:gU N l T) {m v:Nat} (hm:m < N):gU N (l.set m ((v:Nat):Int)) (mO T m v):=by
 refine ⟨by rw [List.length_set]; exact h.1,fun n hn=>?_⟩
 by_cases e:m=n
 ·subst e; rw [hU,List.getElem?_set_self (by rw [h.1]; exact hm)]
 ·rw [fY (Ne.symm e),List.getElem?_set_ne e]; exact h.2 n hn
end Go.Ab
namespace Go.Ab.Q12
open Go Go.Ab Go.Proofs
theorem yd {y2 y3:TV} {q:Bool} {ov:List (List TV)} {o:List Int} (ho:F2 RI1 ov o) {a b r:Int} (h:Both o a b r):aa prog 91 (f91_0 (I a) (I b) y2 y3 (.sl q 1 ov)) (I r):=by
 induction h with
 | @done a =>
  unfold f91_0
  exact aa.tv rfl (aa.ite (v:=false) (by simp [asBool]) nofun fun _=>aa.ret)
 | @left a b a' r h1 h2 h3 h4 _ ih =>
  obtain ⟨e,he,rfl,_⟩:=ho.get h4
  unfold f91_0
  refine aa.tv rfl (aa.ite (v:=true) (by simp [asBool,h1]) (fun _=>aa.tv rfl (aa.ite (v:=true) (by simp [asBool]; omega) (fun _=>?_) nofun)) nofun)
  exact aa.tvs (v:=[I a']) (by simp [pidx,h3,he]) (aa.chk rfl (f91_0_J ih))
 | @right a b b' r h1 h2 h3 h4 _ ih =>
  obtain ⟨e,he,rfl,_⟩:=ho.get h4
  unfold f91_0
  refine aa.tv rfl (aa.ite (v:=true) (by simp [asBool,h1]) (fun _=>aa.tv rfl (aa.ite (v:=false) (by simp [asBool]; omega) nofun fun _=>?_)) nofun)
  exact aa.tvs (v:=[I b']) (by simp [pidx,h3,he]) (aa.chk rfl (f91_0_J ih))
theorem rBoth8 {x0 x1:TV} {q:Bool} {ov:List (List TV)} {o:List Int} (ho:F2 RI1 ov o) {a b r:Int} (h:Both o a b r):bQ prog 91 [.agg [x0,x1,.sl q 1 ov],I a,I b] (I r):=by
 refine bQ.of (f91_MR _ _ _) ?_
 unfold f91_M
 exact aa.chk rfl (f91_0_J (yd ho h))
theorem AW {y2 y3:TV} {q q':Bool} {ov ls:List (List TV)} {o l:List Int} (ho:F2 RI1 ov o) (hl:F2 RI1 ls l) (h1:l.length<=1000000):∀ (k:Nat) (v r:Int),k<=l.length->Bths o v (l.take k).reverse r ->
  aa prog 75 (f75_0 (I ((k:Int) - 1)) (.sl q' 1 ls) y2 y3 (.sl q 1 ov) (I v)) (I r):=by
 intro k
 induction k with
 | zero =>
  intro v r _ h
  cases h
  unfold f75_0
  exact aa.tv rfl (aa.ite (v:=false) (by simp [asBool]) nofun fun _=>aa.ret)
 | succ k ih =>
  intro v r hk h
  have hlt:k < l.length:=by omega
  rw [List.take_succ_eq_append_getElem hlt,List.reverse_append] at h
  simp only [List.reverse_cons,List.reverse_nil,List.nil_append,List.cons_append] at h
  cases h with
  | @cons _ n v' _ _ hb ht =>
   obtain ⟨e,he,rfl,hei⟩:=hl.get (El hlt)
   have e1:(((k + 1:Nat):Int) - 1)=(k:Int):=by omega
   rw [e1]
   have hsub:pbin (Kd.int IntKind.i64) BinOp.sub (I (k:Int)) (I 1)=some (I ((k:Int) - 1)):=by
    show some (I (IntKind.wrap .i64 ((k:Int) - 1)))=_
    rw [show IntKind.wrap .i64 ((k:Int) - 1)=(k:Int) - 1 by rw [IntKind.wrap_i64]; omega]
   unfold f75_0
   refine aa.tv rfl (aa.ite (v:=true) (by simp [asBool]) (fun _=>?_) nofun)
   exact aa.tvs (v:=[I l[k]]) (by simp [pidx,he]) (aa.chk rfl (aa.call (rBoth8 ho hb) (aa.chk rfl (aa.tv hsub (f75_0_J (ih v' r (by omega) ht))))))
theorem rAll8 {a b wv v:TV} {qa qb:Option Bool} {l:List Int} {T:Nat->Nat} {N:Nat} {ls:List Nat} (hw:RInts qa wv l) (hv:RInts qb v (bi ls)) (hT:gU N l T) (hL:Low N T) (h0:ls≠[]) (hN:∀ p ∈ ls,p < N) (hN1:N<=1000000) (hl1:ls.length<=1000000) {r:Nat} (hr:AllP l (bi ls) r) :
  bQ prog 75 [.agg [a,b,wv],v] (I (r:Int)):=by
 have hpos:0 < N:=by
  cases ls with
  | nil=>exact absurd rfl h0
  | cons p ls=>exact Nat.lt_of_le_of_lt (Nat.zero_le _) (hN p Es)
 have hlp:0 < ls.length:=List.length_pos_iff.2 h0
 have hcl:(bi ls).length=ls.length:=by simp [bi]
 obtain ⟨o1,xs,rfl,hf⟩:=hw.Eh (by rintro rfl; have:=hT.1; simp at this; omega)
 obtain ⟨o2,ys,rfl,hg⟩:=hv.Eh (by intro e; simp [bi] at e; exact h0 e)
 obtain ⟨z,hz,hb⟩:=hr
 have hzl:(bi ls)[ls.length - 1]? = some z:=by rw [List.getLast?_eq_getElem?,hcl] at hz; exact hz
 obtain ⟨e,he,rfl,hei⟩:=hg.get hzl
 have hsub:pbin (Kd.int IntKind.i64) BinOp.sub (I ((bi ls).length:Nat)) (I 1)=some (I ((ls.length:Int) - 1)):=by
  show some (I (IntKind.wrap .i64 (((bi ls).length:Int) - 1)))=_
  rw [hcl,show IntKind.wrap .i64 ((ls.length:Int) - 1)=(ls.length:Int) - 1 by rw [IntKind.wrap_i64]; omega]
 have hpi:pidx 1 (.sl o2 1 ys) (I ((ls.length:Int) - 1))=some [I z]:=by
  have e1:(((ls.length:Int) - 1)).toNat=ls.length - 1:=by omega
  simp [pidx,e1,he]
  omega
 refine bQ.of (f75_MR _ _) ?_
 unfold f75_M
 refine aa.chk rfl (aa.tv hv.len (aa.tv hsub (aa.tvs hpi (aa.chk rfl (aa.chk rfl (aa.tv hv.len (aa.tv hsub (f75_0_J ?_))))))))
 have:=AW (y2:=a) (y3:=b) (q:=o1) (q':=o2) hf hg (by rw [hcl]; exact hl1) (bi ls).length z r (Nat.le_refl _) (by rw [List.take_length]; exact hb)
 rw [hcl] at this
 exact this
theorem rRank8 {q:Option Bool} {e:List TV} {f:DFunc} (he:RFunc q e f) (hs:f.blocks.length<=1000):∃ v0 v1 v2 o l,bQ prog 55 [.agg e] (.agg [v0,v1,v2])/\vj f.blocks o/\RInts (some true) v0 o /\
  RL (some true) 1 (RIL (some true)) v1 ((List.range o.length).map (prL f.blocks o))/\RInts (some true) v2 l/\gU o.length l (p0Z f.blocks o):=by
 have he0:=he
 obtain ⟨b,rfl,hb,_⟩:=he
 obtain ⟨v0,o,hv0,k0,hO⟩:=r80 he0 hs
 have hI:=hO.keeps
 have hol:o.length<=1000:=Nat.le_trans hI.len hs
 obtain ⟨v1,hv1,k1⟩:=Bv he0 hs (k0.frz fun _ _ h=>h.frz) hI hol
 have loop:∀ (d n:Nat) (w:TV),o.length - n<=d->n≠0->RInts (some true) w (fu (p0L f.blocks o) o.length n)->∃ v2 l,aa prog 55 (f55_0 (I n) v0 v1 w) (.agg [v0,v1,v2])/\RInts (some true) v2 l/\gU o.length l (p0Z f.blocks o):=by
  intro d
  have fin:∀ (n:Nat) (w:TV),o.length<=n->n≠0->RInts (some true) w (fu (p0L f.blocks o) o.length n)->∃ v2 l,aa prog 55 (f55_0 (I n) v0 v1 w) (.agg [v0,v1,v2])/\RInts (some true) v2 l/\gU o.length l (p0Z f.blocks o):=by
   intro n w hn h0 hw
   refine ⟨w,_,?_,hw,x6 f.blocks o hn⟩
   unfold f55_0
   refine aa.tv k0.len (aa.tv rfl (aa.ite (v:=false) (by simp [asBool]; omega) nofun fun _=>aa.chk ?_ aa.ret))
   have o0:=k0.own fun _ _ h=>h.own
   have o1:=k1.own fun _ _ h=>h.own
   have o2:=hw.own fun _ _ h=>h.own
   simp [bG,df,o0,o1,o2]
  induction d with
  | zero=>intro n w hd h0 hw; exact fin n w (by omega) h0 hw
  | succ d ih =>
   intro n w hd h0 hw
   by_cases hn:n < o.length
   ·obtain ⟨p,hp,_⟩:=hI.low h0 hn
    have hne:prL f.blocks o n≠[]:=fun e=>by rw [e] at hp; cases hp
    have hlen:0 < (prL f.blocks o n).length:=List.length_pos_iff.2 hne
    obtain ⟨e1,he1,u,rfl,hu⟩:=k1.pel (i:=n) (a:=prL f.blocks o n) (by simp [hn])
    obtain ⟨e2,he2,rfl,hei⟩:=hu.pel (i:=0) (a:=((p0L f.blocks o n:Nat):Int)) (by simp only [bi,Er,p0_at hne,Ey])
    obtain ⟨e3,he3,rfl,_⟩:=hw.pel (jK hn)
    obtain ⟨w',c1,c2⟩:=hw.i7 he3 (d:=0) (ys:=[I (p0L f.blocks o n:Nat)]) (a:=((p0L f.blocks o n:Nat):Int)) ⟨rfl,hei⟩
    rw [<- xc h0 hn] at c2
    obtain ⟨v2,l,hy,r1,r2⟩:=ih (n + 1) w' (by omega) (by omega) c2
    refine ⟨v2,l,?_,r1,r2⟩
    have ann:af (I (n:Nat))=some n:=ak (by omega)
    have hgp:=k1.deep he1 (j:=0) (z:=u) rfl
    unfold f55_0
    refine aa.tv k0.len (aa.tv rfl (aa.ite (v:=true) (by simp [asBool]; omega) (fun _=>?_) nofun))
    refine aa.nat k1.slLen (aa.nat ann (aa.chk ?_ (aa.tvs he1 (aa.chk (ba hu.isSl) (aa.tv hgp (aa.nat hu.slLen (aa.nat (v:=0) rfl (aa.chk ?_ (aa.tv hgp (aa.tvs he2 (aa.chk rfl ?_)))))))))))
    ·rw [k1.slSize]; simp; omega
    ·rw [hu.slSize]; simp [bi]; omega
    refine aa.nat hw.slLen (aa.nat ann (aa.chk ?_ (aa.tvs he3 (aa.chk rfl (aa.tv c1 (aa.tv (inc hn (by omega)) (f55_0_J hy)))))))
    rw [hw.slSize]; simp [fu]; omega
   ·exact fin n w (by omega) h0 hw
 obtain ⟨v2,l,hy,r1,r2⟩:=loop o.length 1 _ (by omega) (by omega) (by rw [vO]; exact kZ (n:=o.length) (a:=0) ⟨by decide,by decide⟩ (by omega))
 refine ⟨v0,v1,v2,o,l,?_,hO,k0,k1,r1,r2⟩
 have hn:af (I (o.length:Nat))=some o.length:=ak (by omega)
 refine bQ.of (f55_MR _) ?_
 unfold f55_M
 exact aa.chk rfl (aa.call hv0 (aa.chk (ba k0.isSl) (aa.call hv1 (aa.chk (ba k1.isSl) (aa.tv k0.len (aa.nat hn (aa.nat hn (aa.chk (by simp; omega) (f55_0_J hy)))))))))
section
variable {q:Option Bool} {b:TV} {f:DFunc} (hb:RL q 14 (RBlock q) b f.blocks) (hs:f.blocks.length<=1000) {v0 v1:TV} {o:List Int} (hI:OI f.blocks o) (hol:o.length<=1000) (k0:RInts (some true) v0 o) (k1:RL (some true) 1 (RIL (some true)) v1 ((List.range o.length).map (prL f.blocks o)))
include hb hs hI hol k0
theorem Ds {w4:TV} {l:List Int} {T:Nat->Nat} (k4:RInts (some true) w4 l) (hT:gU o.length l T) (hL:Low o.length T) (hov:∀ n,n≠0->n < o.length->ovN f.blocks (blk o n)=((blk o (T n):Nat):Int)):∀ (d n:Nat) (w:TV) (M:List Int),o.length - n<=d->n≠0->RInts (some true) w M->M.length=f.blocks.length ->
  (∀ i,i≠0->i < n->i < o.length->M[blk o i]? = some ((blk o (T i):Nat):Int))->(∀ b,b < f.blocks.length->(∀ i,i≠0->i < n->i < o.length->blk o i≠b)->M[b]? = some (-1)) ->
  ∃ y,aa prog 31 (f31_5 (I n) w v0 v1 w4) y/\RInts (some true) y (iC f.blocks):=by
 have fin : ∀ (n : Nat) (w : TV) (M : List Int), o.length ≤ n → n ≠ 0 → RInts (some true) w M → M.length = f.blocks.length →
   (∀ i,i≠0->i < n->i < o.length->M[blk o i]? = some ((blk o (T i):Nat):Int))->(∀ b,b < f.blocks.length->(∀ i,i≠0->i < n->i < o.length->blk o i≠b)->M[b]? = some (-1)) ->
   ∃ y,aa prog 31 (f31_5 (I n) w v0 v1 w4) y/\RInts (some true) y (iC f.blocks):=by
  intro n w M hn h0 hw hl hm hm2
  have e:M=iC f.blocks:=by
   apply List.ext_getElem?
   intro c
   by_cases hc:c < f.blocks.length
   ·rw [pl hc]
    by_cases hr:Rc f.blocks (-1) c/\c≠0
    ·obtain ⟨i,hi,rfl⟩:=hI.rank hr.1
     have hi0:i≠0:=fun e=>by
      subst e
      exact hr.2 (hI.zero (by rintro e; rw [e] at hc; cases hc)).2
     rw [hm i hi0 (by omega) hi,hov i hi0 hi]
    ·rw [Bi hr]
     refine hm2 c hc fun i hi0 _ hi e=>hr ?_
     subst e
     refine ⟨hI.rc hi,fun e=>hi0 ?_⟩
     have hz:=hI.zero (by rintro e; rw [e] at hc; cases hc)
     exact hI.inj hi hz.1 (by rw [e,hz.2])
   ·rw [Ex (by omega),Ex (by rw [pd]; omega)]
  subst e
  refine ⟨w,?_,hw⟩
  unfold f31_5
  exact aa.tv k0.len (aa.tv rfl (aa.ite (v:=false) (by simp [asBool]; omega) nofun fun _=>aa.chk (hw.own fun _ _ h=>h.own) aa.ret))
 intro d
 induction d with
 | zero=>intro n w M hd h0 hw hl hm hm2; exact fin n w M (by omega) h0 hw hl hm hm2
 | succ d ih =>
  intro n w M hd h0 hw hl hm hm2
  by_cases hn:n < o.length
  ·have hlow:=hL n h0 hn
   have htn:T n < o.length:=by omega
   have hblt:=hI.gS hn
   have hbt:=hI.gS htn
   obtain ⟨e1,he1,rfl,_⟩:=k0.pel (hI.at_ hn)
   obtain ⟨e2,he2,rfl,_⟩:=k4.pel (hT.2 n hn)
   obtain ⟨e3,he3,rfl,hei⟩:=k0.pel (hI.at_ htn)
   have hbM:blk o n < M.length:=by omega
   obtain ⟨e4,he4,rfl,_⟩:=hw.pel (El hbM)
   obtain ⟨w',c1,c2⟩:=hw.i7 he4 (d:=0) (ys:=[I (blk o (T n):Nat)]) (a:=((blk o (T n):Nat):Int)) ⟨rfl,hei⟩
   obtain ⟨y,hy,hr⟩:=ih (n + 1) w' _ (by omega) (by omega) c2 (by rw [List.length_set]; exact hl) (fun i hi0 hin hil=>by
    by_cases e:i=n
    ·subst e; exact List.getElem?_set_self hbM
    ·rw [List.getElem?_set_ne (fun h=>e (hI.inj hil hn h.symm))]
     exact hm i hi0 (by omega) hil) (fun c hc hno=>by
    rw [List.getElem?_set_ne (hno n h0 (by omega) hn)]
    exact hm2 c hc fun i hi0 hin hil=>hno i hi0 (by omega) hil)
   refine ⟨y,?_,hr⟩
   have ann:af (I (n:Nat))=some n:=ak (by omega)
   have hl4:l.length=o.length:=hT.1
   unfold f31_5
   refine aa.tv k0.len (aa.tv rfl (aa.ite (v:=true) (by simp [asBool]; omega) (fun _=>?_) nofun))
   refine aa.nat k0.slLen (aa.nat ann (aa.chk ?_ (aa.tvs he1 (aa.chk rfl (aa.nat k4.slLen (aa.nat ann (aa.chk ?_ (aa.tvs he2 (aa.chk rfl ?_)))))))))
   ·rw [k0.slSize]; simp; omega
   ·rw [k4.slSize]; simp; omega
   refine aa.nat k0.slLen (aa.nat (ak (k:=T n) (by omega)) (aa.chk ?_ (aa.tvs he3 (aa.chk rfl (aa.nat hw.slLen (aa.nat (ak (k:=blk o n) (by omega)) (aa.chk ?_ (aa.tvs he4 (aa.chk rfl (aa.tv c1 (aa.tv (inc hn (by omega)) (f31_5_J hy))))))))))))
   ·rw [k0.slSize]; simp; omega
   ·rw [hw.slSize]; simp; omega
  ·exact fin n w M (by omega) h0 hw hl hm hm2
theorem Dd {w4:TV} {l:List Int} {T:Nat->Nat} (k4:RInts (some true) w4 l) (hT:gU o.length l T) (hL:Low o.length T) (hov:∀ n,n≠0->n < o.length->ovN f.blocks (blk o n)=((blk o (T n):Nat):Int)):∀ (d k:Nat) (w:TV) (M:List Int),k + d=f.blocks.length->RInts (some true) w M->M.length=f.blocks.length->(∀ i,i < k->M[i]? = some (-1)) ->
  ∃ y,aa prog 31 (f31_3 (I f.blocks.length) (I k) w v0 v1 w4) y/\RInts (some true) y (iC f.blocks):=by
 intro d
 induction d with
 | zero =>
  intro k w M hk hw hl hm
  have hk:k=f.blocks.length:=by omega
  subst hk
  obtain ⟨y,hy,hr⟩:=Ds hb hs hI hol k0 (v1:=v1) k4 hT hL hov o.length 1 w M (by omega) (by omega) hw hl (fun i h0 h1=>by omega) (fun c hc _=>hm c hc)
  refine ⟨y,?_,hr⟩
  unfold f31_3
  refine aa.tv rfl (aa.ite cM nofun fun _=>f31_4_J ?_)
  unfold f31_4
  exact f31_5_J hy
 | succ d ih =>
  intro k w M hk hw hl hm
  have hkl:k < f.blocks.length:=by omega
  have hkM:k < M.length:=by omega
  obtain ⟨e4,he4,rfl,_⟩:=hw.pel (El hkM)
  obtain ⟨w',c1,c2⟩:=hw.i7 he4 (d:=0) (ys:=[I (-1)]) (a:=-1) ⟨rfl,⟨by decide,by decide⟩⟩
  obtain ⟨y,hy,hr⟩:=ih (k + 1) w' _ (by omega) c2 (by rw [List.length_set]; exact hl) (fun i hi=>by
   by_cases e:k=i
   ·subst e; exact List.getElem?_set_self hkM
   ·rw [List.getElem?_set_ne e]; exact hm i (by omega))
  refine ⟨y,?_,hr⟩
  unfold f31_3
  refine aa.tv rfl (aa.ite (cO hkl) (fun _=>?_) nofun)
  refine aa.nat hw.slLen (aa.nat (ak (by omega)) (aa.chk ?_ (aa.tvs he4 (aa.chk rfl (aa.tv c1 (aa.tv (inc hkl (by omega)) (f31_3_J hy)))))))
  rw [hw.slSize]; simp; omega
include k1
theorem Dn {p0 : Nat → Nat} (hG : Grf o.length (prL f.blocks o) p0) : ∀ (z : Nat) (w : TV) (l : List Int) (T : Nat → Nat), high T o.length < z → RInts (some true) w l → gU o.length l T → TI o.length (prL f.blocks o) p0 1 T →
  ∃ y,aa prog 31 (f31_0 (I f.params) (I f.regs) b v0 v1 w) y/\RInts (some true) y (iC f.blocks):=by
 intro z
 induction z with
 | zero=>intro w l T hz; omega
 | succ z ihz =>
  intro w0 l0 T0 hz0 hw0 hT0 hTI0
  have sweep : ∀ (d n : Nat) (c : Bool) (w : TV) (l : List Int) (T : Nat → Nat), o.length - n ≤ d → n ≠ 0 → RInts (some true) w l → gU o.length l T → TI o.length (prL f.blocks o) p0 n T → high T o.length ≤ high T0 o.length → (c = true → high T o.length < high T0 o.length) →
    (c=false->∀ i,i≠0->i < n->i < o.length->∀ x,Up T (T i) x ↔ ∀ p ∈ prL f.blocks o i,Up T p x) ->
    ∃ y,aa prog 31 (f31_1 (B c) (I n) (I f.params) (I f.regs) b v0 v1 w) y/\RInts (some true) y (iC f.blocks):=by
   have fin:∀ (n:Nat) (c:Bool) (w:TV) (l:List Int) (T:Nat->Nat),o.length<=n->n≠0->RInts (some true) w l->gU o.length l T->TI o.length (prL f.blocks o) p0 n T->(c=true->high T o.length < high T0 o.length) ->
     (c=false->∀ i,i≠0->i < n->i < o.length->∀ x,Up T (T i) x ↔ ∀ p ∈ prL f.blocks o i,Up T p x) ->
     ∃ y,aa prog 31 (f31_1 (B c) (I n) (I f.params) (I f.regs) b v0 v1 w) y/\RInts (some true) y (iC f.blocks):=by
    intro n c w l T hn h0 hw hT hTI hc1 hc0
    have hl:l.length=o.length:=hT.1
    cases c with
    | true =>
     obtain ⟨y,hy,hr⟩:=ihz w l T (by have:=hc1 rfl; omega) hw hT (hTI.again hn)
     refine ⟨y,?_,hr⟩
     unfold f31_1
     exact aa.tv hw.len (aa.tv rfl (aa.ite (v:=false) (by simp [asBool]; omega) nofun fun _=>aa.ite (v:=true) rfl (fun _=>f31_0_J hy) nofun))
    | false =>
     obtain ⟨y,hy,hr⟩:=Dd hb hs hI hol k0 (v1:=v1) hw hT hTI.low (fun i h0 hi=>hI.ov hG hTI (fun n h0 hn=>hc0 rfl n h0 (by omega) hn) h0 hi) f.blocks.length 0 _ _ (by omega) (kZ (n:=f.blocks.length) (a:=0) ⟨by decide,by decide⟩ (by omega)) (by simp) (fun i hi=>absurd hi (Nat.not_lt_zero _))
     refine ⟨y,?_,hr⟩
     have hnb:af (I (f.blocks.length:Nat))=some f.blocks.length:=ak (by omega)
     unfold f31_1
     refine aa.tv hw.len (aa.tv rfl (aa.ite (v:=false) (by simp [asBool]; omega) nofun fun _=>aa.ite (v:=false) rfl nofun fun _=>f31_2_J ?_))
     unfold f31_2
     exact aa.tv hb.len (aa.nat hnb (aa.nat hnb (aa.chk (by simp; omega) (aa.tv (kZ (n:=f.blocks.length) (a:=0) ⟨by decide,by decide⟩ (by omega)).len (by
      rw [List.length_replicate]
      exact f31_3_J hy)))))
   intro d
   induction d with
   | zero=>intro n c w l T hd h0 hw hT hTI _ hc1 hc0; exact fin n c w l T (by omega) h0 hw hT hTI hc1 hc0
   | succ d ih =>
    intro n c w l T hd h0 hw hT hTI hhi hc1 hc0
    by_cases hn:n < o.length
    ·have hl:l.length=o.length:=hT.1
     obtain ⟨p,hp,_⟩:=hI.low h0 hn
     have hne:prL f.blocks o n≠[]:=fun e=>by rw [e] at hp; cases hp
     obtain ⟨r,a1,a2,a3⟩:=all_ex hT hTI.low hne (hG.in_ n hn)
     obtain ⟨e1,he1,u,rfl,hu⟩:=k1.pel (i:=n) (a:=prL f.blocks o n) (by simp [hn])
     obtain ⟨e2,he2,rfl,_⟩:=hw.pel (hT.2 n hn)
     have hgp:=k1.deep he1 (j:=0) (z:=u) rfl
     have hplen:(prL f.blocks o n).length<=1000000:=by
      have:=tg f.blocks o n o.length
      unfold prL
      omega
     have hcall:=rAll8 (a:=frz v0) (b:=frz v1) (hw.frz fun _ _ h=>h.frz) (hu.frz fun _ _ h=>h.frz) hT hTI.low hne (hG.in_ n hn) (by omega) hplen a1
     have ann:af (I (n:Nat))=some n:=ak (by omega)
     have hle:=TI.xK hG hTI h0 hn a3
     have hnx:=TI.next hG hTI h0 hn a3
     have hup:=wD (T:=T) (m:=n) (v:=r) o.length hn
     have front:∀ {y:TV},(r=T n->aa prog 31 (f31_1 (B c) (I ((n + 1:Nat):Int)) (I f.params) (I f.regs) b v0 v1 w) y)->(∀ w',di [] w n 0 [I (r:Int)]=some w'->r≠T n->aa prog 31 (f31_1 (B true) (I ((n + 1:Nat):Int)) (I f.params) (I f.regs) b v0 v1 w') y)->(∃ w',di [] w n 0 [I (r:Int)]=some w') ->
       aa prog 31 (f31_1 (B c) (I n) (I f.params) (I f.regs) b v0 v1 w) y:=by
      rintro y g1 g2 ⟨w',hw'⟩
      unfold f31_1
      refine aa.tv hw.len (aa.tv rfl (aa.ite (v:=true) (by simp [asBool]; omega) (fun _=>?_) nofun))
      refine aa.nat k1.slLen (aa.nat ann (aa.chk ?_ (aa.tvs he1 (aa.chk (ba hu.isSl) (aa.tv hgp (aa.call hcall (aa.chk rfl ?_)))))))
      ·rw [k1.slSize]; simp; omega
      refine aa.nat hw.slLen (aa.nat ann (aa.chk ?_ (aa.tvs he2 (aa.chk rfl (aa.tv rfl (aa.ite rfl (fun h=>?_) fun h=>?_))))))
      ·rw [hw.slSize]; simp; omega
      ·have hne:r≠T n:=by
        have h1:((r:Int) != (T n:Int))=true:=h
        have h2:¬ (r:Int)=(T n:Int):=by simpa using h1
        omega
       refine aa.nat hw.slLen (aa.nat ann (aa.chk ?_ (aa.tvs he2 (aa.chk rfl (aa.tv hw' (aa.tv (inc hn (by omega)) (f31_1_J (g2 w' hw' hne))))))))
       rw [hw.slSize]; simp; omega
      ·have hre:r=T n:=by
        have h1:((r:Int) != (T n:Int))=false:=h
        have h2:(r:Int)=(T n:Int):=by simpa using h1
        omega
       exact aa.tv (inc hn (by omega)) (f31_1_J (g1 hre))
     have hrI:inI (r:Int):=by constructor <;> omega
     obtain ⟨w',c1,c2⟩:=hw.i7 he2 (d:=0) (ys:=[I (r:Int)]) (a:=(r:Int)) ⟨rfl,hrI⟩
     by_cases e:r=T n
     ·have hsame:mO T n r=T:=by
       funext i
       by_cases hi:i=n
       ·subst hi; rw [hU,e]
       ·rw [fY hi]
      rw [hsame] at hnx
      obtain ⟨y,hy,hr⟩:=ih (n + 1) c w l T (by omega) (by omega) hw hT hnx hhi hc1 (fun hc i hi0 hin hil=>by
       by_cases hi:i=n
       ·subst hi; rw [<- e]; exact a3
       ·exact hc0 hc i hi0 (by omega) hil)
      exact ⟨y,front (fun _=>hy) (fun _ _ h=>absurd e h) ⟨w',c1⟩,hr⟩
     ·obtain ⟨y,hy,hr⟩:=ih (n + 1) true w' _ (mO T n r) (by omega) (by omega) c2 (hT.upd hn) hnx (by omega) (fun _=>by omega) nofun
      refine ⟨y,front (fun h=>absurd h e) (fun w'' h _=>?_) ⟨w',c1⟩,hr⟩
      rw [c1] at h
      cases h
      exact hy
    ·exact fin n c w l T (by omega) h0 hw hT hTI hc1 hc0
  obtain ⟨y,hy,hr⟩:=sweep o.length 1 false w0 l0 T0 (by omega) (by omega) hw0 hT0 hTI0 (Nat.le_refl _) nofun (fun _ i h0 h1=>by omega)
  refine ⟨y,?_,hr⟩
  unfold f31_0
  exact f31_1_J hy
end
theorem rOver8 {q:Option Bool} {e:List TV} {f:DFunc} (he:RFunc q e f) (hs:f.blocks.length<=1000):∃ y,bQ prog 31 [.agg e] y/\RInts (some true) y (iC f.blocks):=by
 obtain ⟨v0,v1,v2,o,l,hv,hO,k0,k1,k2,hT⟩:=rRank8 he hs
 have he0:=he
 obtain ⟨b,rfl,hb,_⟩:=he
 have hI:=hO.keeps
 have hol:o.length<=1000:=Nat.le_trans hI.len hs
 obtain ⟨y,hy,hr⟩:=Dn hb hs hI hol k0 k1 hI.grfZ (high (p0Z f.blocks o) o.length + 1) v2 l _ (by omega) k2 hT (TI.start hI.grfZ 1)
 refine ⟨y,?_,hr⟩
 refine bQ.of (f31_MR _) ?_
 unfold f31_M
 refine aa.chk rfl (aa.call hv (aa.chk ?_ (f31_0_J hy)))
 show (true && (v0.isSl && (v1.isSl && (v2.isSl && true))))=true
 rw [k0.isSl,k1.isSl,k2.isSl]; rfl
end Go.Ab.Q12
end
section
set_option maxRecDepth 10000
namespace Go.Ab
theorem OI.xL {bs:List DBlock} {o:List Int} (hI:OI bs o) {x:Nat} (hx:x < o.length):∀ (n:Nat),n < o.length->Dm bs (blk o x) (blk o n)->x<=n:=by
 intro n
 induction n using Nat.strongRecOn with
 | _ n ih =>
  intro hn h
  by_cases e:x=n
  ·omega
  ·by_cases h0:n=0
   ·subst h0
    have hb:bs≠[]:=fun e=>by have:=hI.gS hn; rw [e] at this; cases this
    have hz:=(hI.zero hb).2
    rw [hz] at h
    have:=h.anti (.zero h.up)
    have:=hI.inj hx hn (by rw [this,hz])
    omega
   ·obtain ⟨p,hp,hpn⟩:=hI.low h0 hn
    obtain ⟨q1,q2⟩:=ow.1 hp
    have:=Dm.step (a:=blk o x) (hI.rc q1) q2 (by simpa using h) (fun e2=>e (hI.inj hx hn (by omega)))
    have:=ih p hpn q1 this
    omega
end Go.Ab
namespace Go.Ab.Q12
open Go Go.Ab Go.Proofs
end Go.Ab.Q12
end
section
set_option maxRecDepth 10000
namespace Go.Ab
def gh {α:Type} (g:Nat->α) (k:Nat) (v:α):Nat->α:=fun i=>if i=k then v else g i
theorem aN {α:Type} {g:Nat->α} {k:Nat} {v:α}:gh g k v k=v:=if_pos rfl
theorem aH {α:Type} {g:Nat->α} {k i:Nat} {v:α} (h:i≠k):gh g k v i=g i:=if_neg h
def dj {α:Type} (n:Nat) (g:Nat->α):List α:=(List.range n).map g
theorem aA {α:Type} (n:Nat) (g:Nat->α):(dj n g).length=n:=by simp [dj]
theorem bI {α:Type} {n:Nat} {g:Nat->α} {k:Nat} (h:k < n):(dj n g)[k]? = some (g k):=by simp [dj,h]
theorem lc {α:Type} {n:Nat} {g:Nat->α} {k:Nat} {v:α}:(dj n g).set k v=dj n (gh g k v):=by
 apply List.ext_getElem?
 intro i
 by_cases hi:i < n
 ·by_cases e:k=i
  ·subst e
   rw [List.getElem?_set_self (by rw [aA]; exact hi),bI hi,aN]
  ·rw [List.getElem?_set_ne e,bI hi,bI hi,aH (Ne.symm e)]
 ·rw [Ex (by simp [dj]; omega),Ex (by simp [dj]; omega)]
theorem nZ {α:Type} (n:Nat) (a:α):List.replicate n a=dj n fun _=>a:=by
 apply List.ext_getElem?
 intro i
 by_cases hi:i < n
 ·rw [bI hi,List.getElem?_replicate,if_pos hi]
 ·rw [Ex (by simp; omega),Ex (by simp [dj]; omega)]
abbrev RArr (w:TV) (n:Nat) (g:Nat->Int):Prop:=RInts (some true) w (dj n g)
abbrev RBArr (w:TV) (n:Nat) (g:Nat->Bool):Prop:=RBools (some true) w (dj n g)
theorem RArr.get {w:TV} {n:Nat} {g:Nat->Int} (h:RArr w n g) {k:Nat} (hk:k < n):Go.Ab.pel w k=some [I (g k)]/\inI (g k):=by
 obtain ⟨e,he,rfl,hi⟩:=RL.pel h (bI hk)
 exact ⟨he,hi⟩
theorem RArr.set {w:TV} {n:Nat} {g:Nat->Int} (h:RArr w n g) {k:Nat} (hk:k < n) {v:Int} (hv:inI v):∃ w',di [] w k 0 [I v]=some w'/\RArr w' n (gh g k v):=by
 obtain ⟨w',h1,h2⟩:=RL.i7 h (h.get hk).1 (d:=0) (ys:=[I v]) (a:=v) ⟨rfl,hv⟩
 rw [lc] at h2
 exact ⟨w',h1,h2⟩
theorem RBArr.get {w:TV} {n:Nat} {g:Nat->Bool} (h:RBArr w n g) {k:Nat} (hk:k < n):Go.Ab.pel w k=some [B (g k)]:=by
 obtain ⟨e,he,rfl⟩:=RL.pel h (bI hk)
 exact he
theorem RBArr.set {w:TV} {n:Nat} {g:Nat->Bool} (h:RBArr w n g) {k:Nat} (hk:k < n) (v:Bool):∃ w',di [] w k 0 [B v]=some w'/\RBArr w' n (gh g k v):=by
 obtain ⟨w',h1,h2⟩:=RL.i7 h (h.get hk) (d:=0) (ys:=[B v]) (a:=v) rfl
 rw [lc] at h2
 exact ⟨w',h1,h2⟩
theorem yD {α:Type} {n:Nat} {g h:Nat->α} (e:∀ i,i < n->g i=h i):dj n g=dj n h:=by
 apply List.ext_getElem?
 intro i
 by_cases hi:i < n
 ·rw [bI hi,bI hi,e i hi]
 ·rw [Ex (by rw [aA]; omega),Ex (by rw [aA]; omega)]
end Go.Ab
end

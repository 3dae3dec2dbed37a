import Derived.Test.YthgejdenjmjkoaaCV8F87
section
set_option linter.unusedVariables false
set_option maxRecDepth 10000
namespace Go.Ab
def RIL (q:Option Bool) (e:List TV) (l:List Nat):Prop:=∃ v,e=[v]∧RInts q v (castL l)
theorem RIL.own {e:List TV} {l:List Nat} (h:RIL (some true) e l):isOwnL e=true:=by
 obtain ⟨v,rfl,h⟩:=h
 have:=h.own fun _ _ h=>h.own
 simp [isOwnL,this]
theorem rep_nils {n:Nat} (h:n≤9223372036854775807):RL (some true) 1 (RIL (some true)) (.sl true 1 (List.replicate n [.lit nilV])) (List.replicate n []):=.sl (by simp) (F2.of_get (by simp) fun i e a he ha=>by
 rw [List.getElem?_replicate] at he ha
 by_cases hi:i < n
 ·rw [if_pos hi] at he ha
  cases he
  cases ha
  exact ⟨_,rfl,.nil⟩
 ·rw [if_neg hi] at he
  cases he) (by simpa using h)
theorem rep_ints {n:Nat} {a:Int} (ha:inI a) (h:n≤9223372036854775807):RInts (some true) (.sl true 1 (List.replicate n [I a])) (List.replicate n a):=.sl (by simp) (F2.of_get (by simp) fun i e b he hb=>by
 rw [List.getElem?_replicate] at he hb
 by_cases hi:i < n
 ·rw [if_pos hi] at he hb
  cases he
  cases hb
  exact ⟨rfl,ha⟩
 ·rw [if_neg hi] at he
  cases he) (by simpa using h)
theorem setNth_at {α:Type}:∀ {l:List α} {n:Nat} {a b:α},l[n]? = some a→(setNth l n b)[n]? = some b
 | [],n,a,b,h=>by simp at h
 | c :: l,0,a,b,h=>rfl
 | c :: l,n + 1,a,b,h=>by simp only [List.getElem?_cons_succ] at h; simp only [setNth,List.getElem?_cons_succ]; exact setNth_at h
theorem setNth_two {α:Type}:∀ {l:List α} {n:Nat} {a b:α},setNth (setNth l n a) n b=setNth l n b
 | [],n,a,b=>rfl
 | c :: l,0,a,b=>rfl
 | c :: l,n + 1,a,b=>by simp only [setNth,setNth_two]
theorem RL.takeEl {y v:TV} {ll:List (List Nat)} (hy:RL (some true) 1 (RIL (some true)) y ll) {n:Nat} (he:Go.Ab.pel y n=some [v]):∃ y1,setP [(n,0)] y .hole=some y1∧Go.Ab.slLen y1=some ll.length∧Go.Ab.slSize y1 1=true∧Go.Ab.pel y1 n=some [.hole] ∧
  ∀ {v':TV} {l':List Nat},RInts (some true) v' (castL l')→∃ y2,setC [] y1 n 0 [v']=some y2∧RL (some true) 1 (RIL (some true)) y2 (ll.set n l'):=by
 obtain ⟨xs,rfl,hk,hf,hb⟩:=hy.at he
 have hset:setNth [v] 0 TV.hole=[TV.hole]:=rfl
 refine ⟨.sl true 1 (setNth xs n [.hole]),?_,?_,rfl,setNth_at hk,fun {v' l'} hv=>?_⟩
 ·simp only [setP,hk,List.getElem?_cons_zero,hset]
 ·simp only [Go.Ab.slLen,setNth_len,hf.length]
 ·refine ⟨.sl true 1 (setNth xs n [v']),?_,.sl (by simp) (hf.set ⟨v',rfl,hv⟩) (by rw [setNth_len]; exact hb)⟩
  simp only [setC,getP,setEl,setNth_at hk,setP]
  rw [setNth_two]
  rfl
theorem castL_app (l m:List Nat):castL (l ++ m)=castL l ++ castL m:=by simp [castL]
def prRow (bs:List DBlock) (o:List Int) (k j n:Nat):List Nat:=prTo bs o k n ++ prOne o k n ((nextAt bs (blk o k)).take j)
def prRows (bs:List DBlock) (o:List Int) (k j:Nat):List (List Nat):=(List.range o.length).map (prRow bs o k j)
theorem prOne_len (o:List Int) (k n:Nat) (l:List Int):(prOne o k n l).length≤l.length:=by
 unfold prOne
 rw [List.length_map]
 exact List.length_filter_le _ _
theorem prTo_len (bs:List DBlock) (o:List Int) (n:Nat):∀ k,(prTo bs o k n).length≤3 * k
 | 0=>by simp [prTo]
 | k + 1=>by
  have h1:=prTo_len bs o n k
  have h2:=prOne_len o k n (nextAt bs (blk o k))
  have h3:=nextAt_len bs (blk o k)
  simp only [prTo,List.length_append]
  omega
theorem prRow_len (bs:List DBlock) (o:List Int) (k j n:Nat):(prRow bs o k j n).length≤3 * k + 3:=by
 have h1:=prTo_len bs o n k
 have h2:=prOne_len o k n ((nextAt bs (blk o k)).take j)
 have h3:=nextAt_len bs (blk o k)
 rw [List.length_take] at h2
 simp only [prRow,List.length_append]
 omega
theorem prRows_at {bs:List DBlock} {o:List Int} {k j n:Nat} (h:n < o.length):(prRows bs o k j)[n]? = some (prRow bs o k j n):=by simp [prRows,h]
theorem prRows_start (bs:List DBlock) (o:List Int):prRows bs o 0 0=List.replicate o.length []:=by
 apply List.ext_getElem?
 intro n
 rw [List.getElem?_replicate]
 by_cases h:n < o.length
 ·rw [prRows_at h,if_pos h]; simp [prRow,prTo,prOne]
 ·rw [if_neg h,List.getElem?_eq_none (by simp [prRows]; omega)]
theorem prRows_end (bs:List DBlock) (o:List Int):prRows bs o o.length 0=(List.range o.length).map (prL bs o):=by
 unfold prRows
 refine List.map_congr_left fun n _=>?_
 simp [prRow,prOne,prL]
theorem prRows_over (bs:List DBlock) (o:List Int) (k:Nat):prRows bs o k (nextAt bs (blk o k)).length=prRows bs o (k + 1) 0:=by
 unfold prRows
 refine List.map_congr_left fun n _=>?_
 simp [prRow,prTo,prOne]
theorem prRows_next {bs:List DBlock} {o:List Int} (hI:OI bs o) {k j n:Nat} (hn:n < o.length) (hg:(nextAt bs (blk o k))[j]? = some ((blk o n:Nat):Int)):prRows bs o k (j + 1)=(prRows bs o k j).set n (prRow bs o k j n ++ [k]):=by
 apply List.ext_getElem?
 intro m
 by_cases hm:m < o.length
 ·rw [prRows_at hm]
  by_cases hmn:n=m
  ·subst hmn
   rw [List.getElem?_set_self (by simp [prRows]; exact hm)]
   simp only [prRow,take_get hg,prOne,List.filter_append,List.map_append,List.append_assoc]
   simp
  ·rw [List.getElem?_set_ne hmn,prRows_at hm]
   simp only [prRow,take_get hg,prOne,List.filter_append,List.map_append]
   have:¬ ((blk o n:Nat):Int)=((blk o m:Nat):Int):=fun e=>hmn (hI.inj hn hm (by omega))
   simp [this]
 ·rw [List.getElem?_eq_none (by simp [prRows]; omega),List.getElem?_eq_none (by simp [prRows]; omega)]
end Go.Ab
namespace Go.Ab.V8
open Go Go.Ab Go.Proofs
section
variable {q:Option Bool} {b:TV} {f:DFunc} (hf:RFunc q [I f.params,I f.regs,b] f) (hs:f.blocks.length≤1000) {x:TV} {o:List Int} {qx:Option Bool} (hx:RInts qx x o) (hI:OI f.blocks o) (hol:o.length≤1000)
include hf hs hx hI hol
theorem befRows {w6:TV} {M:List Int} (hM:RInts (some true) w6 M) (hMl:M.length=f.blocks.length) (hMa:∀ n,n < o.length→M[blk o n]? = some ((n:Nat):Int)):∀ (d k:Nat) (w:TV),k + d=o.length→RL (some true) 1 (RIL (some true)) w (prRows f.blocks o k 0) →
  ∃ y,Goes prog 30 (f30_2 x (I o.length) (I k) (I f.params) (I f.regs) b w6 w) y∧RL (some true) 1 (RIL (some true)) y ((List.range o.length).map (prL f.blocks o)):=by
 intro d
 induction d with
 | zero =>
  intro k w hk hw
  have hk:k=o.length:=by omega
  subst hk
  rw [prRows_end] at hw
  refine ⟨w,?_,hw⟩
  unfold f30_2
  exact Goes.tv rfl (Goes.ite asB_end (fun h=>nomatch h) fun _=>Goes.chk (hw.own fun _ _ h=>h.own) Goes.ret)
 | succ d ih =>
  intro k w hk hw
  have hkl:k < o.length:=by omega
  obtain ⟨e,he,rfl,hei⟩:=hx.idx (k:=.i64) (hI.at_ hkl)
  obtain ⟨v,hv,hvr⟩:=r71 hf ((blk o k:Nat):Int)
  rw [nextL_nat] at hvr
  have hnl:=nextAt_len f.blocks (blk o k)
  have inner:∀ (c j:Nat) (w:TV),j + c=(nextAt f.blocks (blk o k)).length→RL (some true) 1 (RIL (some true)) w (prRows f.blocks o k j) →
    ∃ y,Goes prog 30 (f30_3 (I k) x (I o.length) (I k) (I (nextAt f.blocks (blk o k)).length) (I j) (I f.params) (I f.regs) b w6 w v) y∧RL (some true) 1 (RIL (some true)) y ((List.range o.length).map (prL f.blocks o)):=by
   intro c
   induction c with
   | zero =>
    intro j w hj hw
    have hj:j=(nextAt f.blocks (blk o k)).length:=by omega
    subst hj
    rw [prRows_over] at hw
    obtain ⟨y,hy,hr⟩:=ih (k + 1) w (by omega) hw
    refine ⟨y,?_,hr⟩
    unfold f30_3
    exact Goes.tv rfl (Goes.ite asB_end (fun h=>nomatch h) fun _=>Goes.tv (inc hkl (by omega)) (f30_2_J hy))
   | succ c ihc =>
    intro j w hj hw
    have hjl:j < (nextAt f.blocks (blk o k)).length:=by omega
    obtain ⟨g,hgg⟩:∃ g,g=(nextAt f.blocks (blk o k))[j]:=⟨_,rfl⟩
    have hg:(nextAt f.blocks (blk o k))[j]? = some g:=by rw [hgg]; exact List.getElem?_eq_getElem hjl
    have hgm:=List.mem_of_getElem? hg
    have hgt:=nextAt_there hgm
    obtain ⟨n,hn,hnb⟩:=hI.rank (Rc.next (hI.rc hkl) hgm (by omega))
    have hgn:g=((blk o n:Nat):Int):=by omega
    subst hgn
    obtain ⟨e1,he1,rfl,_⟩:=hvr.pel hg
    obtain ⟨e2,he2,rfl,_⟩:=hM.pel (hMa n hn)
    obtain ⟨e3,he3,u,rfl,hu⟩:=hw.pel (prRows_at (k:=k) (j:=j) hn)
    have hlen:=prRow_len f.blocks o k j n
    obtain ⟨u',hu1,hu2⟩:=hu.app (e:=[I k]) (a:=(k:Int)) ⟨rfl,by constructor <;> omega⟩ (by simp only [castL,List.length_map]; omega)
    obtain ⟨w1,t1,t2,t3,t4,t5⟩:=hw.takeEl he3
    obtain ⟨w2,s1,s2⟩:=t5 (v':=u') (l':=prRow f.blocks o k j n ++ [k]) (by rw [castL_app]; exact hu2)
    rw [← prRows_next hI hn hg] at s2
    obtain ⟨y,hy,hr⟩:=ihc (j + 1) w2 (by omega) s2
    refine ⟨y,?_,hr⟩
    have hblt:=hI.blk_lt hn
    have hrl:(prRows f.blocks o k j).length=o.length:=by simp [prRows]
    have anb:asNat (nth TV.hole [I ((blk o n:Nat):Int)] 0)=some (blk o n):=asNat_nat (by omega)
    have ann:asNat (nth TV.hole [I ((n:Nat):Int)] 0)=some n:=asNat_nat (by omega)
    have c9:(Bool.and (slSize w6 1) (Nat.blt (blk o n) M.length))=true:=by rw [hM.slSize]; simp; omega
    unfold f30_3
    refine Goes.tv rfl (Goes.ite (asB_lt hjl) (fun _=>?_) fun h=>nomatch h)
    refine Goes.nat hvr.slLen (Goes.nat (asNat_nat (by omega)) (Goes.chk ?_ (Goes.tvs he1 (Goes.chk rfl ?_))))
    ·rw [hvr.slSize]; simpa using hjl
    refine Goes.nat hM.slLen (Goes.nat anb (Goes.chk c9 (Goes.tvs he2 (Goes.chk rfl ?_))))
    refine Goes.nat hM.slLen (Goes.nat anb (Goes.chk c9 (Goes.tvs he2 (Goes.chk rfl ?_))))
    refine Goes.nat hw.slLen (Goes.nat ann (Goes.chk ?_ (Goes.tvs he3 (Goes.chk (fit_slc hu.isSl) (Goes.chk rfl (Goes.rws rfl ?_))))))
    ·rw [hw.slSize,hrl]; simpa using hn
    refine Goes.tv (hw.deep he3 (j:=0) (z:=u) rfl) (Goes.tv hu1 (Goes.tv t1 ?_))
    refine Goes.nat t2 (Goes.nat ann (Goes.chk ?_ (Goes.tvs t4 (Goes.chk ?_ (Goes.tv s1 (Goes.tv (inc hjl (by omega)) (f30_3_J hy)))))))
    ·rw [t3,hrl]; simpa using hn
    ·rw [fit_slc hu2.isSl]; rfl
  obtain ⟨y,hy,hr⟩:=inner _ 0 w (Nat.zero_add _) hw
  refine ⟨y,?_,hr⟩
  unfold f30_2
  exact Goes.tv rfl (Goes.ite (asB_lt hkl) (fun _=>Goes.tvs he (Goes.chk rfl (Goes.call hv (Goes.chk (fit_slc hvr.isSl) (Goes.tv hvr.len (f30_3_J hy)))))) fun h=>nomatch h)
theorem befOf:∀ (d k:Nat) (w:TV) (M:List Int),k + d=o.length→RInts (some true) w M→M.length=f.blocks.length→(∀ n,n < k→M[blk o n]? = some ((n:Nat):Int)) →
  ∃ y,Goes prog 30 (f30_0 x x (I o.length) (I k) (I f.params) (I f.regs) b w) y∧RL (some true) 1 (RIL (some true)) y ((List.range o.length).map (prL f.blocks o)):=by
 intro d
 induction d with
 | zero =>
  intro k w M hk hw hl hm
  have hk:k=o.length:=by omega
  subst hk
  obtain ⟨y,hy,hr⟩:=befRows hf hs hx hI hol hw hl hm o.length 0 _ (by omega) (by rw [prRows_start]; exact rep_nils (n:=o.length) (by omega))
  refine ⟨y,?_,hr⟩
  unfold f30_0
  refine Goes.tv rfl (Goes.ite asB_end (fun h=>nomatch h) fun _=>f30_1_J ?_)
  have hn:asNat (I (o.length:Nat))=some o.length:=asNat_nat (by omega)
  unfold f30_1
  exact Goes.tv hx.len (Goes.nat hn (Goes.nat hn (Goes.chk (by simp; omega) (Goes.tv hx.len (f30_2_J hy)))))
 | succ d ih =>
  intro k w M hk hw hl hm
  have hkl:k < o.length:=by omega
  obtain ⟨e,he,rfl,hei⟩:=hx.idx (k:=.i64) (hI.at_ hkl)
  have hblt:=hI.blk_lt hkl
  have hbM:blk o k < M.length:=by omega
  obtain ⟨e2,he2,rfl,_⟩:=hw.pel (List.getElem?_eq_getElem hbM)
  obtain ⟨w',c1,c2⟩:=hw.setAt he2 (d:=0) (ys:=[I k]) (a:=(k:Int)) ⟨rfl,by constructor <;> omega⟩
  obtain ⟨y,hy,hr⟩:=ih (k + 1) w' _ (by omega) c2 (by simpa using hl) (fun n hn=>by
   by_cases e:n=k
   ·subst e; exact List.getElem?_set_self hbM
   ·rw [List.getElem?_set_ne (fun h=>e (hI.inj (by omega) hkl h.symm))]
    exact hm n (by omega))
  refine ⟨y,?_,hr⟩
  unfold f30_0
  refine Goes.tv rfl (Goes.ite (asB_lt hkl) (fun _=>Goes.tvs he (Goes.chk rfl ?_)) fun h=>nomatch h)
  refine Goes.nat hw.slLen (Goes.nat (asNat_nat (by omega)) (Goes.chk ?_ (Goes.chk rfl (Goes.tvs he2 (Goes.chk rfl (Goes.tv c1 (Goes.tv (inc hkl (by omega)) (f30_0_J hy))))))))
  rw [hw.slSize]; simpa using hbM
end
theorem rBefore8 {q:Option Bool} {e:List TV} {f:DFunc} (he:RFunc q e f) (hs:f.blocks.length≤1000) {x:TV} {o:List Int} {qx:Option Bool} (hx:RInts qx x o) (hI:OI f.blocks o) (hol:o.length≤1000) :
  ∃ y,Runs prog 30 [.agg e,x] y∧RL (some true) 1 (RIL (some true)) y ((List.range o.length).map (prL f.blocks o)):=by
 have he0:=he
 obtain ⟨b,rfl,hb,_⟩:=he
 obtain ⟨y,hy,hr⟩:=befOf he0 hs hx hI hol o.length 0 _ _ (by omega) (rep_ints (n:=f.blocks.length) (a:=0) ⟨by decide,by decide⟩ (by omega)) (by simp) (fun n hn=>absurd hn (Nat.not_lt_zero _))
 refine ⟨y,?_,hr⟩
 have hn:asNat (I (f.blocks.length:Nat))=some f.blocks.length:=asNat_nat (by omega)
 refine Runs.of (f30_MR _ _) ?_
 unfold f30_M
 exact Goes.chk rfl (Goes.tv hb.len (Goes.nat hn (Goes.nat hn (Goes.chk (by simp; omega) (Goes.tv hx.len (f30_0_J hy))))))
end Go.Ab.V8
end
section
set_option linter.unusedVariables false
set_option linter.unusedSectionVars false
set_option maxRecDepth 10000
namespace Go.Ab
theorem RL.sl_of {α:Type} {q:Option Bool} {s:Nat} {R:List TV→α→Prop} {x:TV} {l:List α} (h:RL q s R x l) (hl:l≠[]):∃ o xs,x=.sl o s xs∧F2 R xs l:=by
 rcases h with ⟨_,rfl⟩ | ⟨o,xs,rfl,_,h,_⟩
 ·exact absurd rfl hl
 ·exact ⟨o,xs,rfl,h⟩
def begRow (p:Nat→Nat) (N n:Nat):List Int:=(List.range N).map fun i=>if i≠0∧i < n then ((p i:Nat):Int) else 0
theorem begRow_at {p:Nat→Nat} {N n i:Nat} (h:i < N):(begRow p N n)[i]? = some (if i≠0∧i < n then ((p i:Nat):Int) else 0):=by simp [begRow,h]
theorem begRow_start (p:Nat→Nat) (N:Nat):begRow p N 1=List.replicate N 0:=by
 apply List.ext_getElem?
 intro i
 rw [List.getElem?_replicate]
 by_cases h:i < N
 ·rw [begRow_at h,if_pos h,if_neg (by omega)]
 ·rw [if_neg h,List.getElem?_eq_none (by simp [begRow]; omega)]
theorem begRow_next {p:Nat→Nat} {N n:Nat} (h0:n≠0) (h:n < N):begRow p N (n + 1)=(begRow p N n).set n ((p n:Nat):Int):=by
 apply List.ext_getElem?
 intro i
 by_cases hi:i < N
 ·rw [begRow_at hi]
  by_cases e:n=i
  ·subst e
   rw [List.getElem?_set_self (by simp [begRow]; exact h),if_pos ⟨h0,by omega⟩]
  ·rw [List.getElem?_set_ne e,begRow_at hi]
   by_cases h2:i≠0∧i < n
   ·rw [if_pos h2,if_pos ⟨h2.1,by omega⟩]
   ·rw [if_neg h2,if_neg (by omega)]
 ·rw [List.getElem?_eq_none (by simp [begRow]; omega),List.getElem?_eq_none (by simp [begRow]; omega)]
theorem begRow_end (bs:List DBlock) (o:List Int) {n:Nat} (h:o.length≤n):TreeL o.length (begRow (p0L bs o) o.length n) (p0Z bs o):=by
 refine ⟨by simp [begRow],fun i hi=>?_⟩
 rw [begRow_at hi]
 unfold p0Z
 by_cases h0:i=0
 ·rw [if_pos h0,if_neg (by omega)]; rfl
 ·rw [if_neg h0,if_pos ⟨h0,by omega⟩]
theorem TreeL.upd {N:Nat} {l:List Int} {T:Nat→Nat} (h:TreeL N l T) {m v:Nat} (hm:m < N):TreeL N (l.set m ((v:Nat):Int)) (updT T m v):=by
 refine ⟨by rw [List.length_set]; exact h.1,fun n hn=>?_⟩
 by_cases e:m=n
 ·subst e; rw [updT_at,List.getElem?_set_self (by rw [h.1]; exact hm)]
 ·rw [updT_ne (Ne.symm e),List.getElem?_set_ne e]; exact h.2 n hn
end Go.Ab
namespace Go.Ab.V8
open Go Go.Ab Go.Proofs
theorem rAll8 {a b wv v:TV} {qa qb:Option Bool} {l:List Int} {T:Nat→Nat} {N:Nat} {ls:List Nat} (hw:RInts qa wv l) (hv:RInts qb v (castL ls)) (hT:TreeL N l T) (hL:Low N T) (h0:ls≠[]) (hN:∀ p ∈ ls,p < N) (hN1:N≤1000000) (hl1:ls.length≤1000000) {r:Nat} (hr:AllP l (castL ls) r) :
  Runs prog 31 [.agg [a,b,wv],v] (I (r:Int)):=by
 have hpos:0 < N:=by
  cases ls with
  | nil=>exact absurd rfl h0
  | cons p ls=>exact Nat.lt_of_le_of_lt (Nat.zero_le _) (hN p List.mem_cons_self)
 obtain ⟨o1,xs,rfl,hf⟩:=hw.sl_of (by rintro rfl; have:=hT.1; simp at this; omega)
 obtain ⟨o2,ys,rfl,hg⟩:=hv.sl_of (by intro e; simp [castL] at e; exact h0 e)
 exact Runs.ext rfl (xAll_of ⟨N,T,l,ls,hT,hL,hf,hg,h0,hN,hN1,hl1,hr⟩)
theorem rRank8 {q:Option Bool} {e:List TV} {f:DFunc} (he:RFunc q e f) (hs:f.blocks.length≤1000):∃ v0 v1 v2 o l,Runs prog 18 [.agg e] (.agg [v0,v1,v2])∧OrderP f.blocks o∧RInts (some true) v0 o ∧
  RL (some true) 1 (RIL (some true)) v1 ((List.range o.length).map (prL f.blocks o))∧RInts (some true) v2 l∧TreeL o.length l (p0Z f.blocks o):=by
 have he0:=he
 obtain ⟨b,rfl,hb,_⟩:=he
 obtain ⟨v0,o,hv0,k0,hO⟩:=r80 he0 hs
 have hI:=hO.keeps
 have hol:o.length≤1000:=Nat.le_trans hI.len hs
 obtain ⟨v1,hv1,k1⟩:=rBefore8 he0 hs (k0.frz fun _ _ h=>h.frz) hI hol
 have loop:∀ (d n:Nat) (w:TV),o.length - n≤d→n≠0→RInts (some true) w (begRow (p0L f.blocks o) o.length n)→∃ v2 l,Goes prog 18 (f18_0 (I n) v0 v1 w) (.agg [v0,v1,v2])∧RInts (some true) v2 l∧TreeL o.length l (p0Z f.blocks o):=by
  intro d
  have fin:∀ (n:Nat) (w:TV),o.length≤n→n≠0→RInts (some true) w (begRow (p0L f.blocks o) o.length n)→∃ v2 l,Goes prog 18 (f18_0 (I n) v0 v1 w) (.agg [v0,v1,v2])∧RInts (some true) v2 l∧TreeL o.length l (p0Z f.blocks o):=by
   intro n w hn h0 hw
   refine ⟨w,_,?_,hw,begRow_end f.blocks o hn⟩
   unfold f18_0
   refine Goes.tv k0.len (Goes.tv rfl (Goes.ite (v:=false) (by simp [asBool]; omega) (fun h=>nomatch h) fun _=>Goes.chk ?_ Goes.ret))
   have o0:=k0.own fun _ _ h=>h.own
   have o1:=k1.own fun _ _ h=>h.own
   have o2:=hw.own fun _ _ h=>h.own
   simp [isOwn,isOwnL,o0,o1,o2]
  induction d with
  | zero=>intro n w hd h0 hw; exact fin n w (by omega) h0 hw
  | succ d ih =>
   intro n w hd h0 hw
   by_cases hn:n < o.length
   ·obtain ⟨p,hp,_⟩:=hI.low h0 hn
    have hne:prL f.blocks o n≠[]:=fun e=>by rw [e] at hp; cases hp
    have hlen:0 < (prL f.blocks o n).length:=List.length_pos_iff.2 hne
    obtain ⟨e1,he1,u,rfl,hu⟩:=k1.pel (i:=n) (a:=prL f.blocks o n) (by simp [hn])
    obtain ⟨e2,he2,rfl,hei⟩:=hu.pel (i:=0) (a:=((p0L f.blocks o n:Nat):Int)) (by simp only [castL,List.getElem?_map,p0_at hne,Option.map_some])
    obtain ⟨e3,he3,rfl,_⟩:=hw.pel (begRow_at hn)
    obtain ⟨w',c1,c2⟩:=hw.setAt he3 (d:=0) (ys:=[I (p0L f.blocks o n:Nat)]) (a:=((p0L f.blocks o n:Nat):Int)) ⟨rfl,hei⟩
    rw [← begRow_next h0 hn] at c2
    obtain ⟨v2,l,hy,r1,r2⟩:=ih (n + 1) w' (by omega) (by omega) c2
    refine ⟨v2,l,?_,r1,r2⟩
    have ann:asNat (I (n:Nat))=some n:=asNat_nat (by omega)
    have hgp:=k1.deep he1 (j:=0) (z:=u) rfl
    unfold f18_0
    refine Goes.tv k0.len (Goes.tv rfl (Goes.ite (v:=true) (by simp [asBool]; omega) (fun _=>?_) fun h=>nomatch h))
    refine Goes.nat k1.slLen (Goes.nat ann (Goes.chk ?_ (Goes.tvs he1 (Goes.chk (fit_slc hu.isSl) (Goes.tv hgp (Goes.nat hu.slLen (Goes.nat (v:=0) rfl (Goes.chk ?_ (Goes.tv hgp (Goes.tvs he2 (Goes.chk rfl ?_)))))))))))
    ·rw [k1.slSize]; simp; omega
    ·rw [hu.slSize]; simp [castL]; omega
    refine Goes.nat hw.slLen (Goes.nat ann (Goes.chk ?_ (Goes.tvs he3 (Goes.chk rfl (Goes.tv c1 (Goes.tv (inc hn (by omega)) (f18_0_J hy)))))))
    rw [hw.slSize]; simp [begRow]; omega
   ·exact fin n w (by omega) h0 hw
 obtain ⟨v2,l,hy,r1,r2⟩:=loop o.length 1 _ (by omega) (by omega) (by rw [begRow_start]; exact rep_ints (n:=o.length) (a:=0) ⟨by decide,by decide⟩ (by omega))
 refine ⟨v0,v1,v2,o,l,?_,hO,k0,k1,r1,r2⟩
 have hn:asNat (I (o.length:Nat))=some o.length:=asNat_nat (by omega)
 refine Runs.of (f18_MR _) ?_
 unfold f18_M
 exact Goes.chk rfl (Goes.call hv0 (Goes.chk (fit_slc k0.isSl) (Goes.call hv1 (Goes.chk (fit_slc k1.isSl) (Goes.tv k0.len (Goes.nat hn (Goes.nat hn (Goes.chk (by simp; omega) (f18_0_J hy)))))))))
section
variable {q:Option Bool} {b:TV} {f:DFunc} (hb:RL q 14 (RBlock q) b f.blocks) (hs:f.blocks.length≤1000) {v0 v1:TV} {o:List Int} (hI:OI f.blocks o) (hol:o.length≤1000) (k0:RInts (some true) v0 o) (k1:RL (some true) 1 (RIL (some true)) v1 ((List.range o.length).map (prL f.blocks o)))
include hb hs hI hol k0
theorem ovrLast {w4:TV} {l:List Int} {T:Nat→Nat} (k4:RInts (some true) w4 l) (hT:TreeL o.length l T) (hL:Low o.length T) (hov:∀ n,n≠0→n < o.length→ovN f.blocks (blk o n)=((blk o (T n):Nat):Int)):∀ (d n:Nat) (w:TV) (M:List Int),o.length - n≤d→n≠0→RInts (some true) w M→M.length=f.blocks.length →
  (∀ i,i≠0→i < n→i < o.length→M[blk o i]? = some ((blk o (T i):Nat):Int))→(∀ b,b < f.blocks.length→(∀ i,i≠0→i < n→i < o.length→blk o i≠b)→M[b]? = some (-1)) →
  ∃ y,Goes prog 9 (f9_5 (I n) w v0 v1 w4) y∧RInts (some true) y (overL f.blocks):=by
 have fin : ∀ (n : Nat) (w : TV) (M : List Int), o.length ≤ n → n ≠ 0 → RInts (some true) w M → M.length = f.blocks.length →
   (∀ i,i≠0→i < n→i < o.length→M[blk o i]? = some ((blk o (T i):Nat):Int))→(∀ b,b < f.blocks.length→(∀ i,i≠0→i < n→i < o.length→blk o i≠b)→M[b]? = some (-1)) →
   ∃ y,Goes prog 9 (f9_5 (I n) w v0 v1 w4) y∧RInts (some true) y (overL f.blocks):=by
  intro n w M hn h0 hw hl hm hm2
  have e:M=overL f.blocks:=by
   apply List.ext_getElem?
   intro c
   by_cases hc:c < f.blocks.length
   ·rw [overL_get hc]
    by_cases hr:Rc f.blocks (-1) c∧c≠0
    ·obtain ⟨i,hi,rfl⟩:=hI.rank hr.1
     have hi0:i≠0:=fun e=>by
      subst e
      exact hr.2 (hI.zero (by rintro e; rw [e] at hc; cases hc)).2
     rw [hm i hi0 (by omega) hi,hov i hi0 hi]
    ·rw [ovN_none hr]
     refine hm2 c hc fun i hi0 _ hi e=>hr ?_
     subst e
     refine ⟨hI.rc hi,fun e=>hi0 ?_⟩
     have hz:=hI.zero (by rintro e; rw [e] at hc; cases hc)
     exact hI.inj hi hz.1 (by rw [e,hz.2])
   ·rw [List.getElem?_eq_none (by omega),List.getElem?_eq_none (by rw [overL_len]; omega)]
  subst e
  refine ⟨w,?_,hw⟩
  unfold f9_5
  exact Goes.tv k0.len (Goes.tv rfl (Goes.ite (v:=false) (by simp [asBool]; omega) (fun h=>nomatch h) fun _=>Goes.chk (hw.own fun _ _ h=>h.own) Goes.ret))
 intro d
 induction d with
 | zero=>intro n w M hd h0 hw hl hm hm2; exact fin n w M (by omega) h0 hw hl hm hm2
 | succ d ih =>
  intro n w M hd h0 hw hl hm hm2
  by_cases hn:n < o.length
  ·have hlow:=hL n h0 hn
   have htn:T n < o.length:=by omega
   have hblt:=hI.blk_lt hn
   have hbt:=hI.blk_lt htn
   obtain ⟨e1,he1,rfl,_⟩:=k0.pel (hI.at_ hn)
   obtain ⟨e2,he2,rfl,_⟩:=k4.pel (hT.2 n hn)
   obtain ⟨e3,he3,rfl,hei⟩:=k0.pel (hI.at_ htn)
   have hbM:blk o n < M.length:=by omega
   obtain ⟨e4,he4,rfl,_⟩:=hw.pel (List.getElem?_eq_getElem hbM)
   obtain ⟨w',c1,c2⟩:=hw.setAt he4 (d:=0) (ys:=[I (blk o (T n):Nat)]) (a:=((blk o (T n):Nat):Int)) ⟨rfl,hei⟩
   obtain ⟨y,hy,hr⟩:=ih (n + 1) w' _ (by omega) (by omega) c2 (by rw [List.length_set]; exact hl) (fun i hi0 hin hil=>by
    by_cases e:i=n
    ·subst e; exact List.getElem?_set_self hbM
    ·rw [List.getElem?_set_ne (fun h=>e (hI.inj hil hn h.symm))]
     exact hm i hi0 (by omega) hil) (fun c hc hno=>by
    rw [List.getElem?_set_ne (hno n h0 (by omega) hn)]
    exact hm2 c hc fun i hi0 hin hil=>hno i hi0 (by omega) hil)
   refine ⟨y,?_,hr⟩
   have ann:asNat (I (n:Nat))=some n:=asNat_nat (by omega)
   have hl4:l.length=o.length:=hT.1
   unfold f9_5
   refine Goes.tv k0.len (Goes.tv rfl (Goes.ite (v:=true) (by simp [asBool]; omega) (fun _=>?_) fun h=>nomatch h))
   refine Goes.nat k0.slLen (Goes.nat ann (Goes.chk ?_ (Goes.tvs he1 (Goes.chk rfl (Goes.nat k4.slLen (Goes.nat ann (Goes.chk ?_ (Goes.tvs he2 (Goes.chk rfl ?_)))))))))
   ·rw [k0.slSize]; simp; omega
   ·rw [k4.slSize]; simp; omega
   refine Goes.nat k0.slLen (Goes.nat (asNat_nat (k:=T n) (by omega)) (Goes.chk ?_ (Goes.tvs he3 (Goes.chk rfl (Goes.nat hw.slLen (Goes.nat (asNat_nat (k:=blk o n) (by omega)) (Goes.chk ?_ (Goes.tvs he4 (Goes.chk rfl (Goes.tv c1 (Goes.tv (inc hn (by omega)) (f9_5_J hy))))))))))))
   ·rw [k0.slSize]; simp; omega
   ·rw [hw.slSize]; simp; omega
  ·exact fin n w M (by omega) h0 hw hl hm hm2
theorem ovrNone {w4:TV} {l:List Int} {T:Nat→Nat} (k4:RInts (some true) w4 l) (hT:TreeL o.length l T) (hL:Low o.length T) (hov:∀ n,n≠0→n < o.length→ovN f.blocks (blk o n)=((blk o (T n):Nat):Int)):∀ (d k:Nat) (w:TV) (M:List Int),k + d=f.blocks.length→RInts (some true) w M→M.length=f.blocks.length→(∀ i,i < k→M[i]? = some (-1)) →
  ∃ y,Goes prog 9 (f9_3 (I f.blocks.length) (I k) w v0 v1 w4) y∧RInts (some true) y (overL f.blocks):=by
 intro d
 induction d with
 | zero =>
  intro k w M hk hw hl hm
  have hk:k=f.blocks.length:=by omega
  subst hk
  obtain ⟨y,hy,hr⟩:=ovrLast hb hs hI hol k0 (v1:=v1) k4 hT hL hov o.length 1 w M (by omega) (by omega) hw hl (fun i h0 h1=>by omega) (fun c hc _=>hm c hc)
  refine ⟨y,?_,hr⟩
  unfold f9_3
  refine Goes.tv rfl (Goes.ite asB_end (fun h=>nomatch h) fun _=>f9_4_J ?_)
  unfold f9_4
  exact f9_5_J hy
 | succ d ih =>
  intro k w M hk hw hl hm
  have hkl:k < f.blocks.length:=by omega
  have hkM:k < M.length:=by omega
  obtain ⟨e4,he4,rfl,_⟩:=hw.pel (List.getElem?_eq_getElem hkM)
  obtain ⟨w',c1,c2⟩:=hw.setAt he4 (d:=0) (ys:=[I (-1)]) (a:=-1) ⟨rfl,⟨by decide,by decide⟩⟩
  obtain ⟨y,hy,hr⟩:=ih (k + 1) w' _ (by omega) c2 (by rw [List.length_set]; exact hl) (fun i hi=>by
   by_cases e:k=i
   ·subst e; exact List.getElem?_set_self hkM
   ·rw [List.getElem?_set_ne e]; exact hm i (by omega))
  refine ⟨y,?_,hr⟩
  unfold f9_3
  refine Goes.tv rfl (Goes.ite (asB_lt hkl) (fun _=>?_) fun h=>nomatch h)
  refine Goes.nat hw.slLen (Goes.nat (asNat_nat (by omega)) (Goes.chk ?_ (Goes.tvs he4 (Goes.chk rfl (Goes.tv c1 (Goes.tv (inc hkl (by omega)) (f9_3_J hy)))))))
  rw [hw.slSize]; simp; omega
include k1
theorem ovrTree {p0 : Nat → Nat} (hG : Grf o.length (prL f.blocks o) p0) : ∀ (z : Nat) (w : TV) (l : List Int) (T : Nat → Nat), high T o.length < z → RInts (some true) w l → TreeL o.length l T → TI o.length (prL f.blocks o) p0 1 T →
  ∃ y,Goes prog 9 (f9_0 (I f.params) (I f.regs) b v0 v1 w) y∧RInts (some true) y (overL f.blocks):=by
 intro z
 induction z with
 | zero=>intro w l T hz; omega
 | succ z ihz =>
  intro w0 l0 T0 hz0 hw0 hT0 hTI0
  have sweep : ∀ (d n : Nat) (c : Bool) (w : TV) (l : List Int) (T : Nat → Nat), o.length - n ≤ d → n ≠ 0 → RInts (some true) w l → TreeL o.length l T → TI o.length (prL f.blocks o) p0 n T → high T o.length ≤ high T0 o.length → (c = true → high T o.length < high T0 o.length) →
    (c=false→∀ i,i≠0→i < n→i < o.length→∀ x,Up T (T i) x ↔ ∀ p ∈ prL f.blocks o i,Up T p x) →
    ∃ y,Goes prog 9 (f9_1 (B c) (I n) (I f.params) (I f.regs) b v0 v1 w) y∧RInts (some true) y (overL f.blocks):=by
   have fin:∀ (n:Nat) (c:Bool) (w:TV) (l:List Int) (T:Nat→Nat),o.length≤n→n≠0→RInts (some true) w l→TreeL o.length l T→TI o.length (prL f.blocks o) p0 n T→(c=true→high T o.length < high T0 o.length) →
     (c=false→∀ i,i≠0→i < n→i < o.length→∀ x,Up T (T i) x ↔ ∀ p ∈ prL f.blocks o i,Up T p x) →
     ∃ y,Goes prog 9 (f9_1 (B c) (I n) (I f.params) (I f.regs) b v0 v1 w) y∧RInts (some true) y (overL f.blocks):=by
    intro n c w l T hn h0 hw hT hTI hc1 hc0
    have hl:l.length=o.length:=hT.1
    cases c with
    | true =>
     obtain ⟨y,hy,hr⟩:=ihz w l T (by have:=hc1 rfl; omega) hw hT (hTI.again hn)
     refine ⟨y,?_,hr⟩
     unfold f9_1
     exact Goes.tv hw.len (Goes.tv rfl (Goes.ite (v:=false) (by simp [asBool]; omega) (fun h=>nomatch h) fun _=>Goes.ite (v:=true) rfl (fun _=>f9_0_J hy) fun h=>nomatch h))
    | false =>
     obtain ⟨y,hy,hr⟩:=ovrNone hb hs hI hol k0 (v1:=v1) hw hT hTI.low (fun i h0 hi=>hI.ov hG hTI (fun n h0 hn=>hc0 rfl n h0 (by omega) hn) h0 hi) f.blocks.length 0 _ _ (by omega) (rep_ints (n:=f.blocks.length) (a:=0) ⟨by decide,by decide⟩ (by omega)) (by simp) (fun i hi=>absurd hi (Nat.not_lt_zero _))
     refine ⟨y,?_,hr⟩
     have hnb:asNat (I (f.blocks.length:Nat))=some f.blocks.length:=asNat_nat (by omega)
     unfold f9_1
     refine Goes.tv hw.len (Goes.tv rfl (Goes.ite (v:=false) (by simp [asBool]; omega) (fun h=>nomatch h) fun _=>Goes.ite (v:=false) rfl (fun h=>nomatch h) fun _=>f9_2_J ?_))
     unfold f9_2
     exact Goes.tv hb.len (Goes.nat hnb (Goes.nat hnb (Goes.chk (by simp; omega) (Goes.tv (rep_ints (n:=f.blocks.length) (a:=0) ⟨by decide,by decide⟩ (by omega)).len (by
      rw [List.length_replicate]
      exact f9_3_J hy)))))
   intro d
   induction d with
   | zero=>intro n c w l T hd h0 hw hT hTI _ hc1 hc0; exact fin n c w l T (by omega) h0 hw hT hTI hc1 hc0
   | succ d ih =>
    intro n c w l T hd h0 hw hT hTI hhi hc1 hc0
    by_cases hn:n < o.length
    ·have hl:l.length=o.length:=hT.1
     obtain ⟨p,hp,_⟩:=hI.low h0 hn
     have hne:prL f.blocks o n≠[]:=fun e=>by rw [e] at hp; cases hp
     obtain ⟨r,a1,a2,a3⟩:=all_ex hT hTI.low hne (hG.in_ n hn)
     obtain ⟨e1,he1,u,rfl,hu⟩:=k1.pel (i:=n) (a:=prL f.blocks o n) (by simp [hn])
     obtain ⟨e2,he2,rfl,_⟩:=hw.pel (hT.2 n hn)
     have hgp:=k1.deep he1 (j:=0) (z:=u) rfl
     have hplen:(prL f.blocks o n).length≤1000000:=by
      have:=prTo_len f.blocks o n o.length
      unfold prL
      omega
     have hcall:=rAll8 (a:=frz v0) (b:=frz v1) (hw.frz fun _ _ h=>h.frz) (hu.frz fun _ _ h=>h.frz) hT hTI.low hne (hG.in_ n hn) (by omega) hplen a1
     have ann:asNat (I (n:Nat))=some n:=asNat_nat (by omega)
     have hle:=TI.lower_le hG hTI h0 hn a3
     have hnx:=TI.next hG hTI h0 hn a3
     have hup:=high_upd (T:=T) (m:=n) (v:=r) o.length hn
     have front:∀ {y:TV},(r=T n→Goes prog 9 (f9_1 (B c) (I ((n + 1:Nat):Int)) (I f.params) (I f.regs) b v0 v1 w) y)→(∀ w',setC [] w n 0 [I (r:Int)]=some w'→r≠T n→Goes prog 9 (f9_1 (B true) (I ((n + 1:Nat):Int)) (I f.params) (I f.regs) b v0 v1 w') y)→(∃ w',setC [] w n 0 [I (r:Int)]=some w') →
       Goes prog 9 (f9_1 (B c) (I n) (I f.params) (I f.regs) b v0 v1 w) y:=by
      rintro y g1 g2 ⟨w',hw'⟩
      unfold f9_1
      refine Goes.tv hw.len (Goes.tv rfl (Goes.ite (v:=true) (by simp [asBool]; omega) (fun _=>?_) fun h=>nomatch h))
      refine Goes.nat k1.slLen (Goes.nat ann (Goes.chk ?_ (Goes.tvs he1 (Goes.chk (fit_slc hu.isSl) (Goes.tv hgp (Goes.call hcall (Goes.chk rfl ?_)))))))
      ·rw [k1.slSize]; simp; omega
      refine Goes.nat hw.slLen (Goes.nat ann (Goes.chk ?_ (Goes.tvs he2 (Goes.chk rfl (Goes.tv rfl (Goes.ite rfl (fun h=>?_) fun h=>?_))))))
      ·rw [hw.slSize]; simp; omega
      ·have hne:r≠T n:=by
        have h1:((r:Int) != (T n:Int))=true:=h
        have h2:¬ (r:Int)=(T n:Int):=by simpa using h1
        omega
       refine Goes.nat hw.slLen (Goes.nat ann (Goes.chk ?_ (Goes.tvs he2 (Goes.chk rfl (Goes.tv hw' (Goes.tv (inc hn (by omega)) (f9_1_J (g2 w' hw' hne))))))))
       rw [hw.slSize]; simp; omega
      ·have hre:r=T n:=by
        have h1:((r:Int) != (T n:Int))=false:=h
        have h2:(r:Int)=(T n:Int):=by simpa using h1
        omega
       exact Goes.tv (inc hn (by omega)) (f9_1_J (g1 hre))
     have hrI:inI (r:Int):=by constructor <;> omega
     obtain ⟨w',c1,c2⟩:=hw.setAt he2 (d:=0) (ys:=[I (r:Int)]) (a:=(r:Int)) ⟨rfl,hrI⟩
     by_cases e:r=T n
     ·have hsame:updT T n r=T:=by
       funext i
       by_cases hi:i=n
       ·subst hi; rw [updT_at,e]
       ·rw [updT_ne hi]
      rw [hsame] at hnx
      obtain ⟨y,hy,hr⟩:=ih (n + 1) c w l T (by omega) (by omega) hw hT hnx hhi hc1 (fun hc i hi0 hin hil=>by
       by_cases hi:i=n
       ·subst hi; rw [← e]; exact a3
       ·exact hc0 hc i hi0 (by omega) hil)
      exact ⟨y,front (fun _=>hy) (fun _ _ h=>absurd e h) ⟨w',c1⟩,hr⟩
     ·obtain ⟨y,hy,hr⟩:=ih (n + 1) true w' _ (updT T n r) (by omega) (by omega) c2 (hT.upd hn) hnx (by omega) (fun _=>by omega) (fun h=>nomatch h)
      refine ⟨y,front (fun h=>absurd h e) (fun w'' h _=>?_) ⟨w',c1⟩,hr⟩
      rw [c1] at h
      cases h
      exact hy
    ·exact fin n c w l T (by omega) h0 hw hT hTI hc1 hc0
  obtain ⟨y,hy,hr⟩:=sweep o.length 1 false w0 l0 T0 (by omega) (by omega) hw0 hT0 hTI0 (Nat.le_refl _) (fun h=>nomatch h) (fun _ i h0 h1=>by omega)
  refine ⟨y,?_,hr⟩
  unfold f9_0
  exact f9_1_J hy
end
theorem rOver8 {q:Option Bool} {e:List TV} {f:DFunc} (he:RFunc q e f) (hs:f.blocks.length≤1000):∃ y,Runs prog 9 [.agg e] y∧RInts (some true) y (overL f.blocks):=by
 obtain ⟨v0,v1,v2,o,l,hv,hO,k0,k1,k2,hT⟩:=rRank8 he hs
 have he0:=he
 obtain ⟨b,rfl,hb,_⟩:=he
 have hI:=hO.keeps
 have hol:o.length≤1000:=Nat.le_trans hI.len hs
 obtain ⟨y,hy,hr⟩:=ovrTree hb hs hI hol k0 k1 hI.grfZ (high (p0Z f.blocks o) o.length + 1) v2 l _ (by omega) k2 hT (TI.start hI.grfZ 1)
 refine ⟨y,?_,hr⟩
 refine Runs.of (f9_MR _) ?_
 unfold f9_M
 refine Goes.chk rfl (Goes.call hv (Goes.chk ?_ (f9_0_J hy)))
 show (true && (v0.isSl && (v1.isSl && (v2.isSl && true))))=true
 rw [k0.isSl,k1.isSl,k2.isSl]; rfl
end Go.Ab.V8
end
section
set_option linter.unusedVariables false
set_option linter.unusedSectionVars false
set_option maxRecDepth 10000
namespace Go.Ab
def DmI (bs:List DBlock) (n:Int) (b:Nat):Prop:=0≤n∧Dm bs n.toNat b
theorem DmI.lt {bs:List DBlock} {n:Int} {b:Nat} (h:DmI bs n b):b < bs.length:=h.2.1.lt
theorem DmI_nat {bs:List DBlock} {n b:Nat}:DmI bs (n:Int) b ↔ Dm bs n b:=by simp [DmI]
noncomputable def undL (bs:List DBlock) (n:Int):List Bool:=(List.range bs.length).map fun b=>tt (DmI bs n b)
theorem undL_len (bs:List DBlock) (n:Int):(undL bs n).length=bs.length:=by simp [undL]
theorem undL_get {bs:List DBlock} {n:Int} {b:Nat} (h:b < bs.length):(undL bs n)[b]? = some (tt (DmI bs n b)):=by simp [undL,h]
theorem OI.dm_le {bs:List DBlock} {o:List Int} (hI:OI bs o) {x:Nat} (hx:x < o.length):∀ (n:Nat),n < o.length→Dm bs (blk o x) (blk o n)→x≤n:=by
 intro n
 induction n using Nat.strongRecOn with
 | _ n ih =>
  intro hn h
  by_cases e:x=n
  ·omega
  ·by_cases h0:n=0
   ·subst h0
    have hb:bs≠[]:=fun e=>by have:=hI.blk_lt hn; rw [e] at this; cases this
    have hz:=(hI.zero hb).2
    rw [hz] at h
    have:=h.anti (.zero h.up)
    have:=hI.inj hx hn (by rw [this,hz])
    omega
   ·obtain ⟨p,hp,hpn⟩:=hI.low h0 hn
    obtain ⟨q1,q2⟩:=prL_mem.1 hp
    have:=Dm.step (a:=blk o x) (hI.rc q1) q2 (by simpa using h) (fun e2=>e (hI.inj hx hn (by omega)))
    have:=ih p hpn q1 this
    omega
def EdP (bs:List DBlock) (n:Int) (k j g:Nat):Prop:=((∃ b:Nat,b < k∧DmI bs n b∧(g:Int) ∈ nextAt bs b)∨(DmI bs n k∧(g:Int) ∈ (nextAt bs k).take j))∧((g:Int)=n∨¬ DmI bs n g)
theorem EdP_over {bs:List DBlock} {n:Int} {k g:Nat}:EdP bs n k (nextAt bs k).length g ↔ EdP bs n (k + 1) 0 g:=by
 unfold EdP
 rw [List.take_length]
 simp only [List.take_zero,List.not_mem_nil,and_false,or_false]
 refine and_congr_left fun _=>⟨?_,?_⟩
 ·rintro (⟨b,h1,h2,h3⟩ | ⟨h1,h2⟩)
  ·exact ⟨b,by omega,h2,h3⟩
  ·exact ⟨k,by omega,h1,h2⟩
 ·rintro ⟨b,h1,h2,h3⟩
  by_cases e:b=k
  ·subst e; exact .inr ⟨h2,h3⟩
  ·exact .inl ⟨b,by omega,h2,h3⟩
theorem EdP_skip {bs:List DBlock} {n:Int} {k g:Nat} (h:¬ DmI bs n k):EdP bs n k 0 g ↔ EdP bs n (k + 1) 0 g:=by
 rw [← EdP_over]
 unfold EdP
 simp [h]
theorem EdP_next {bs:List DBlock} {n:Int} {k j g c:Nat} (hd:DmI bs n k) (hc:(nextAt bs k)[j]? = some (c:Int)) (hg:g≠c):EdP bs n k (j + 1) g ↔ EdP bs n k j g:=by
 unfold EdP
 rw [take_get hc,List.mem_append,List.mem_singleton]
 have:¬ (g:Int)=(c:Int):=by omega
 simp [this]
theorem EdP_at {bs:List DBlock} {n:Int} {k j c:Nat} (hd:DmI bs n k) (hc:(nextAt bs k)[j]? = some (c:Int)):EdP bs n k (j + 1) c ↔ ((c:Int)=n∨¬ DmI bs n c):=by
 unfold EdP
 rw [take_get hc,List.mem_append,List.mem_singleton]
 simp [hd]
noncomputable def edgeI (bs:List DBlock) (n:Int) (k:Nat):List Int:=if 0≤n then edgeTo bs n.toNat k else []
theorem edgeI_all (bs:List DBlock) (n:Int):edgeI bs n bs.length=edgeL bs n:=rfl
theorem edgeI_yes {bs:List DBlock} {n:Int} {k:Nat} (h:EdP bs n bs.length 0 k):edgeI bs n (k + 1)=edgeI bs n k ++ [(k:Int)]:=by
 obtain ⟨h1,h2⟩:=h
 simp only [List.take_zero,List.not_mem_nil,and_false,or_false] at h1
 obtain ⟨b,_,hb,hg⟩:=h1
 have h0:=hb.1
 have hp:edgeP bs n.toNat k:=⟨⟨b,hb.2,hg⟩,h2.imp (fun e=>by omega) (fun hn hd=>hn ⟨h0,hd⟩)⟩
 classical
 unfold edgeI
 rw [if_pos h0,if_pos h0,edgeTo_succ,if_pos hp]
theorem edgeI_no {bs:List DBlock} {n:Int} {k:Nat} (h:¬ EdP bs n bs.length 0 k):edgeI bs n (k + 1)=edgeI bs n k:=by
 classical
 unfold edgeI
 by_cases h0:0≤n
 ·rw [if_pos h0,if_pos h0,edgeTo_succ,if_neg,List.append_nil]
  rintro ⟨⟨b,hb,hg⟩,h2⟩
  refine h ⟨.inl ⟨b,hb.1.lt,⟨h0,hb⟩,hg⟩,h2.imp (fun e=>by omega) (fun hn hd=>hn hd.2)⟩
 ·rw [if_neg h0,if_neg h0]
theorem edgeI_len (bs:List DBlock) (n:Int) (k:Nat):(edgeI bs n k).length≤k:=by
 unfold edgeI
 split
 ·unfold edgeTo
  rw [List.length_map]
  exact Nat.le_trans (List.length_filter_le _ _) (by simp)
 ·simp
end Go.Ab
namespace Go.Ab.V8
open Go Go.Ab Go.Proofs
theorem rUnder8 {q:Option Bool} {e:List TV} {f:DFunc} (he:RFunc q e f) (hs:f.blocks.length≤1000) (n:Int):∃ y,Runs prog 21 [.agg e,I n] y∧RBools (some true) y (undL f.blocks n):=by
 obtain ⟨v0,hv0,k0⟩:=rOver8 he hs
 obtain ⟨v4,o,hv4,k4,hO⟩:=r80 he hs
 have hI:=hO.keeps
 have hol:o.length≤1000:=Nat.le_trans hI.len hs
 obtain ⟨b,rfl,hb,_⟩:=he
 have loop : ∀ (d k : Nat) (w : TV) (M : List Bool), k + d = o.length → RBools (some true) w M → M.length = f.blocks.length → (∀ i, i < k → M[blk o i]? = some (tt (DmI f.blocks n (blk o i)))) → (∀ c, c < f.blocks.length → (∀ i, i < k → blk o i ≠ c) → M[c]? = some false) →
   ∃ y,Goes prog 21 (f21_0 (I n) (I o.length) (I k) v0 w v4) y∧RBools (some true) y (undL f.blocks n):=by
  intro d
  induction d with
  | zero =>
   intro k w M hk hw hl hm hm2
   have hk:k=o.length:=by omega
   subst hk
   have e:M=undL f.blocks n:=by
    apply List.ext_getElem?
    intro c
    by_cases hc:c < f.blocks.length
    ·rw [undL_get hc]
     by_cases hr:Rc f.blocks (-1) c
     ·obtain ⟨i,hi,rfl⟩:=hI.rank hr
      exact hm i hi
     ·rw [tt_false fun h=>hr h.2.1]
      exact hm2 c hc fun i hi e=>hr (e ▸ hI.rc hi)
    ·rw [List.getElem?_eq_none (by omega),List.getElem?_eq_none (by rw [undL_len]; omega)]
   subst e
   refine ⟨w,?_,hw⟩
   unfold f21_0
   exact Goes.tv rfl (Goes.ite asB_end (fun h=>nomatch h) fun _=>Goes.chk (hw.own fun _ _ h=>h.own) Goes.ret)
  | succ d ih =>
   intro k w M hk hw hl hm hm2
   have hkl:k < o.length:=by omega
   have hblt:=hI.blk_lt hkl
   have hbM:blk o k < M.length:=by omega
   obtain ⟨e1,he1,rfl,hei⟩:=k4.pel (hI.at_ hkl)
   obtain ⟨e2,he2,hR2⟩:=hw.pel (List.getElem?_eq_getElem hbM)
   cases hR2
   obtain ⟨w',c1,c2⟩:=hw.setAt he2 (d:=0) (ys:=[B (tt (DmI f.blocks n (blk o k)))]) (a:=tt (DmI f.blocks n (blk o k))) rfl
   obtain ⟨y,hy,hr⟩:=ih (k + 1) w' _ (by omega) c2 (by rw [List.length_set]; exact hl) (fun i hi=>by
    by_cases e:i=k
    ·subst e; exact List.getElem?_set_self hbM
    ·rw [List.getElem?_set_ne (fun h=>e (hI.inj (by omega) hkl h.symm))]
     exact hm i (by omega)) (fun c hc hno=>by
    rw [List.getElem?_set_ne (hno k (by omega))]
    exact hm2 c hc fun i hi=>hno i (by omega))
   refine ⟨y,?_,hr⟩
   have ank:asNat (I (k:Nat))=some k:=asNat_nat (by omega)
   have anb:asNat (nth TV.hole [I ((blk o k:Nat):Int)] 0)=some (blk o k):=asNat_nat (by omega)
   have cM:(Bool.and (slSize w 1) (Nat.blt (blk o k) M.length))=true:=by rw [hw.slSize]; simp; omega
   unfold f21_0
   refine Goes.tv rfl (Goes.ite (asB_lt hkl) (fun _=>?_) fun h=>nomatch h)
   refine Goes.nat k4.slLen (Goes.nat ank (Goes.chk ?_ (Goes.tvs he1 (Goes.chk rfl (Goes.tv rfl (Goes.ite rfl (fun h=>?_) fun h=>?_))))))
   ·rw [k4.slSize]; simp; omega
   ·have hn:((blk o k:Nat):Int)=n:=by simpa using h
    have ht:tt (DmI f.blocks n (blk o k))=true:=tt_true (by rw [← hn,DmI_nat]; exact .refl (hI.rc hkl))
    rw [ht] at c1
    exact Goes.nat hw.slLen (Goes.nat anb (Goes.chk cM (Goes.tvs he2 (Goes.chk rfl (Goes.tv c1 (Goes.tv (inc hkl (by omega)) (f21_0_J hy)))))))
   ·have hn:¬ ((blk o k:Nat):Int)=n:=by simpa using h
    refine Goes.tv rfl (Goes.ite rfl (fun h=>?_) fun h=>?_)
    ·have h0:blk o k≠0:=by
      have:((blk o k:Nat):Int) > 0:=by simpa using h
      omega
     obtain ⟨a,ha⟩:=Nx.ex (hI.rc hkl) h0
     obtain ⟨i,hi,rfl⟩:=hI.rank ha.2.1.up
     have hle:=hI.dm_le hi k hkl ha.2.1
     have hik:i < k:=by
      rcases Nat.lt_or_ge i k with h1 | h1
      ·exact h1
      ·exact absurd (by rw [show i=k by omega]) ha.1
     have hilt:=hI.blk_lt hi
     obtain ⟨e3,he3,rfl,_⟩:=k0.pel (overL_get hblt)
     rw [ovN_of ha] at he3
     obtain ⟨e4,he4,hR4⟩:=hw.pel (hm i hik)
     cases hR4
     have hval:tt (DmI f.blocks n (blk o i))=tt (DmI f.blocks n (blk o k)):=tt_congr ⟨fun h1=>⟨h1.1,h1.2.trans ha.2.1⟩,fun h1=>⟨h1.1,ha.2.2 _ (fun e=>hn (by have:=h1.1; omega)) h1.2⟩⟩
     rw [hval] at he4
     refine Goes.nat k0.slLen (Goes.nat anb (Goes.chk ?_ (Goes.tvs he3 (Goes.chk rfl (Goes.nat hw.slLen (Goes.nat (asNat_nat (k:=blk o i) (by omega)) (Goes.chk ?_ (Goes.tvs he4 (Goes.chk rfl ?_)))))))))
     ·rw [k0.slSize,overL_len]; simp; omega
     ·rw [hw.slSize]; simp; omega
     exact Goes.nat hw.slLen (Goes.nat anb (Goes.chk cM (Goes.tvs he2 (Goes.chk rfl (Goes.tv c1 (Goes.tv (inc hkl (by omega)) (f21_0_J hy)))))))
    ·have h0:blk o k=0:=by
      have:¬ ((blk o k:Nat):Int) > 0:=by simpa using h
      omega
     have ht:tt (DmI f.blocks n (blk o k))=false:=tt_false fun h1=>by
      have h2:=h1.2
      rw [h0] at h2
      have:=h2.anti (.zero h2.up)
      have:=h1.1
      omega
     rw [ht] at c1
     exact Goes.nat hw.slLen (Goes.nat anb (Goes.chk cM (Goes.tvs he2 (Goes.chk rfl (Goes.tv c1 (Goes.tv (inc hkl (by omega)) (f21_0_J hy)))))))
 obtain ⟨y,hy,hr⟩:=loop o.length 0 _ _ (by omega) (rep_bools (n:=f.blocks.length) (by omega)) (by simp) (fun i hi=>absurd hi (Nat.not_lt_zero _)) (fun c hc _=>by simp [hc])
 refine ⟨y,?_,hr⟩
 have hnb:asNat (I (f.blocks.length:Nat))=some f.blocks.length:=asNat_nat (by omega)
 refine Runs.of (f21_MR _ _) ?_
 unfold f21_M
 exact Goes.chk rfl (Goes.call hv0 (Goes.chk (fit_slc k0.isSl) (Goes.tv hb.len (Goes.nat hnb (Goes.nat hnb (Goes.chk (by simp; omega) (Goes.call hv4 (Goes.chk (fit_slc k4.isSl) (Goes.tv k4.len (f21_0_J hy))))))))))
theorem rIs8 {q:Option Bool} {e:List TV} {f:DFunc} (he:RFunc q e f) (hs:f.blocks.length≤1000) (a c:Int):Runs prog 11 [.agg e,I a,I c] (B (tt (0≤c∧DmI f.blocks a c.toNat))):=by
 obtain ⟨v,hv,k⟩:=rUnder8 he hs a
 obtain ⟨b,rfl,hb,_⟩:=he
 refine Runs.of (f11_MR _ _ _) ?_
 unfold f11_M
 refine Goes.chk rfl (Goes.call hv (Goes.chk (fit_slc k.isSl) (Goes.tv rfl (Goes.ite rfl (fun h=>?_) fun h=>?_))))
 ·have h0:0≤c:=by simpa using h
  refine Goes.tv k.len (Goes.tv rfl (Goes.ite rfl (fun h=>?_) fun h=>?_))
  ·have hc:c < (f.blocks.length:Int):=by rw [undL_len] at h; simpa using h
   have hcl:c.toNat < f.blocks.length:=by omega
   obtain ⟨e1,he1,hR⟩:=k.pel (undL_get (n:=a) hcl)
   cases hR
   refine Goes.nat k.slLen (Goes.nat (asNat_pos h0 (by constructor <;> omega)) (Goes.chk ?_ (Goes.tvs he1 (Goes.chk rfl (goes_ret.2 ?_)))))
   ·rw [k.slSize,undL_len]; simp; omega
   ·show B (tt (DmI f.blocks a c.toNat))=B (tt (0≤c∧DmI f.blocks a c.toNat))
    exact congrArg (fun b:Bool=>B b) (tt_congr (p:=DmI f.blocks a c.toNat) (p':=0≤c∧DmI f.blocks a c.toNat) ⟨fun h=>⟨h0,h⟩,fun h=>h.2⟩)
  ·have hc:¬ c < (f.blocks.length:Int):=by rw [undL_len] at h; simpa using h
   exact ret_no fun h=>by have:=h.2.lt; omega
 ·have h0:¬ 0≤c:=by simpa using h
  exact ret_no fun h=>h0 h.1
theorem rEdge8 {q : Option Bool} {e : List TV} {f : DFunc} (he : RFunc q e f) (hs : f.blocks.length ≤ 1000) (n : Int) : ∃ y, Runs prog 13 [.agg e, I n] y ∧ RInts (some true) y (edgeL f.blocks n) := by
 obtain ⟨v,hv,kv⟩:=rUnder8 he hs n
 have he0:=he
 obtain ⟨b,rfl,hb,_⟩:=he
 have last:∀ (d k:Nat) (wo w:TV) (M:List Bool),k + d=f.blocks.length→RBools (some true) wo M→M.length=f.blocks.length→(∀ g,g < f.blocks.length→M[g]? = some (tt (EdP f.blocks n f.blocks.length 0 g)))→RInts (some true) w (edgeI f.blocks n k) →
   ∃ y,Goes prog 13 (f13_3 (I f.blocks.length) (I k) wo w) y∧RInts (some true) y (edgeL f.blocks n):=by
  intro d
  induction d with
  | zero =>
   intro k wo w M hk hwo hl hm hw
   have hk:k=f.blocks.length:=by omega
   subst hk
   rw [edgeI_all] at hw
   refine ⟨w,?_,hw⟩
   unfold f13_3
   exact Goes.tv rfl (Goes.ite asB_end (fun h=>nomatch h) fun _=>Goes.chk (hw.own fun _ _ h=>h.own) Goes.ret)
  | succ d ih =>
   intro k wo w M hk hwo hl hm hw
   have hkl:k < f.blocks.length:=by omega
   obtain ⟨e1,he1,hR⟩:=hwo.pel (hm k hkl)
   cases hR
   have hlen:=edgeI_len f.blocks n k
   by_cases hp:EdP f.blocks n f.blocks.length 0 k
   ·obtain ⟨w',h1,h2⟩:=hw.app (e:=[I k]) (a:=(k:Int)) ⟨rfl,by constructor <;> omega⟩ (by omega)
    rw [← edgeI_yes hp] at h2
    obtain ⟨y,hy,hr⟩:=ih (k + 1) wo w' M (by omega) hwo hl hm h2
    refine ⟨y,?_,hr⟩
    unfold f13_3
    refine Goes.tv rfl (Goes.ite (asB_lt hkl) (fun _=>Goes.nat hwo.slLen (Goes.nat (asNat_nat (by omega)) (Goes.chk ?_ (Goes.tvs he1 (Goes.chk rfl (Goes.ite (v:=true) (by rw [tt_true hp]; rfl) (fun _=>?_) fun h=>nomatch h)))))) fun h=>nomatch h)
    ·rw [hwo.slSize]; simp; omega
    ·exact Goes.chk rfl (Goes.rws rfl (Goes.tv h1 (Goes.tv (inc hkl (by omega)) (f13_3_J hy))))
   ·rw [← edgeI_no hp] at hw
    obtain ⟨y,hy,hr⟩:=ih (k + 1) wo w M (by omega) hwo hl hm hw
    refine ⟨y,?_,hr⟩
    unfold f13_3
    refine Goes.tv rfl (Goes.ite (asB_lt hkl) (fun _=>Goes.nat hwo.slLen (Goes.nat (asNat_nat (by omega)) (Goes.chk ?_ (Goes.tvs he1 (Goes.chk rfl (Goes.ite (v:=false) (by rw [tt_false hp]; rfl) (fun h=>nomatch h) fun _=>?_)))))) fun h=>nomatch h)
    ·rw [hwo.slSize]; simp; omega
    ·exact Goes.tv (inc hkl (by omega)) (f13_3_J hy)
 have outer : ∀ (d k : Nat) (wo : TV) (M : List Bool), k + d = f.blocks.length → RBools (some true) wo M → M.length = f.blocks.length → (∀ g, g < f.blocks.length → M[g]? = some (tt (EdP f.blocks n k 0 g))) →
   ∃ y,Goes prog 13 (f13_0 (I n) (I f.blocks.length) (I k) (I f.params) (I f.regs) b v wo) y∧RInts (some true) y (edgeL f.blocks n):=by
  intro d
  induction d with
  | zero =>
   intro k wo M hk hwo hl hm
   have hk:k=f.blocks.length:=by omega
   subst hk
   obtain ⟨y,hy,hr⟩:=last f.blocks.length 0 wo (.lit nilV) M (by omega) hwo hl hm (by
    have:edgeI f.blocks n 0=[]:=by unfold edgeI; split <;> simp [edgeTo]
    rw [this]; exact .nil)
   refine ⟨y,?_,hr⟩
   unfold f13_0
   refine Goes.tv rfl (Goes.ite asB_end (fun h=>nomatch h) fun _=>f13_2_J ?_)
   unfold f13_2
   refine Goes.tv hwo.len (Goes.chk rfl ?_)
   rw [hl]
   exact f13_3_J hy
  | succ d ih =>
   intro k wo M hk hwo hl hm
   have hkl:k < f.blocks.length:=by omega
   obtain ⟨e1,he1,hR⟩:=kv.pel (undL_get (n:=n) hkl)
   cases hR
   have ank:asNat (I (k:Nat))=some k:=asNat_nat (by omega)
   by_cases hd:DmI f.blocks n k
   ·obtain ⟨vn,hvn,kn⟩:=r71 he0 ((k:Nat):Int)
    rw [nextL_nat] at kn
    have hnl:=nextAt_len f.blocks k
    have inner : ∀ (c j : Nat) (wo : TV) (M : List Bool), j + c = (nextAt f.blocks k).length → RBools (some true) wo M → M.length = f.blocks.length → (∀ g, g < f.blocks.length → M[g]? = some (tt (EdP f.blocks n k j g))) →
      ∃ y,Goes prog 13 (f13_1 (I n) (I f.blocks.length) (I k) (I (nextAt f.blocks k).length) (I j) (I f.params) (I f.regs) b v wo vn) y∧RInts (some true) y (edgeL f.blocks n):=by
     intro c
     induction c with
     | zero =>
      intro j wo M hj hwo hl hm
      have hj:j=(nextAt f.blocks k).length:=by omega
      subst hj
      obtain ⟨y,hy,hr⟩:=ih (k + 1) wo M (by omega) hwo hl (fun g hg=>by rw [hm g hg,tt_congr EdP_over])
      refine ⟨y,?_,hr⟩
      unfold f13_1
      exact Goes.tv rfl (Goes.ite asB_end (fun h=>nomatch h) fun _=>Goes.tv (inc hkl (by omega)) (f13_0_J hy))
     | succ c ihc =>
      intro j wo M hj hwo hl hm
      have hjl:j < (nextAt f.blocks k).length:=by omega
      obtain ⟨g0,hgg⟩:∃ g,g=(nextAt f.blocks k)[j]:=⟨_,rfl⟩
      have hg0:(nextAt f.blocks k)[j]? = some g0:=by rw [hgg]; exact List.getElem?_eq_getElem hjl
      have hgt:=nextAt_there (List.mem_of_getElem? hg0)
      obtain ⟨g,rfl⟩:∃ g:Nat,g0=(g:Int):=⟨g0.toNat,by omega⟩
      have hgl:g < f.blocks.length:=by have:=hgt.2; omega
      have hgM:g < M.length:=by omega
      obtain ⟨e2,he2,rfl,_⟩:=kn.pel hg0
      obtain ⟨e3,he3,hR3⟩:=hwo.pel (List.getElem?_eq_getElem hgM)
      cases hR3
      obtain ⟨e4,he4,hR4⟩:=kv.pel (undL_get (n:=n) hgl)
      cases hR4
      obtain ⟨wo',c1,c2⟩:=hwo.setAt he3 (d:=0) (ys:=[B (tt (EdP f.blocks n k (j + 1) g))]) (a:=tt (EdP f.blocks n k (j + 1) g)) rfl
      obtain ⟨y,hy,hr⟩:=ihc (j + 1) wo' _ (by omega) c2 (by rw [List.length_set]; exact hl) (fun g' hg'=>by
       by_cases e:g=g'
       ·subst e; exact List.getElem?_set_self hgM
       ·rw [List.getElem?_set_ne e,hm g' hg',tt_congr (EdP_next hd hg0 (Ne.symm e))])
      refine ⟨y,?_,hr⟩
      have ang:asNat (nth TV.hole [I ((g:Nat):Int)] 0)=some g:=asNat_nat (by omega)
      have cM:(Bool.and (slSize wo 1) (Nat.blt g M.length))=true:=by rw [hwo.slSize]; simp; omega
      unfold f13_1
      refine Goes.tv rfl (Goes.ite (asB_lt hjl) (fun _=>?_) fun h=>nomatch h)
      refine Goes.nat kn.slLen (Goes.nat (asNat_nat (by omega)) (Goes.chk ?_ (Goes.tvs he2 (Goes.chk rfl (Goes.tv rfl (Goes.ite rfl (fun h=>?_) fun h=>?_))))))
      ·rw [kn.slSize]; simp; omega
      ·have hn:((g:Nat):Int)=n:=by simpa using h
       rw [tt_true ((EdP_at hd hg0).2 (.inl hn))] at c1
       exact Goes.nat hwo.slLen (Goes.nat ang (Goes.chk cM (Goes.tvs he3 (Goes.chk rfl (Goes.tv c1 (Goes.tv (inc hjl (by omega)) (f13_1_J hy)))))))
      ·have hn:¬ ((g:Nat):Int)=n:=by simpa using h
       have hval:tt (EdP f.blocks n k (j + 1) g)=!tt (DmI f.blocks n g):=by
        by_cases hdg:DmI f.blocks n g
        ·rw [tt_true hdg,tt_false]
         ·rfl
         ·rw [EdP_at hd hg0]
          rintro (h | h)
          ·exact hn h
          ·exact h hdg
        ·rw [tt_false hdg,tt_true ((EdP_at hd hg0).2 (.inr hdg))]; rfl
       rw [hval] at c1
       refine Goes.nat kv.slLen (Goes.nat ang (Goes.chk ?_ (Goes.tvs he4 (Goes.chk rfl (Goes.tv rfl (Goes.nat hwo.slLen (Goes.nat ang (Goes.chk cM (Goes.tvs he3 (Goes.chk rfl (Goes.tv c1 (Goes.tv (inc hjl (by omega)) (f13_1_J hy)))))))))))))
       rw [kv.slSize,undL_len]; simp; omega
    obtain ⟨y,hy,hr⟩:=inner _ 0 wo M (Nat.zero_add _) hwo hl hm
    refine ⟨y,?_,hr⟩
    unfold f13_0
    refine Goes.tv rfl (Goes.ite (asB_lt hkl) (fun _=>Goes.nat kv.slLen (Goes.nat ank (Goes.chk ?_ (Goes.tvs he1 (Goes.chk rfl (Goes.tv rfl (Goes.ite (v:=false) (by rw [tt_true hd]; rfl) (fun h=>nomatch h) fun _=>?_))))))) fun h=>nomatch h)
    ·rw [kv.slSize,undL_len]; simp; omega
    ·exact Goes.call hvn (Goes.chk (fit_slc kn.isSl) (Goes.tv kn.len (f13_1_J hy)))
   ·obtain ⟨y,hy,hr⟩:=ih (k + 1) wo M (by omega) hwo hl (fun g hg=>by rw [hm g hg,tt_congr (EdP_skip hd)])
    refine ⟨y,?_,hr⟩
    unfold f13_0
    refine Goes.tv rfl (Goes.ite (asB_lt hkl) (fun _=>Goes.nat kv.slLen (Goes.nat ank (Goes.chk ?_ (Goes.tvs he1 (Goes.chk rfl (Goes.tv rfl (Goes.ite (v:=true) (by rw [tt_false hd]; rfl) (fun _=>?_) fun h=>nomatch h))))))) fun h=>nomatch h)
    ·rw [kv.slSize,undL_len]; simp; omega
    ·exact Goes.tv (inc hkl (by omega)) (f13_0_J hy)
 obtain ⟨y,hy,hr⟩:=outer f.blocks.length 0 _ _ (by omega) (rep_bools (n:=f.blocks.length) (by omega)) (by simp) (fun g hg=>by
  rw [tt_false (by rintro ⟨⟨b,h,_⟩ | ⟨_,h⟩,_⟩; exact absurd h (Nat.not_lt_zero _); simp at h)]
  simp [hg])
 refine ⟨y,?_,hr⟩
 have hnb:asNat (I (f.blocks.length:Nat))=some f.blocks.length:=asNat_nat (by omega)
 refine Runs.of (f13_MR _ _) ?_
 unfold f13_M
 exact Goes.chk rfl (Goes.call hv (Goes.chk (fit_slc kv.isSl) (Goes.tv hb.len (Goes.nat hnb (Goes.nat hnb (Goes.chk (by simp; omega) (Goes.tv hb.len (f13_0_J hy))))))))
end Go.Ab.V8
end

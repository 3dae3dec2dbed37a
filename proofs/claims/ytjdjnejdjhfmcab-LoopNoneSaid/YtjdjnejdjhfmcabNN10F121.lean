import Derived.Test.YtjdjnejdjhfmcabNN10F88
import Derived.Test.YtjdjnejdjhfmcabNN10F12
section
set_option linter.unusedVariables false
set_option linter.unusedSectionVars false
set_option maxRecDepth 10000
namespace Go.Ab
theorem RL.sl_of {α:Type} {q:Option Bool} {s:Nat} {R:List TV→α→Prop} {x:TV} {l:List α} (h:RL q s R x l) (hl:l≠[]):∃ o xs,x=.sl o s xs∧F2 R xs l:=by
 rcases h with ⟨_,rfl⟩ | ⟨o,xs,rfl,_,h,_⟩
 ·exact absurd rfl hl
 ·exact ⟨o,xs,rfl,h⟩
def begRow (p:Nat→Nat) (N n:Nat):List Int:=(List.range N).map fun i=>if i≠0∧i < n then ((p i:Nat):Int) else 0
theorem begRow_at {p:Nat→Nat} {N n i:Nat} (h:i < N):(begRow p N n)[i]? = some (if i≠0∧i < n then ((p i:Nat):Int) else 0):=by simp [begRow,h]
theorem begRow_start (p:Nat→Nat) (N:Nat):begRow p N 1=List.replicate N 0:=by
 apply List.ext_getElem?
 intro i
 rw [List.getElem?_replicate]
 by_cases h:i < N
 ·rw [begRow_at h,if_pos h,if_neg (by omega)]
 ·rw [if_neg h,List.getElem?_eq_none (by simp [begRow]; omega)]
theorem begRow_next {p:Nat→Nat} {N n:Nat} (h0:n≠0) (h:n < N):begRow p N (n + 1)=(begRow p N n).set n ((p n:Nat):Int):=by
 apply List.ext_getElem?
 intro i
 by_cases hi:i < N
 ·rw [begRow_at hi]
  by_cases e:n=i
  ·subst e
   rw [List.getElem?_set_self (by simp [begRow]; exact h),if_pos ⟨h0,by omega⟩]
  ·rw [List.getElem?_set_ne e,begRow_at hi]
   by_cases h2:i≠0∧i < n
   ·rw [if_pos h2,if_pos ⟨h2.1,by omega⟩]
   ·rw [if_neg h2,if_neg (by omega)]
 ·rw [List.getElem?_eq_none (by simp [begRow]; omega),List.getElem?_eq_none (by simp [begRow]; omega)]
theorem begRow_end (bs:List DBlock) (o:List Int) {n:Nat} (h:o.length≤n):TreeL o.length (begRow (p0L bs o) o.length n) (p0Z bs o):=by
 refine ⟨by simp [begRow],fun i hi=>?_⟩
 rw [begRow_at hi]
 unfold p0Z
 by_cases h0:i=0
 ·rw [if_pos h0,if_neg (by omega)]; rfl
 ·rw [if_neg h0,if_pos ⟨h0,by omega⟩]
theorem TreeL.upd {N:Nat} {l:List Int} {T:Nat→Nat} (h:TreeL N l T) {m v:Nat} (hm:m < N):TreeL N (l.set m ((v:Nat):Int)) (updT T m v):=by
 refine ⟨by rw [List.length_set]; exact h.1,fun n hn=>?_⟩
 by_cases e:m=n
 ·subst e; rw [updT_at,List.getElem?_set_self (by rw [h.1]; exact hm)]
 ·rw [updT_ne (Ne.symm e),List.getElem?_set_ne e]; exact h.2 n hn
end Go.Ab
namespace Go.Ab.N10
open Go Go.Ab Go.Proofs
theorem both8_goes {y2 y3:TV} {q:Bool} {ov:List (List TV)} {o:List Int} (ho:F2 RI1 ov o) {a b r:Int} (h:Both o a b r):Goes prog 36 (f36_0 (I a) (I b) y2 y3 (.sl q 1 ov)) (I r):=by
 induction h with
 | @done a =>
  unfold f36_0
  exact Goes.tv rfl (Goes.ite (v:=false) (by simp [asBool]) (fun h=>nomatch h) fun _=>Goes.ret)
 | @left a b a' r h1 h2 h3 h4 _ ih =>
  obtain ⟨e,he,rfl,_⟩:=ho.get h4
  unfold f36_0
  refine Goes.tv rfl (Goes.ite (v:=true) (by simp [asBool,h1]) (fun _=>Goes.tv rfl (Goes.ite (v:=true) (by simp [asBool]; omega) (fun _=>?_) fun h=>nomatch h)) fun h=>nomatch h)
  exact Goes.tvs (v:=[I a']) (by simp [pidx,h3,he]) (Goes.chk rfl (f36_0_J ih))
 | @right a b b' r h1 h2 h3 h4 _ ih =>
  obtain ⟨e,he,rfl,_⟩:=ho.get h4
  unfold f36_0
  refine Goes.tv rfl (Goes.ite (v:=true) (by simp [asBool,h1]) (fun _=>Goes.tv rfl (Goes.ite (v:=false) (by simp [asBool]; omega) (fun h=>nomatch h) fun _=>?_)) fun h=>nomatch h)
  exact Goes.tvs (v:=[I b']) (by simp [pidx,h3,he]) (Goes.chk rfl (f36_0_J ih))
theorem rBoth8 {x0 x1:TV} {q:Bool} {ov:List (List TV)} {o:List Int} (ho:F2 RI1 ov o) {a b r:Int} (h:Both o a b r):Runs prog 36 [.agg [x0,x1,.sl q 1 ov],I a,I b] (I r):=by
 refine Runs.of (f36_MR _ _ _) ?_
 unfold f36_M
 exact Goes.chk rfl (f36_0_J (both8_goes ho h))
theorem all8_goes {y2 y3:TV} {q q':Bool} {ov ls:List (List TV)} {o l:List Int} (ho:F2 RI1 ov o) (hl:F2 RI1 ls l) (h1:l.length≤1000000):∀ (k:Nat) (v r:Int),k≤l.length→Bths o v (l.take k).reverse r →
  Goes prog 35 (f35_0 (I ((k:Int) - 1)) (.sl q' 1 ls) y2 y3 (.sl q 1 ov) (I v)) (I r):=by
 intro k
 induction k with
 | zero =>
  intro v r _ h
  cases h
  unfold f35_0
  exact Goes.tv rfl (Goes.ite (v:=false) (by simp [asBool]) (fun h=>nomatch h) fun _=>Goes.ret)
 | succ k ih =>
  intro v r hk h
  have hlt:k < l.length:=by omega
  rw [List.take_succ_eq_append_getElem hlt,List.reverse_append] at h
  simp only [List.reverse_cons,List.reverse_nil,List.nil_append,List.cons_append] at h
  cases h with
  | @cons _ n v' _ _ hb ht =>
   obtain ⟨e,he,rfl,hei⟩:=hl.get (List.getElem?_eq_getElem hlt)
   have e1:(((k + 1:Nat):Int) - 1)=(k:Int):=by omega
   rw [e1]
   have hsub:pbin (Kd.int IntKind.i64) BinOp.sub (I (k:Int)) (I 1)=some (I ((k:Int) - 1)):=by
    show some (I (IntKind.wrap .i64 ((k:Int) - 1)))=_
    rw [show IntKind.wrap .i64 ((k:Int) - 1)=(k:Int) - 1 by rw [IntKind.wrap_i64]; omega]
   unfold f35_0
   refine Goes.tv rfl (Goes.ite (v:=true) (by simp [asBool]) (fun _=>?_) fun h=>nomatch h)
   exact Goes.tvs (v:=[I l[k]]) (by simp [pidx,he]) (Goes.chk rfl (Goes.call (rBoth8 ho hb) (Goes.chk rfl (Goes.tv hsub (f35_0_J (ih v' r (by omega) ht))))))
theorem rAll8 {a b wv v:TV} {qa qb:Option Bool} {l:List Int} {T:Nat→Nat} {N:Nat} {ls:List Nat} (hw:RInts qa wv l) (hv:RInts qb v (castL ls)) (hT:TreeL N l T) (hL:Low N T) (h0:ls≠[]) (hN:∀ p ∈ ls,p < N) (hN1:N≤1000000) (hl1:ls.length≤1000000) {r:Nat} (hr:AllP l (castL ls) r) :
  Runs prog 35 [.agg [a,b,wv],v] (I (r:Int)):=by
 have hpos:0 < N:=by
  cases ls with
  | nil=>exact absurd rfl h0
  | cons p ls=>exact Nat.lt_of_le_of_lt (Nat.zero_le _) (hN p List.mem_cons_self)
 have hlp:0 < ls.length:=List.length_pos_iff.2 h0
 have hcl:(castL ls).length=ls.length:=by simp [castL]
 obtain ⟨o1,xs,rfl,hf⟩:=hw.sl_of (by rintro rfl; have:=hT.1; simp at this; omega)
 obtain ⟨o2,ys,rfl,hg⟩:=hv.sl_of (by intro e; simp [castL] at e; exact h0 e)
 obtain ⟨z,hz,hb⟩:=hr
 have hzl:(castL ls)[ls.length - 1]? = some z:=by rw [List.getLast?_eq_getElem?,hcl] at hz; exact hz
 obtain ⟨e,he,rfl,hei⟩:=hg.get hzl
 have hsub:pbin (Kd.int IntKind.i64) BinOp.sub (I ((castL ls).length:Nat)) (I 1)=some (I ((ls.length:Int) - 1)):=by
  show some (I (IntKind.wrap .i64 (((castL ls).length:Int) - 1)))=_
  rw [hcl,show IntKind.wrap .i64 ((ls.length:Int) - 1)=(ls.length:Int) - 1 by rw [IntKind.wrap_i64]; omega]
 have hpi:pidx 1 (.sl o2 1 ys) (I ((ls.length:Int) - 1))=some [I z]:=by
  have e1:(((ls.length:Int) - 1)).toNat=ls.length - 1:=by omega
  simp [pidx,e1,he]
  omega
 refine Runs.of (f35_MR _ _) ?_
 unfold f35_M
 refine Goes.chk rfl (Goes.tv hv.len (Goes.tv hsub (Goes.tvs hpi (Goes.chk rfl (Goes.chk rfl (Goes.tv hv.len (Goes.tv hsub (f35_0_J ?_))))))))
 have:=all8_goes (y2:=a) (y3:=b) (q:=o1) (q':=o2) hf hg (by rw [hcl]; exact hl1) (castL ls).length z r (Nat.le_refl _) (by rw [List.take_length]; exact hb)
 rw [hcl] at this
 exact this
theorem rRank8 {q:Option Bool} {e:List TV} {f:DFunc} (he:RFunc q e f) (hs:f.blocks.length≤1000):∃ v0 v1 v2 o l,Runs prog 28 [.agg e] (.agg [v0,v1,v2])∧OrderP f.blocks o∧RInts (some true) v0 o ∧
  RL (some true) 1 (RIL (some true)) v1 ((List.range o.length).map (prL f.blocks o))∧RInts (some true) v2 l∧TreeL o.length l (p0Z f.blocks o):=by
 have he0:=he
 obtain ⟨b,rfl,hb,_⟩:=he
 obtain ⟨v0,o,hv0,k0,hO⟩:=r80 he0 hs
 have hI:=hO.keeps
 have hol:o.length≤1000:=Nat.le_trans hI.len hs
 obtain ⟨v1,hv1,k1⟩:=rBefore8 he0 hs (k0.frz fun _ _ h=>h.frz) hI hol
 have loop:∀ (d n:Nat) (w:TV),o.length - n≤d→n≠0→RInts (some true) w (begRow (p0L f.blocks o) o.length n)→∃ v2 l,Goes prog 28 (f28_0 (I n) v0 v1 w) (.agg [v0,v1,v2])∧RInts (some true) v2 l∧TreeL o.length l (p0Z f.blocks o):=by
  intro d
  have fin:∀ (n:Nat) (w:TV),o.length≤n→n≠0→RInts (some true) w (begRow (p0L f.blocks o) o.length n)→∃ v2 l,Goes prog 28 (f28_0 (I n) v0 v1 w) (.agg [v0,v1,v2])∧RInts (some true) v2 l∧TreeL o.length l (p0Z f.blocks o):=by
   intro n w hn h0 hw
   refine ⟨w,_,?_,hw,begRow_end f.blocks o hn⟩
   unfold f28_0
   refine Goes.tv k0.len (Goes.tv rfl (Goes.ite (v:=false) (by simp [asBool]; omega) (fun h=>nomatch h) fun _=>Goes.chk ?_ Goes.ret))
   have o0:=k0.own fun _ _ h=>h.own
   have o1:=k1.own fun _ _ h=>h.own
   have o2:=hw.own fun _ _ h=>h.own
   simp [isOwn,isOwnL,o0,o1,o2]
  induction d with
  | zero=>intro n w hd h0 hw; exact fin n w (by omega) h0 hw
  | succ d ih =>
   intro n w hd h0 hw
   by_cases hn:n < o.length
   ·obtain ⟨p,hp,_⟩:=hI.low h0 hn
    have hne:prL f.blocks o n≠[]:=fun e=>by rw [e] at hp; cases hp
    have hlen:0 < (prL f.blocks o n).length:=List.length_pos_iff.2 hne
    obtain ⟨e1,he1,u,rfl,hu⟩:=k1.pel (i:=n) (a:=prL f.blocks o n) (by simp [hn])
    obtain ⟨e2,he2,rfl,hei⟩:=hu.pel (i:=0) (a:=((p0L f.blocks o n:Nat):Int)) (by simp only [castL,List.getElem?_map,p0_at hne,Option.map_some])
    obtain ⟨e3,he3,rfl,_⟩:=hw.pel (begRow_at hn)
    obtain ⟨w',c1,c2⟩:=hw.setAt he3 (d:=0) (ys:=[I (p0L f.blocks o n:Nat)]) (a:=((p0L f.blocks o n:Nat):Int)) ⟨rfl,hei⟩
    rw [← begRow_next h0 hn] at c2
    obtain ⟨v2,l,hy,r1,r2⟩:=ih (n + 1) w' (by omega) (by omega) c2
    refine ⟨v2,l,?_,r1,r2⟩
    have ann:asNat (I (n:Nat))=some n:=asNat_nat (by omega)
    have hgp:=k1.deep he1 (j:=0) (z:=u) rfl
    unfold f28_0
    refine Goes.tv k0.len (Goes.tv rfl (Goes.ite (v:=true) (by simp [asBool]; omega) (fun _=>?_) fun h=>nomatch h))
    refine Goes.nat k1.slLen (Goes.nat ann (Goes.chk ?_ (Goes.tvs he1 (Goes.chk (fit_slc hu.isSl) (Goes.tv hgp (Goes.nat hu.slLen (Goes.nat (v:=0) rfl (Goes.chk ?_ (Goes.tv hgp (Goes.tvs he2 (Goes.chk rfl ?_)))))))))))
    ·rw [k1.slSize]; simp; omega
    ·rw [hu.slSize]; simp [castL]; omega
    refine Goes.nat hw.slLen (Goes.nat ann (Goes.chk ?_ (Goes.tvs he3 (Goes.chk rfl (Goes.tv c1 (Goes.tv (inc hn (by omega)) (f28_0_J hy)))))))
    rw [hw.slSize]; simp [begRow]; omega
   ·exact fin n w (by omega) h0 hw
 obtain ⟨v2,l,hy,r1,r2⟩:=loop o.length 1 _ (by omega) (by omega) (by rw [begRow_start]; exact rep_ints (n:=o.length) (a:=0) ⟨by decide,by decide⟩ (by omega))
 refine ⟨v0,v1,v2,o,l,?_,hO,k0,k1,r1,r2⟩
 have hn:asNat (I (o.length:Nat))=some o.length:=asNat_nat (by omega)
 refine Runs.of (f28_MR _) ?_
 unfold f28_M
 exact Goes.chk rfl (Goes.call hv0 (Goes.chk (fit_slc k0.isSl) (Goes.call hv1 (Goes.chk (fit_slc k1.isSl) (Goes.tv k0.len (Goes.nat hn (Goes.nat hn (Goes.chk (by simp; omega) (f28_0_J hy)))))))))
section
variable {q:Option Bool} {b:TV} {f:DFunc} (hb:RL q 14 (RBlock q) b f.blocks) (hs:f.blocks.length≤1000) {v0 v1:TV} {o:List Int} (hI:OI f.blocks o) (hol:o.length≤1000) (k0:RInts (some true) v0 o) (k1:RL (some true) 1 (RIL (some true)) v1 ((List.range o.length).map (prL f.blocks o)))
include hb hs hI hol k0
theorem ovrLast {w4:TV} {l:List Int} {T:Nat→Nat} (k4:RInts (some true) w4 l) (hT:TreeL o.length l T) (hL:Low o.length T) (hov:∀ n,n≠0→n < o.length→ovN f.blocks (blk o n)=((blk o (T n):Nat):Int)):∀ (d n:Nat) (w:TV) (M:List Int),o.length - n≤d→n≠0→RInts (some true) w M→M.length=f.blocks.length →
  (∀ i,i≠0→i < n→i < o.length→M[blk o i]? = some ((blk o (T i):Nat):Int))→(∀ b,b < f.blocks.length→(∀ i,i≠0→i < n→i < o.length→blk o i≠b)→M[b]? = some (-1)) →
  ∃ y,Goes prog 19 (f19_5 (I n) w v0 v1 w4) y∧RInts (some true) y (overL f.blocks):=by
 have fin : ∀ (n : Nat) (w : TV) (M : List Int), o.length ≤ n → n ≠ 0 → RInts (some true) w M → M.length = f.blocks.length →
   (∀ i,i≠0→i < n→i < o.length→M[blk o i]? = some ((blk o (T i):Nat):Int))→(∀ b,b < f.blocks.length→(∀ i,i≠0→i < n→i < o.length→blk o i≠b)→M[b]? = some (-1)) →
   ∃ y,Goes prog 19 (f19_5 (I n) w v0 v1 w4) y∧RInts (some true) y (overL f.blocks):=by
  intro n w M hn h0 hw hl hm hm2
  have e:M=overL f.blocks:=by
   apply List.ext_getElem?
   intro c
   by_cases hc:c < f.blocks.length
   ·rw [overL_get hc]
    by_cases hr:Rc f.blocks (-1) c∧c≠0
    ·obtain ⟨i,hi,rfl⟩:=hI.rank hr.1
     have hi0:i≠0:=fun e=>by
      subst e
      exact hr.2 (hI.zero (by rintro e; rw [e] at hc; cases hc)).2
     rw [hm i hi0 (by omega) hi,hov i hi0 hi]
    ·rw [ovN_none hr]
     refine hm2 c hc fun i hi0 _ hi e=>hr ?_
     subst e
     refine ⟨hI.rc hi,fun e=>hi0 ?_⟩
     have hz:=hI.zero (by rintro e; rw [e] at hc; cases hc)
     exact hI.inj hi hz.1 (by rw [e,hz.2])
   ·rw [List.getElem?_eq_none (by omega),List.getElem?_eq_none (by rw [overL_len]; omega)]
  subst e
  refine ⟨w,?_,hw⟩
  unfold f19_5
  exact Goes.tv k0.len (Goes.tv rfl (Goes.ite (v:=false) (by simp [asBool]; omega) (fun h=>nomatch h) fun _=>Goes.chk (hw.own fun _ _ h=>h.own) Goes.ret))
 intro d
 induction d with
 | zero=>intro n w M hd h0 hw hl hm hm2; exact fin n w M (by omega) h0 hw hl hm hm2
 | succ d ih =>
  intro n w M hd h0 hw hl hm hm2
  by_cases hn:n < o.length
  ·have hlow:=hL n h0 hn
   have htn:T n < o.length:=by omega
   have hblt:=hI.blk_lt hn
   have hbt:=hI.blk_lt htn
   obtain ⟨e1,he1,rfl,_⟩:=k0.pel (hI.at_ hn)
   obtain ⟨e2,he2,rfl,_⟩:=k4.pel (hT.2 n hn)
   obtain ⟨e3,he3,rfl,hei⟩:=k0.pel (hI.at_ htn)
   have hbM:blk o n < M.length:=by omega
   obtain ⟨e4,he4,rfl,_⟩:=hw.pel (List.getElem?_eq_getElem hbM)
   obtain ⟨w',c1,c2⟩:=hw.setAt he4 (d:=0) (ys:=[I (blk o (T n):Nat)]) (a:=((blk o (T n):Nat):Int)) ⟨rfl,hei⟩
   obtain ⟨y,hy,hr⟩:=ih (n + 1) w' _ (by omega) (by omega) c2 (by rw [List.length_set]; exact hl) (fun i hi0 hin hil=>by
    by_cases e:i=n
    ·subst e; exact List.getElem?_set_self hbM
    ·rw [List.getElem?_set_ne (fun h=>e (hI.inj hil hn h.symm))]
     exact hm i hi0 (by omega) hil) (fun c hc hno=>by
    rw [List.getElem?_set_ne (hno n h0 (by omega) hn)]
    exact hm2 c hc fun i hi0 hin hil=>hno i hi0 (by omega) hil)
   refine ⟨y,?_,hr⟩
   have ann:asNat (I (n:Nat))=some n:=asNat_nat (by omega)
   have hl4:l.length=o.length:=hT.1
   unfold f19_5
   refine Goes.tv k0.len (Goes.tv rfl (Goes.ite (v:=true) (by simp [asBool]; omega) (fun _=>?_) fun h=>nomatch h))
   refine Goes.nat k0.slLen (Goes.nat ann (Goes.chk ?_ (Goes.tvs he1 (Goes.chk rfl (Goes.nat k4.slLen (Goes.nat ann (Goes.chk ?_ (Goes.tvs he2 (Goes.chk rfl ?_)))))))))
   ·rw [k0.slSize]; simp; omega
   ·rw [k4.slSize]; simp; omega
   refine Goes.nat k0.slLen (Goes.nat (asNat_nat (k:=T n) (by omega)) (Goes.chk ?_ (Goes.tvs he3 (Goes.chk rfl (Goes.nat hw.slLen (Goes.nat (asNat_nat (k:=blk o n) (by omega)) (Goes.chk ?_ (Goes.tvs he4 (Goes.chk rfl (Goes.tv c1 (Goes.tv (inc hn (by omega)) (f19_5_J hy))))))))))))
   ·rw [k0.slSize]; simp; omega
   ·rw [hw.slSize]; simp; omega
  ·exact fin n w M (by omega) h0 hw hl hm hm2
theorem ovrNone {w4:TV} {l:List Int} {T:Nat→Nat} (k4:RInts (some true) w4 l) (hT:TreeL o.length l T) (hL:Low o.length T) (hov:∀ n,n≠0→n < o.length→ovN f.blocks (blk o n)=((blk o (T n):Nat):Int)):∀ (d k:Nat) (w:TV) (M:List Int),k + d=f.blocks.length→RInts (some true) w M→M.length=f.blocks.length→(∀ i,i < k→M[i]? = some (-1)) →
  ∃ y,Goes prog 19 (f19_3 (I f.blocks.length) (I k) w v0 v1 w4) y∧RInts (some true) y (overL f.blocks):=by
 intro d
 induction d with
 | zero =>
  intro k w M hk hw hl hm
  have hk:k=f.blocks.length:=by omega
  subst hk
  obtain ⟨y,hy,hr⟩:=ovrLast hb hs hI hol k0 (v1:=v1) k4 hT hL hov o.length 1 w M (by omega) (by omega) hw hl (fun i h0 h1=>by omega) (fun c hc _=>hm c hc)
  refine ⟨y,?_,hr⟩
  unfold f19_3
  refine Goes.tv rfl (Goes.ite asB_end (fun h=>nomatch h) fun _=>f19_4_J ?_)
  unfold f19_4
  exact f19_5_J hy
 | succ d ih =>
  intro k w M hk hw hl hm
  have hkl:k < f.blocks.length:=by omega
  have hkM:k < M.length:=by omega
  obtain ⟨e4,he4,rfl,_⟩:=hw.pel (List.getElem?_eq_getElem hkM)
  obtain ⟨w',c1,c2⟩:=hw.setAt he4 (d:=0) (ys:=[I (-1)]) (a:=-1) ⟨rfl,⟨by decide,by decide⟩⟩
  obtain ⟨y,hy,hr⟩:=ih (k + 1) w' _ (by omega) c2 (by rw [List.length_set]; exact hl) (fun i hi=>by
   by_cases e:k=i
   ·subst e; exact List.getElem?_set_self hkM
   ·rw [List.getElem?_set_ne e]; exact hm i (by omega))
  refine ⟨y,?_,hr⟩
  unfold f19_3
  refine Goes.tv rfl (Goes.ite (asB_lt hkl) (fun _=>?_) fun h=>nomatch h)
  refine Goes.nat hw.slLen (Goes.nat (asNat_nat (by omega)) (Goes.chk ?_ (Goes.tvs he4 (Goes.chk rfl (Goes.tv c1 (Goes.tv (inc hkl (by omega)) (f19_3_J hy)))))))
  rw [hw.slSize]; simp; omega
include k1
theorem ovrTree {p0 : Nat → Nat} (hG : Grf o.length (prL f.blocks o) p0) : ∀ (z : Nat) (w : TV) (l : List Int) (T : Nat → Nat), high T o.length < z → RInts (some true) w l → TreeL o.length l T → TI o.length (prL f.blocks o) p0 1 T →
  ∃ y,Goes prog 19 (f19_0 (I f.params) (I f.regs) b v0 v1 w) y∧RInts (some true) y (overL f.blocks):=by
 intro z
 induction z with
 | zero=>intro w l T hz; omega
 | succ z ihz =>
  intro w0 l0 T0 hz0 hw0 hT0 hTI0
  have sweep : ∀ (d n : Nat) (c : Bool) (w : TV) (l : List Int) (T : Nat → Nat), o.length - n ≤ d → n ≠ 0 → RInts (some true) w l → TreeL o.length l T → TI o.length (prL f.blocks o) p0 n T → high T o.length ≤ high T0 o.length → (c = true → high T o.length < high T0 o.length) →
    (c=false→∀ i,i≠0→i < n→i < o.length→∀ x,Up T (T i) x ↔ ∀ p ∈ prL f.blocks o i,Up T p x) →
    ∃ y,Goes prog 19 (f19_1 (B c) (I n) (I f.params) (I f.regs) b v0 v1 w) y∧RInts (some true) y (overL f.blocks):=by
   have fin:∀ (n:Nat) (c:Bool) (w:TV) (l:List Int) (T:Nat→Nat),o.length≤n→n≠0→RInts (some true) w l→TreeL o.length l T→TI o.length (prL f.blocks o) p0 n T→(c=true→high T o.length < high T0 o.length) →
     (c=false→∀ i,i≠0→i < n→i < o.length→∀ x,Up T (T i) x ↔ ∀ p ∈ prL f.blocks o i,Up T p x) →
     ∃ y,Goes prog 19 (f19_1 (B c) (I n) (I f.params) (I f.regs) b v0 v1 w) y∧RInts (some true) y (overL f.blocks):=by
    intro n c w l T hn h0 hw hT hTI hc1 hc0
    have hl:l.length=o.length:=hT.1
    cases c with
    | true =>
     obtain ⟨y,hy,hr⟩:=ihz w l T (by have:=hc1 rfl; omega) hw hT (hTI.again hn)
     refine ⟨y,?_,hr⟩
     unfold f19_1
     exact Goes.tv hw.len (Goes.tv rfl (Goes.ite (v:=false) (by simp [asBool]; omega) (fun h=>nomatch h) fun _=>Goes.ite (v:=true) rfl (fun _=>f19_0_J hy) fun h=>nomatch h))
    | false =>
     obtain ⟨y,hy,hr⟩:=ovrNone hb hs hI hol k0 (v1:=v1) hw hT hTI.low (fun i h0 hi=>hI.ov hG hTI (fun n h0 hn=>hc0 rfl n h0 (by omega) hn) h0 hi) f.blocks.length 0 _ _ (by omega) (rep_ints (n:=f.blocks.length) (a:=0) ⟨by decide,by decide⟩ (by omega)) (by simp) (fun i hi=>absurd hi (Nat.not_lt_zero _))
     refine ⟨y,?_,hr⟩
     have hnb:asNat (I (f.blocks.length:Nat))=some f.blocks.length:=asNat_nat (by omega)
     unfold f19_1
     refine Goes.tv hw.len (Goes.tv rfl (Goes.ite (v:=false) (by simp [asBool]; omega) (fun h=>nomatch h) fun _=>Goes.ite (v:=false) rfl (fun h=>nomatch h) fun _=>f19_2_J ?_))
     unfold f19_2
     exact Goes.tv hb.len (Goes.nat hnb (Goes.nat hnb (Goes.chk (by simp; omega) (Goes.tv (rep_ints (n:=f.blocks.length) (a:=0) ⟨by decide,by decide⟩ (by omega)).len (by
      rw [List.length_replicate]
      exact f19_3_J hy)))))
   intro d
   induction d with
   | zero=>intro n c w l T hd h0 hw hT hTI _ hc1 hc0; exact fin n c w l T (by omega) h0 hw hT hTI hc1 hc0
   | succ d ih =>
    intro n c w l T hd h0 hw hT hTI hhi hc1 hc0
    by_cases hn:n < o.length
    ·have hl:l.length=o.length:=hT.1
     obtain ⟨p,hp,_⟩:=hI.low h0 hn
     have hne:prL f.blocks o n≠[]:=fun e=>by rw [e] at hp; cases hp
     obtain ⟨r,a1,a2,a3⟩:=all_ex hT hTI.low hne (hG.in_ n hn)
     obtain ⟨e1,he1,u,rfl,hu⟩:=k1.pel (i:=n) (a:=prL f.blocks o n) (by simp [hn])
     obtain ⟨e2,he2,rfl,_⟩:=hw.pel (hT.2 n hn)
     have hgp:=k1.deep he1 (j:=0) (z:=u) rfl
     have hplen:(prL f.blocks o n).length≤1000000:=by
      have:=prTo_len f.blocks o n o.length
      unfold prL
      omega
     have hcall:=rAll8 (a:=frz v0) (b:=frz v1) (hw.frz fun _ _ h=>h.frz) (hu.frz fun _ _ h=>h.frz) hT hTI.low hne (hG.in_ n hn) (by omega) hplen a1
     have ann:asNat (I (n:Nat))=some n:=asNat_nat (by omega)
     have hle:=TI.lower_le hG hTI h0 hn a3
     have hnx:=TI.next hG hTI h0 hn a3
     have hup:=high_upd (T:=T) (m:=n) (v:=r) o.length hn
     have front:∀ {y:TV},(r=T n→Goes prog 19 (f19_1 (B c) (I ((n + 1:Nat):Int)) (I f.params) (I f.regs) b v0 v1 w) y)→(∀ w',setC [] w n 0 [I (r:Int)]=some w'→r≠T n→Goes prog 19 (f19_1 (B true) (I ((n + 1:Nat):Int)) (I f.params) (I f.regs) b v0 v1 w') y)→(∃ w',setC [] w n 0 [I (r:Int)]=some w') →
       Goes prog 19 (f19_1 (B c) (I n) (I f.params) (I f.regs) b v0 v1 w) y:=by
      rintro y g1 g2 ⟨w',hw'⟩
      unfold f19_1
      refine Goes.tv hw.len (Goes.tv rfl (Goes.ite (v:=true) (by simp [asBool]; omega) (fun _=>?_) fun h=>nomatch h))
      refine Goes.nat k1.slLen (Goes.nat ann (Goes.chk ?_ (Goes.tvs he1 (Goes.chk (fit_slc hu.isSl) (Goes.tv hgp (Goes.call hcall (Goes.chk rfl ?_)))))))
      ·rw [k1.slSize]; simp; omega
      refine Goes.nat hw.slLen (Goes.nat ann (Goes.chk ?_ (Goes.tvs he2 (Goes.chk rfl (Goes.tv rfl (Goes.ite rfl (fun h=>?_) fun h=>?_))))))
      ·rw [hw.slSize]; simp; omega
      ·have hne:r≠T n:=by
        have h1:((r:Int) != (T n:Int))=true:=h
        have h2:¬ (r:Int)=(T n:Int):=by simpa using h1
        omega
       refine Goes.nat hw.slLen (Goes.nat ann (Goes.chk ?_ (Goes.tvs he2 (Goes.chk rfl (Goes.tv hw' (Goes.tv (inc hn (by omega)) (f19_1_J (g2 w' hw' hne))))))))
       rw [hw.slSize]; simp; omega
      ·have hre:r=T n:=by
        have h1:((r:Int) != (T n:Int))=false:=h
        have h2:(r:Int)=(T n:Int):=by simpa using h1
        omega
       exact Goes.tv (inc hn (by omega)) (f19_1_J (g1 hre))
     have hrI:inI (r:Int):=by constructor <;> omega
     obtain ⟨w',c1,c2⟩:=hw.setAt he2 (d:=0) (ys:=[I (r:Int)]) (a:=(r:Int)) ⟨rfl,hrI⟩
     by_cases e:r=T n
     ·have hsame:updT T n r=T:=by
       funext i
       by_cases hi:i=n
       ·subst hi; rw [updT_at,e]
       ·rw [updT_ne hi]
      rw [hsame] at hnx
      obtain ⟨y,hy,hr⟩:=ih (n + 1) c w l T (by omega) (by omega) hw hT hnx hhi hc1 (fun hc i hi0 hin hil=>by
       by_cases hi:i=n
       ·subst hi; rw [← e]; exact a3
       ·exact hc0 hc i hi0 (by omega) hil)
      exact ⟨y,front (fun _=>hy) (fun _ _ h=>absurd e h) ⟨w',c1⟩,hr⟩
     ·obtain ⟨y,hy,hr⟩:=ih (n + 1) true w' _ (updT T n r) (by omega) (by omega) c2 (hT.upd hn) hnx (by omega) (fun _=>by omega) (fun h=>nomatch h)
      refine ⟨y,front (fun h=>absurd h e) (fun w'' h _=>?_) ⟨w',c1⟩,hr⟩
      rw [c1] at h
      cases h
      exact hy
    ·exact fin n c w l T (by omega) h0 hw hT hTI hc1 hc0
  obtain ⟨y,hy,hr⟩:=sweep o.length 1 false w0 l0 T0 (by omega) (by omega) hw0 hT0 hTI0 (Nat.le_refl _) (fun h=>nomatch h) (fun _ i h0 h1=>by omega)
  refine ⟨y,?_,hr⟩
  unfold f19_0
  exact f19_1_J hy
end
theorem rOver8 {q:Option Bool} {e:List TV} {f:DFunc} (he:RFunc q e f) (hs:f.blocks.length≤1000):∃ y,Runs prog 19 [.agg e] y∧RInts (some true) y (overL f.blocks):=by
 obtain ⟨v0,v1,v2,o,l,hv,hO,k0,k1,k2,hT⟩:=rRank8 he hs
 have he0:=he
 obtain ⟨b,rfl,hb,_⟩:=he
 have hI:=hO.keeps
 have hol:o.length≤1000:=Nat.le_trans hI.len hs
 obtain ⟨y,hy,hr⟩:=ovrTree hb hs hI hol k0 k1 hI.grfZ (high (p0Z f.blocks o) o.length + 1) v2 l _ (by omega) k2 hT (TI.start hI.grfZ 1)
 refine ⟨y,?_,hr⟩
 refine Runs.of (f19_MR _) ?_
 unfold f19_M
 refine Goes.chk rfl (Goes.call hv (Goes.chk ?_ (f19_0_J hy)))
 show (true && (v0.isSl && (v1.isSl && (v2.isSl && true))))=true
 rw [k0.isSl,k1.isSl,k2.isSl]; rfl
end Go.Ab.N10
end
section
set_option linter.unusedVariables false
set_option linter.unusedSectionVars false
set_option maxRecDepth 10000
namespace Go.Ab
theorem OI.dm_le {bs:List DBlock} {o:List Int} (hI:OI bs o) {x:Nat} (hx:x < o.length):∀ (n:Nat),n < o.length→Dm bs (blk o x) (blk o n)→x≤n:=by
 intro n
 induction n using Nat.strongRecOn with
 | _ n ih =>
  intro hn h
  by_cases e:x=n
  ·omega
  ·by_cases h0:n=0
   ·subst h0
    have hb:bs≠[]:=fun e=>by have:=hI.blk_lt hn; rw [e] at this; cases this
    have hz:=(hI.zero hb).2
    rw [hz] at h
    have:=h.anti (.zero h.up)
    have:=hI.inj hx hn (by rw [this,hz])
    omega
   ·obtain ⟨p,hp,hpn⟩:=hI.low h0 hn
    obtain ⟨q1,q2⟩:=prL_mem.1 hp
    have:=Dm.step (a:=blk o x) (hI.rc q1) q2 (by simpa using h) (fun e2=>e (hI.inj hx hn (by omega)))
    have:=ih p hpn q1 this
    omega
end Go.Ab
namespace Go.Ab.N10
open Go Go.Ab Go.Proofs
end Go.Ab.N10
end
section
set_option linter.unusedVariables false
set_option linter.unusedSectionVars false
set_option maxRecDepth 10000
namespace Go.Ab
def updF {α:Type} (g:Nat→α) (k:Nat) (v:α):Nat→α:=fun i=>if i=k then v else g i
theorem updF_at {α:Type} {g:Nat→α} {k:Nat} {v:α}:updF g k v k=v:=if_pos rfl
theorem updF_ne {α:Type} {g:Nat→α} {k i:Nat} {v:α} (h:i≠k):updF g k v i=g i:=if_neg h
def tabL {α:Type} (n:Nat) (g:Nat→α):List α:=(List.range n).map g
theorem tabL_len {α:Type} (n:Nat) (g:Nat→α):(tabL n g).length=n:=by simp [tabL]
theorem tabL_get {α:Type} {n:Nat} {g:Nat→α} {k:Nat} (h:k < n):(tabL n g)[k]? = some (g k):=by simp [tabL,h]
theorem tabL_set {α:Type} {n:Nat} {g:Nat→α} {k:Nat} {v:α}:(tabL n g).set k v=tabL n (updF g k v):=by
 apply List.ext_getElem?
 intro i
 by_cases hi:i < n
 ·by_cases e:k=i
  ·subst e
   rw [List.getElem?_set_self (by rw [tabL_len]; exact hi),tabL_get hi,updF_at]
  ·rw [List.getElem?_set_ne e,tabL_get hi,tabL_get hi,updF_ne (Ne.symm e)]
 ·rw [List.getElem?_eq_none (by simp [tabL]; omega),List.getElem?_eq_none (by simp [tabL]; omega)]
theorem tabL_rep {α:Type} (n:Nat) (a:α):List.replicate n a=tabL n fun _=>a:=by
 apply List.ext_getElem?
 intro i
 by_cases hi:i < n
 ·rw [tabL_get hi,List.getElem?_replicate,if_pos hi]
 ·rw [List.getElem?_eq_none (by simp; omega),List.getElem?_eq_none (by simp [tabL]; omega)]
abbrev RArr (w:TV) (n:Nat) (g:Nat→Int):Prop:=RInts (some true) w (tabL n g)
abbrev RBArr (w:TV) (n:Nat) (g:Nat→Bool):Prop:=RBools (some true) w (tabL n g)
theorem RArr.get {w:TV} {n:Nat} {g:Nat→Int} (h:RArr w n g) {k:Nat} (hk:k < n):Go.Ab.pel w k=some [I (g k)]∧inI (g k):=by
 obtain ⟨e,he,rfl,hi⟩:=RL.pel h (tabL_get hk)
 exact ⟨he,hi⟩
theorem RArr.set {w:TV} {n:Nat} {g:Nat→Int} (h:RArr w n g) {k:Nat} (hk:k < n) {v:Int} (hv:inI v):∃ w',setC [] w k 0 [I v]=some w'∧RArr w' n (updF g k v):=by
 obtain ⟨w',h1,h2⟩:=RL.setAt h (h.get hk).1 (d:=0) (ys:=[I v]) (a:=v) ⟨rfl,hv⟩
 rw [tabL_set] at h2
 exact ⟨w',h1,h2⟩
theorem RBArr.get {w:TV} {n:Nat} {g:Nat→Bool} (h:RBArr w n g) {k:Nat} (hk:k < n):Go.Ab.pel w k=some [B (g k)]:=by
 obtain ⟨e,he,rfl⟩:=RL.pel h (tabL_get hk)
 exact he
theorem RBArr.set {w:TV} {n:Nat} {g:Nat→Bool} (h:RBArr w n g) {k:Nat} (hk:k < n) (v:Bool):∃ w',setC [] w k 0 [B v]=some w'∧RBArr w' n (updF g k v):=by
 obtain ⟨w',h1,h2⟩:=RL.setAt h (h.get hk) (d:=0) (ys:=[B v]) (a:=v) rfl
 rw [tabL_set] at h2
 exact ⟨w',h1,h2⟩
theorem tabL_congr {α:Type} {n:Nat} {g h:Nat→α} (e:∀ i,i < n→g i=h i):tabL n g=tabL n h:=by
 apply List.ext_getElem?
 intro i
 by_cases hi:i < n
 ·rw [tabL_get hi,tabL_get hi,e i hi]
 ·rw [List.getElem?_eq_none (by rw [tabL_len]; omega),List.getElem?_eq_none (by rw [tabL_len]; omega)]
end Go.Ab
end
section
set_option linter.unusedVariables false
set_option linter.unusedSectionVars false
set_option maxRecDepth 10000
namespace Go.Ab
def chT (T:Nat→Nat) (S:Nat→Nat) (p:Nat):Nat→Nat
 | 0=>0
 | j + 1=>chT T S p j + (if j≠0∧T j=p then S j else 0)
def chU (T:Nat→Nat) (S:Nat→Nat) (N p:Nat):Nat→Nat
 | 0=>0
 | k + 1=>chU T S N p k + (if N - 1 - k≠0∧T (N - 1 - k)=p then S (N - 1 - k) else 0)
theorem chU_congr {T S S':Nat→Nat} {N p:Nat}:∀ {k:Nat},k≤N→(∀ m,N - k≤m→m < N→S m=S' m)→chU T S N p k=chU T S' N p k
 | 0,_,_=>rfl
 | k + 1,hk,h=>by
  simp only [chU]
  rw [chU_congr (k:=k) (by omega) (fun m h1 h2=>h m (by omega) h2),h (N - 1 - k) (by omega) (by omega)]
theorem ch_split {T S:Nat→Nat} {N p:Nat}:∀ {k:Nat},k≤N→chT T S p N=chT T S p (N - k) + chU T S N p k
 | 0,_=>by simp [chU]
 | k + 1,hk=>by
  rw [ch_split (k:=k) (by omega),show N - k=(N - 1 - k) + 1 by omega]
  simp only [chT,chU]
  rw [show N - (k + 1)=N - 1 - k by omega]
  omega
theorem chT_mono {T S:Nat→Nat} {p:Nat}:∀ {i j:Nat},i≤j→chT T S p i≤chT T S p j:=by
 intro i j h
 induction j with
 | zero=>rw [show i=0 by omega]; exact Nat.le_refl _
 | succ j ih =>
  by_cases e:i=j + 1
  ·rw [e]; exact Nat.le_refl _
  ·simp only [chT]; have:=ih (by omega); omega
structure CntI (T:Nat→Nat) (N k:Nat) (c:Nat→Nat):Prop where
 at_:∀ p,p < N→c p=(if N - k≤p then 1 else 0) + chU T c N p k
 bnd:∀ p,p < N→c p < 2 ^ k
theorem CntI.start (T:Nat→Nat) (N:Nat):CntI T N 0 fun _=>0:=⟨fun p hp=>by rw [if_neg (by omega)]; rfl,fun p _=>by simp⟩
def cntS (T:Nat→Nat) (i:Nat) (c:Nat→Nat):Nat→Nat :=
 if i≠0 then updF (updF c i (c i + 1)) (T i) (c (T i) + (c i + 1)) else updF c i (c i + 1)
theorem CntI.next {T:Nat→Nat} {N k:Nat} {c:Nat→Nat} (hT:Low N T) (h:CntI T N k c) (hk:k < N):CntI T N (k + 1) (cntS T (N - 1 - k) c):=by
 obtain ⟨i,hi⟩:∃ i,i=N - 1 - k:=⟨_,rfl⟩
 rw [← hi]
 have hiN:i < N:=by omega
 have hlow:i≠0→T i < i:=fun h0=>hT i h0 hiN
 have heq:∀ m,i < m→cntS T i c m=c m:=fun m hm=>by
  unfold cntS
  split
  ·rename_i h0
   rw [updF_ne (by have:=hlow h0; omega),updF_ne (by omega)]
  ·rw [updF_ne (by omega)]
 have hself:cntS T i c i=c i + 1:=by
  unfold cntS
  split
  ·rename_i h0
   rw [updF_ne (by have:=hlow h0; omega),updF_at]
  ·rw [updF_at]
 refine ⟨fun p hp=>?_,fun p hp=>?_⟩
 ·simp only [chU]
  rw [← hi,chU_congr (S':=c) (by omega) (fun m h1 h2=>heq m (by omega)),hself]
  have hc:=h.at_ p hp
  have hx:(N - (k + 1)≤p) ↔ (N - k≤p∨p=i):=by omega
  have one:∀ (A B:Prop) [Decidable A] [Decidable B],(A ↔ B)→(if A then 1 else 0)=(if B then 1 else (0:Nat)):=fun A B _ _ h=>by
   by_cases hA:A
   ·rw [if_pos hA,if_pos (h.1 hA)]
   ·rw [if_neg hA,if_neg (fun hB=>hA (h.2 hB))]
  rw [one _ _ hx]
  by_cases hpi:p=i
  ·have e1:¬ N - k≤p:=by omega
   have e2:¬ (i≠0∧T i=p):=fun e=>by have:=hlow e.1; omega
   have e3:N - k≤p∨p=i:=.inr hpi
   rw [if_neg e1] at hc
   rw [if_pos e3,if_neg e2,hpi,hself,← hpi,hc]
   omega
  ·by_cases hpt:i≠0∧T i=p
   ·have hl:=hlow hpt.1
    have e1:¬ N - k≤p:=by omega
    have e3:¬ (N - k≤p∨p=i):=by omega
    have:cntS T i c p=c p + (c i + 1):=by
     unfold cntS
     rw [if_pos hpt.1,← hpt.2,updF_at]
    rw [if_neg e1] at hc
    rw [if_neg e3,if_pos hpt,this,hc]
    omega
   ·have:cntS T i c p=c p:=by
     unfold cntS
     split
     ·rename_i h0
      rw [updF_ne (fun e=>hpt ⟨h0,e.symm⟩),updF_ne hpi]
     ·rw [updF_ne hpi]
    have e3:(N - k≤p∨p=i) ↔ N - k≤p:=by omega
    rw [one _ _ e3,if_neg hpt,this,hc]
    omega
 ·have h1:=h.bnd p hp
  have h2:=h.bnd i hiN
  have h3:2 ^ (k + 1)=2 * 2 ^ k:=by rw [Nat.pow_succ]; omega
  unfold cntS
  split
  ·rename_i h0
   have h4:=h.bnd (T i) (by have:=hlow h0; omega)
   unfold updF
   split
   ·omega
   ·split <;> omega
  ·unfold updF
   split <;> omega
theorem CntI.done {T:Nat→Nat} {N:Nat} {c:Nat→Nat} (h:CntI T N N c) {p:Nat} (hp:p < N):c p=1 + chT T c p N:=by
 rw [h.at_ p hp,if_pos (by omega),ch_split (S:=c) (Nat.le_refl N),Nat.sub_self]
 simp [chT]
structure PlI (T S:Nat→Nat) (N j:Nat) (fs fr:Nat→Nat):Prop where
 fr:∀ p,p < j→fr p=fs p + 1 + chT T S p j
 fs:∀ m,m≠0→m < j→fs m=fs (T m) + 1 + chT T S (T m) m
def fsS (T:Nat→Nat) (j:Nat) (fs fr:Nat→Nat):Nat→Nat:=if j≠0 then updF fs j (fr (T j)) else fs
def frS (T S:Nat→Nat) (j:Nat) (fs fr:Nat→Nat):Nat→Nat:=updF (if j≠0 then updF fr (T j) (fr (T j) + S j) else fr) j (fsS T j fs fr j + 1)
theorem PlI.start (T S:Nat→Nat) (N:Nat) (fs fr:Nat→Nat):PlI T S N 0 fs fr:=⟨fun p h=>by omega,fun m _ h=>by omega⟩
theorem chT_none {T S:Nat→Nat} {N:Nat} (hT:Low N T) {p:Nat}:∀ {j:Nat},j≤p + 1→j≤N→chT T S p j=0
 | 0,_,_=>rfl
 | j + 1,h,hN=>by
  simp only [chT]
  rw [chT_none hT (by omega) (by omega),if_neg (fun e=>by have:=hT j e.1 (by omega); omega)]
theorem PlI.next {T S:Nat→Nat} {N j:Nat} {fs fr:Nat→Nat} (hT:Low N T) (h:PlI T S N j fs fr) (hj:j < N):PlI T S N (j + 1) (fsS T j fs fr) (frS T S j fs fr):=by
 have hlow:j≠0→T j < j:=fun h0=>hT j h0 hj
 have hfs:∀ m,m≠j→fsS T j fs fr m=fs m:=fun m hm=>by
  unfold fsS
  split
  ·exact updF_ne hm
  ·rfl
 refine ⟨fun p hp=>?_,fun m h0 hm=>?_⟩
 ·by_cases e:p=j
  ·subst e
   unfold frS
   rw [updF_at,chT_none hT (by omega) (by omega)]
  ·have hpj:p < j:=by omega
   rw [hfs p e]
   unfold frS
   rw [updF_ne e]
   simp only [chT]
   split
   ·rename_i h0
    by_cases e2:p=T j
    ·subst e2
     rw [updF_at,if_pos ⟨h0,rfl⟩,h.fr _ hpj]
     omega
    ·rw [updF_ne e2,if_neg (fun e=>e2 e.2.symm),h.fr p hpj]
     omega
   ·rename_i h0
    rw [if_neg (fun e=>h0 e.1),h.fr p hpj]
    omega
 ·by_cases e:m=j
  ·subst e
   have hl:=hlow h0
   rw [hfs (T m) (by omega)]
   unfold fsS
   rw [if_pos h0,updF_at,h.fr _ hl]
  ·have hl:=hT m h0 (by omega)
   rw [hfs m e,hfs (T m) (by omega)]
   exact h.fs m h0 (by omega)
structure Spn (T S fs:Nat→Nat) (N:Nat):Prop where
 low:Low N T
 pos:∀ p,p < N→0 < S p
 in_:∀ m,m≠0→m < N→fs (T m) < fs m∧fs m + S m≤fs (T m) + S (T m)
 sib:∀ m m',m≠0→m < m'→m' < N→T m=T m'→fs m + S m≤fs m'
theorem Spn.of {T S fs fr:Nat→Nat} {N:Nat} (hT:Low N T) (hc:CntI T N N S) (hp:PlI T S N N fs fr):Spn T S fs N:=by
 have step:∀ {m},m≠0→chT T S (T m) (m + 1)=chT T S (T m) m + S m:=fun {m} h0=>by simp [chT,h0]
 refine ⟨hT,fun p hp=>by rw [hc.done hp]; omega,fun m h0 hm=>?_,fun m m' h0 hlt hm e=>?_⟩
 ·have hl:=hT m h0 hm
  have h1:=hp.fs m h0 hm
  have h2:=hc.done (p:=T m) (by omega)
  have h3:=chT_mono (T:=T) (S:=S) (p:=T m) (i:=m + 1) (j:=N) (by omega)
  rw [step h0] at h3
  omega
 ·have h1:=hp.fs m h0 (by omega)
  have h2:=hp.fs m' (by omega) hm
  have h3:=chT_mono (T:=T) (S:=S) (p:=T m) (i:=m + 1) (j:=m') (by omega)
  rw [step h0] at h3
  rw [← e] at h2
  omega
theorem Spn.up {T S fs:Nat→Nat} {N:Nat} (h:Spn T S fs N) {b a:Nat} (hu:Up T b a):b < N→fs a≤fs b∧fs b + S b≤fs a + S a:=by
 induction hu with
 | refl=>intro _; exact ⟨Nat.le_refl _,Nat.le_refl _⟩
 | @step n x h0 _ ih =>
  intro hn
  have hl:=h.low n h0 hn
  obtain ⟨i1,i2⟩:=h.in_ n h0 hn
  obtain ⟨j1,j2⟩:=ih (by omega)
  omega
theorem Spn.apart {T S fs:Nat→Nat} {N:Nat} (h:Spn T S fs N):∀ (d a b:Nat),a + b≤d→a < N→b < N→¬ Up T a b→¬ Up T b a→fs a + S a≤fs b∨fs b + S b≤fs a:=by
 have root:∀ a,a < N→Up T a 0:=by
  intro a
  induction a using Nat.strongRecOn with
  | _ a ih =>
   intro ha
   by_cases h0:a=0
   ·subst h0; exact .refl
   ·exact .step h0 (ih (T a) (h.low a h0 ha) (by have:=h.low a h0 ha; omega))
 have key : ∀ (d : Nat), (∀ a b : Nat, a + b ≤ d → a < N → b < N → ¬ Up T a b → ¬ Up T b a → fs a + S a ≤ fs b ∨ fs b + S b ≤ fs a) → ∀ a b : Nat, a + b ≤ d + 1 → b < a → a < N → b < N → ¬ Up T a b → ¬ Up T b a → fs a + S a ≤ fs b ∨ fs b + S b ≤ fs a := by
  intro d ih a b hd hba ha hb h1 h2
  have ha0:a≠0:=by omega
  have hb0:b≠0:=fun e=>h1 (by rw [e]; exact root a ha)
  have hla:=h.low a ha0 ha
  have hlb:=h.low b hb0 hb
  obtain ⟨ia1,ia2⟩:=h.in_ a ha0 ha
  obtain ⟨ib1,ib2⟩:=h.in_ b hb0 hb
  by_cases e:T a=T b
  ·exact .inr (h.sib b a hb0 hba ha e.symm)
  ·by_cases hu:Up T b (T a)
   ·have hu2:Up T (T b) (T a):=by
     by_cases e3:T a=b
     ·exact absurd (.step ha0 (by rw [e3]; exact .refl)) h1
     ·exact (hu.inv e3).2
    have n1:¬ Up T a (T b):=fun hx=>by
     by_cases e4:T b=a
     ·exact h2 (.step hb0 (by rw [e4]; exact .refl))
     ·have hy:=(hx.inv e4).2
      have:=hy.le h.low (by omega)
      have:=hu2.le h.low (by omega)
      exact e (by omega)
    have n2:¬ Up T (T b) a:=fun hx=>h2 (.step hb0 hx)
    rcases ih a (T b) (by omega) ha (by omega) n1 n2 with h3 | h3
    ·exact .inl (by omega)
    ·exact .inr (by omega)
   ·have n1:¬ Up T (T a) b:=fun hx=>h1 (.step ha0 hx)
    rcases ih (T a) b (by omega) (by omega) hb n1 hu with h3 | h3
    ·exact .inl (by omega)
    ·exact .inr (by omega)
 intro d
 induction d with
 | zero =>
  intro a b hd ha hb h1 h2
  have:a=b:=by omega
  subst this
  exact absurd .refl h1
 | succ d ih =>
  intro a b hd ha hb h1 h2
  by_cases e:a=b
  ·subst e; exact absurd .refl h1
  ·by_cases hlt:b < a
   ·exact key d ih a b hd hlt ha hb h1 h2
   ·exact (key d ih b a (by omega) (by omega) hb ha h2 h1).symm
theorem Spn.iff {T S fs:Nat→Nat} {N:Nat} (h:Spn T S fs N) {a b:Nat} (ha:a < N) (hb:b < N):(fs a≤fs b∧fs b < fs a + S a) ↔ Up T b a:=by
 constructor
 ·rintro ⟨h1,h2⟩
  have hpb:=h.pos b hb
  have hpa:=h.pos a ha
  by_cases hu:Up T b a
  ·exact hu
  ·exfalso
   by_cases hv:Up T a b
   ·by_cases e:a=b
    ·subst e; exact hu .refl
    ·have:∀ {a:Nat},Up T a b→a≠b→a < N→fs b < fs a:=by
      intro a hv hne ha
      obtain ⟨h0,hw⟩:=hv.inv (Ne.symm hne)
      have:=(h.in_ a h0 ha).1
      have:=(h.up hw (by have:=h.low a h0 ha; omega)).1
      omega
     have:=this hv e ha
     omega
   ·rcases h.apart (a + b) a b (Nat.le_refl _) ha hb hv hu with h3 | h3 <;> omega
 ·intro hu
  obtain ⟨h1,h2⟩:=h.up hu hb
  have:=h.pos b hb
  omega
end Go.Ab
end

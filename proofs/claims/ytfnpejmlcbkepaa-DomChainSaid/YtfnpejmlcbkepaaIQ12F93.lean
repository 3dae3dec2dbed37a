import Derived.Test.YtfnpejmlcbkepaaIQ12F88
set_option linter.all false
section
set_option maxRecDepth 10000
namespace Go.Ab
theorem RL.D4 {α:Type} {q:Option Bool} {s:Nat} {R:List TV→α→Prop} {x:TV} {l:List α} (h:RL q s R x l) (hl:l≠[]):∃ o xs,x=.sl o s xs∧F2 R xs l:=by
 rcases h with ⟨_,rfl⟩ | ⟨o,xs,rfl,_,h,_⟩
 ·exact absurd rfl hl
 ·exact ⟨o,xs,rfl,h⟩
def fw (p:Nat→Nat) (N n:Nat):List Int:=(List.range N).map fun i=>if i≠0∧i < n then ((p i:Nat):Int) else 0
theorem jg {p:Nat→Nat} {N n i:Nat} (h:i < N):(fw p N n)[i]? = some (if i≠0∧i < n then ((p i:Nat):Int) else 0):=by simp [fw,h]
theorem uS (p:Nat→Nat) (N:Nat):fw p N 1=List.replicate N 0:=by
 apply List.ext_getElem?
 intro i
 rw [List.getElem?_replicate]
 by_cases h:i < N
 ·rw [jg h,if_pos h,if_neg (by omega)]
 ·rw [if_neg h,Eh (by simp [fw]; omega)]
theorem vG {p:Nat→Nat} {N n:Nat} (h0:n≠0) (h:n < N):fw p N (n + 1)=(fw p N n).set n ((p n:Nat):Int):=by
 apply List.ext_getElem?
 intro i
 by_cases hi:i < N
 ·rw [jg hi]
  by_cases e:n=i
  ·subst e
   rw [List.getElem?_set_self (by simp [fw]; exact h),if_pos ⟨h0,by omega⟩]
  ·rw [List.getElem?_set_ne e,jg hi]
   by_cases h2:i≠0∧i < n
   ·rw [if_pos h2,if_pos ⟨h2.1,by omega⟩]
   ·rw [if_neg h2,if_neg (by omega)]
 ·rw [Eh (by simp [fw]; omega),Eh (by simp [fw]; omega)]
theorem xM (bs:List DBlock) (o:List Int) {n:Nat} (h:o.length≤n):gX o.length (fw (p0L bs o) o.length n) (p0Z bs o):=by
 refine ⟨by simp [fw],fun i hi=>?_⟩
 rw [jg hi]
 unfold p0Z
 by_cases h0:i=0
 ·rw [if_pos h0,if_neg (by omega)]; rfl
 ·rw [if_neg h0,if_pos ⟨h0,by omega⟩]
theorem gX.upd {N:Nat} {l:List Int} {T:Nat→Nat} (h:gX N l T) {m v:Nat} (hm:m < N):gX N (l.set m ((v:Nat):Int)) (m8 T m v):=by
 refine ⟨by rw [List.length_set]; exact h.1,fun n hn=>?_⟩
 by_cases e:m=n
 ·subst e; rw [ia,List.getElem?_set_self (by rw [h.1]; exact hm)]
 ·rw [fV (Ne.symm e),List.getElem?_set_ne e]; exact h.2 n hn
end Go.Ab
namespace Go.Ab.Q12
open Go Go.Ab Go.Proofs
theorem yg {y2 y3:TV} {q:Bool} {ov:List (List TV)} {o:List Int} (ho:F2 RI1 ov o) {a b r:Int} (h:Both o a b r):aa prog 91 (f91_0 (I a) (I b) y2 y3 (.sl q 1 ov)) (I r):=by
 induction h with
 | @done a =>
  unfold f91_0
  exact aa.tv rfl (aa.ite (v:=false) (by simp [asBool]) nofun fun _=>aa.ret)
 | @left a b a' r h1 h2 h3 h4 _ ih =>
  obtain ⟨e,he,rfl,_⟩:=ho.get h4
  unfold f91_0
  refine aa.tv rfl (aa.ite (v:=true) (by simp [asBool,h1]) (fun _=>aa.tv rfl (aa.ite (v:=true) (by simp [asBool]; omega) (fun _=>?_) nofun)) nofun)
  exact aa.tvs (v:=[I a']) (by simp [pidx,h3,he]) (aa.chk rfl (f91_0_J ih))
 | @right a b b' r h1 h2 h3 h4 _ ih =>
  obtain ⟨e,he,rfl,_⟩:=ho.get h4
  unfold f91_0
  refine aa.tv rfl (aa.ite (v:=true) (by simp [asBool,h1]) (fun _=>aa.tv rfl (aa.ite (v:=false) (by simp [asBool]; omega) nofun fun _=>?_)) nofun)
  exact aa.tvs (v:=[I b']) (by simp [pidx,h3,he]) (aa.chk rfl (f91_0_J ih))
theorem rBoth8 {x0 x1:TV} {q:Bool} {ov:List (List TV)} {o:List Int} (ho:F2 RI1 ov o) {a b r:Int} (h:Both o a b r):bc prog 91 [.agg [x0,x1,.sl q 1 ov],I a,I b] (I r):=by
 refine bc.of (f91_MR _ _ _) ?_
 unfold f91_M
 exact aa.chk rfl (f91_0_J (yg ho h))
theorem zU {y2 y3:TV} {q q':Bool} {ov ls:List (List TV)} {o l:List Int} (ho:F2 RI1 ov o) (hl:F2 RI1 ls l) (h1:l.length≤1000000):∀ (k:Nat) (v r:Int),k≤l.length→Bths o v (l.take k).reverse r →
  aa prog 75 (f75_0 (I ((k:Int) - 1)) (.sl q' 1 ls) y2 y3 (.sl q 1 ov) (I v)) (I r):=by
 intro k
 induction k with
 | zero =>
  intro v r _ h
  cases h
  unfold f75_0
  exact aa.tv rfl (aa.ite (v:=false) (by simp [asBool]) nofun fun _=>aa.ret)
 | succ k ih =>
  intro v r hk h
  have hlt:k < l.length:=by omega
  rw [List.take_succ_eq_append_getElem hlt,List.reverse_append] at h
  simp only [List.reverse_cons,List.reverse_nil,List.nil_append,List.cons_append] at h
  cases h with
  | @cons _ n v' _ _ hb ht =>
   obtain ⟨e,he,rfl,hei⟩:=hl.get (D6 hlt)
   have e1:(((k + 1:Nat):Int) - 1)=(k:Int):=by omega
   rw [e1]
   have hsub:pbin (Kd.int IntKind.i64) BinOp.sub (I (k:Int)) (I 1)=some (I ((k:Int) - 1)):=by
    show some (I (IntKind.wrap .i64 ((k:Int) - 1)))=_
    rw [show IntKind.wrap .i64 ((k:Int) - 1)=(k:Int) - 1 by rw [IntKind.wrap_i64]; omega]
   unfold f75_0
   refine aa.tv rfl (aa.ite (v:=true) (by simp [asBool]) (fun _=>?_) nofun)
   exact aa.tvs (v:=[I l[k]]) (by simp [pidx,he]) (aa.chk rfl (aa.call (rBoth8 ho hb) (aa.chk rfl (aa.tv hsub (f75_0_J (ih v' r (by omega) ht))))))
theorem rAll8 {a b wv v:TV} {qa qb:Option Bool} {l:List Int} {T:Nat→Nat} {N:Nat} {ls:List Nat} (hw:RInts qa wv l) (hv:RInts qb v (fF ls)) (hT:gX N l T) (hL:Low N T) (h0:ls≠[]) (hN:∀ p ∈ ls,p < N) (hN1:N≤1000000) (hl1:ls.length≤1000000) {r:Nat} (hr:AllP l (fF ls) r) :
  bc prog 75 [.agg [a,b,wv],v] (I (r:Int)):=by
 have hpos:0 < N:=by
  cases ls with
  | nil=>exact absurd rfl h0
  | cons p ls=>exact Nat.lt_of_le_of_lt (Nat.zero_le _) (hN p Ec)
 have hlp:0 < ls.length:=List.length_pos_iff.2 h0
 have hcl:(fF ls).length=ls.length:=by simp [fF]
 obtain ⟨o1,xs,rfl,hf⟩:=hw.D4 (by rintro rfl; have:=hT.1; simp at this; omega)
 obtain ⟨o2,ys,rfl,hg⟩:=hv.D4 (by intro e; simp [fF] at e; exact h0 e)
 obtain ⟨z,hz,hb⟩:=hr
 have hzl:(fF ls)[ls.length - 1]? = some z:=by rw [List.getLast?_eq_getElem?,hcl] at hz; exact hz
 obtain ⟨e,he,rfl,hei⟩:=hg.get hzl
 have hsub:pbin (Kd.int IntKind.i64) BinOp.sub (I ((fF ls).length:Nat)) (I 1)=some (I ((ls.length:Int) - 1)):=by
  show some (I (IntKind.wrap .i64 (((fF ls).length:Int) - 1)))=_
  rw [hcl,show IntKind.wrap .i64 ((ls.length:Int) - 1)=(ls.length:Int) - 1 by rw [IntKind.wrap_i64]; omega]
 have hpi:pidx 1 (.sl o2 1 ys) (I ((ls.length:Int) - 1))=some [I z]:=by
  have e1:(((ls.length:Int) - 1)).toNat=ls.length - 1:=by omega
  simp [pidx,e1,he]
  omega
 refine bc.of (f75_MR _ _) ?_
 unfold f75_M
 refine aa.chk rfl (aa.tv hv.len (aa.tv hsub (aa.tvs hpi (aa.chk rfl (aa.chk rfl (aa.tv hv.len (aa.tv hsub (f75_0_J ?_))))))))
 have:=zU (y2:=a) (y3:=b) (q:=o1) (q':=o2) hf hg (by rw [hcl]; exact hl1) (fF ls).length z r (Nat.le_refl _) (by rw [List.take_length]; exact hb)
 rw [hcl] at this
 exact this
theorem rRank8 {q:Option Bool} {e:List TV} {f:DFunc} (he:RFunc q e f) (hs:f.blocks.length≤1000):∃ v0 v1 v2 o l,bc prog 55 [.agg e] (.agg [v0,v1,v2])∧uP f.blocks o∧RInts (some true) v0 o ∧
  RL (some true) 1 (RIL (some true)) v1 ((List.range o.length).map (prL f.blocks o))∧RInts (some true) v2 l∧gX o.length l (p0Z f.blocks o):=by
 have he0:=he
 obtain ⟨b,rfl,hb,_⟩:=he
 obtain ⟨v0,o,hv0,k0,hO⟩:=r80 he0 hs
 have hI:=hO.keeps
 have hol:o.length≤1000:=Nat.le_trans hI.len hs
 obtain ⟨v1,hv1,k1⟩:=Cg he0 hs (k0.frz fun _ _ h=>h.frz) hI hol
 have loop:∀ (d n:Nat) (w:TV),o.length - n≤d→n≠0→RInts (some true) w (fw (p0L f.blocks o) o.length n)→∃ v2 l,aa prog 55 (f55_0 (I n) v0 v1 w) (.agg [v0,v1,v2])∧RInts (some true) v2 l∧gX o.length l (p0Z f.blocks o):=by
  intro d
  have fin:∀ (n:Nat) (w:TV),o.length≤n→n≠0→RInts (some true) w (fw (p0L f.blocks o) o.length n)→∃ v2 l,aa prog 55 (f55_0 (I n) v0 v1 w) (.agg [v0,v1,v2])∧RInts (some true) v2 l∧gX o.length l (p0Z f.blocks o):=by
   intro n w hn h0 hw
   refine ⟨w,_,?_,hw,xM f.blocks o hn⟩
   unfold f55_0
   refine aa.tv k0.len (aa.tv rfl (aa.ite (v:=false) (by simp [asBool]; omega) nofun fun _=>aa.chk ?_ aa.ret))
   have o0:=k0.own fun _ _ h=>h.own
   have o1:=k1.own fun _ _ h=>h.own
   have o2:=hw.own fun _ _ h=>h.own
   simp [b8,eK,o0,o1,o2]
  induction d with
  | zero=>intro n w hd h0 hw; exact fin n w (by omega) h0 hw
  | succ d ih =>
   intro n w hd h0 hw
   by_cases hn:n < o.length
   ·obtain ⟨p,hp,_⟩:=hI.low h0 hn
    have hne:prL f.blocks o n≠[]:=fun e=>by rw [e] at hp; cases hp
    have hlen:0 < (prL f.blocks o n).length:=List.length_pos_iff.2 hne
    obtain ⟨e1,he1,u,rfl,hu⟩:=k1.pel (i:=n) (a:=prL f.blocks o n) (by simp [hn])
    obtain ⟨e2,he2,rfl,hei⟩:=hu.pel (i:=0) (a:=((p0L f.blocks o n:Nat):Int)) (by simp only [fF,Eb,p0_at hne,Ei])
    obtain ⟨e3,he3,rfl,_⟩:=hw.pel (jg hn)
    obtain ⟨w',c1,c2⟩:=hw.fG he3 (d:=0) (ys:=[I (p0L f.blocks o n:Nat)]) (a:=((p0L f.blocks o n:Nat):Int)) ⟨rfl,hei⟩
    rw [← vG h0 hn] at c2
    obtain ⟨v2,l,hy,r1,r2⟩:=ih (n + 1) w' (by omega) (by omega) c2
    refine ⟨v2,l,?_,r1,r2⟩
    have ann:ah (I (n:Nat))=some n:=ak (by omega)
    have hgp:=k1.deep he1 (j:=0) (z:=u) rfl
    unfold f55_0
    refine aa.tv k0.len (aa.tv rfl (aa.ite (v:=true) (by simp [asBool]; omega) (fun _=>?_) nofun))
    refine aa.nat k1.slLen (aa.nat ann (aa.chk ?_ (aa.tvs he1 (aa.chk (a9 hu.isSl) (aa.tv hgp (aa.nat hu.slLen (aa.nat (v:=0) rfl (aa.chk ?_ (aa.tv hgp (aa.tvs he2 (aa.chk rfl ?_)))))))))))
    ·rw [k1.slSize]; simp; omega
    ·rw [hu.slSize]; simp [fF]; omega
    refine aa.nat hw.slLen (aa.nat ann (aa.chk ?_ (aa.tvs he3 (aa.chk rfl (aa.tv c1 (aa.tv (inc hn (by omega)) (f55_0_J hy)))))))
    rw [hw.slSize]; simp [fw]; omega
   ·exact fin n w (by omega) h0 hw
 obtain ⟨v2,l,hy,r1,r2⟩:=loop o.length 1 _ (by omega) (by omega) (by rw [uS]; exact ot (n:=o.length) (a:=0) ⟨by decide,by decide⟩ (by omega))
 refine ⟨v0,v1,v2,o,l,?_,hO,k0,k1,r1,r2⟩
 have hn:ah (I (o.length:Nat))=some o.length:=ak (by omega)
 refine bc.of (f55_MR _) ?_
 unfold f55_M
 exact aa.chk rfl (aa.call hv0 (aa.chk (a9 k0.isSl) (aa.call hv1 (aa.chk (a9 k1.isSl) (aa.tv k0.len (aa.nat hn (aa.nat hn (aa.chk (by simp; omega) (f55_0_J hy)))))))))
section
variable {q:Option Bool} {b:TV} {f:DFunc} (hb:RL q 14 (RBlock q) b f.blocks) (hs:f.blocks.length≤1000) {v0 v1:TV} {o:List Int} (hI:OI f.blocks o) (hol:o.length≤1000) (k0:RInts (some true) v0 o) (k1:RL (some true) 1 (RIL (some true)) v1 ((List.range o.length).map (prL f.blocks o)))
include hb hs hI hol k0
theorem CS {w4:TV} {l:List Int} {T:Nat→Nat} (k4:RInts (some true) w4 l) (hT:gX o.length l T) (hL:Low o.length T) (hov:∀ n,n≠0→n < o.length→ovN f.blocks (blk o n)=((blk o (T n):Nat):Int)):∀ (d n:Nat) (w:TV) (M:List Int),o.length - n≤d→n≠0→RInts (some true) w M→M.length=f.blocks.length →
  (∀ i,i≠0→i < n→i < o.length→M[blk o i]? = some ((blk o (T i):Nat):Int))→(∀ b,b < f.blocks.length→(∀ i,i≠0→i < n→i < o.length→blk o i≠b)→M[b]? = some (-1)) →
  ∃ y,aa prog 31 (f31_5 (I n) w v0 v1 w4) y∧RInts (some true) y (iI f.blocks):=by
 have fin : ∀ (n : Nat) (w : TV) (M : List Int), o.length ≤ n → n ≠ 0 → RInts (some true) w M → M.length = f.blocks.length →
   (∀ i,i≠0→i < n→i < o.length→M[blk o i]? = some ((blk o (T i):Nat):Int))→(∀ b,b < f.blocks.length→(∀ i,i≠0→i < n→i < o.length→blk o i≠b)→M[b]? = some (-1)) →
   ∃ y,aa prog 31 (f31_5 (I n) w v0 v1 w4) y∧RInts (some true) y (iI f.blocks):=by
  intro n w M hn h0 hw hl hm hm2
  have e:M=iI f.blocks:=by
   apply List.ext_getElem?
   intro c
   by_cases hc:c < f.blocks.length
   ·rw [pn hc]
    by_cases hr:Rc f.blocks (-1) c∧c≠0
    ·obtain ⟨i,hi,rfl⟩:=hI.rank hr.1
     have hi0:i≠0:=fun e=>by
      subst e
      exact hr.2 (hI.zero (by rintro e; rw [e] at hc; cases hc)).2
     rw [hm i hi0 (by omega) hi,hov i hi0 hi]
    ·rw [qQ hr]
     refine hm2 c hc fun i hi0 _ hi e=>hr ?_
     subst e
     refine ⟨hI.rc hi,fun e=>hi0 ?_⟩
     have hz:=hI.zero (by rintro e; rw [e] at hc; cases hc)
     exact hI.inj hi hz.1 (by rw [e,hz.2])
   ·rw [Eh (by omega),Eh (by rw [l6]; omega)]
  subst e
  refine ⟨w,?_,hw⟩
  unfold f31_5
  exact aa.tv k0.len (aa.tv rfl (aa.ite (v:=false) (by simp [asBool]; omega) nofun fun _=>aa.chk (hw.own fun _ _ h=>h.own) aa.ret))
 intro d
 induction d with
 | zero=>intro n w M hd h0 hw hl hm hm2; exact fin n w M (by omega) h0 hw hl hm hm2
 | succ d ih =>
  intro n w M hd h0 hw hl hm hm2
  by_cases hn:n < o.length
  ·have hlow:=hL n h0 hn
   have htn:T n < o.length:=by omega
   have hblt:=hI.kF hn
   have hbt:=hI.kF htn
   obtain ⟨e1,he1,rfl,_⟩:=k0.pel (hI.at_ hn)
   obtain ⟨e2,he2,rfl,_⟩:=k4.pel (hT.2 n hn)
   obtain ⟨e3,he3,rfl,hei⟩:=k0.pel (hI.at_ htn)
   have hbM:blk o n < M.length:=by omega
   obtain ⟨e4,he4,rfl,_⟩:=hw.pel (D6 hbM)
   obtain ⟨w',c1,c2⟩:=hw.fG he4 (d:=0) (ys:=[I (blk o (T n):Nat)]) (a:=((blk o (T n):Nat):Int)) ⟨rfl,hei⟩
   obtain ⟨y,hy,hr⟩:=ih (n + 1) w' _ (by omega) (by omega) c2 (by rw [List.length_set]; exact hl) (fun i hi0 hin hil=>by
    by_cases e:i=n
    ·subst e; exact List.getElem?_set_self hbM
    ·rw [List.getElem?_set_ne (fun h=>e (hI.inj hil hn h.symm))]
     exact hm i hi0 (by omega) hil) (fun c hc hno=>by
    rw [List.getElem?_set_ne (hno n h0 (by omega) hn)]
    exact hm2 c hc fun i hi0 hin hil=>hno i hi0 (by omega) hil)
   refine ⟨y,?_,hr⟩
   have ann:ah (I (n:Nat))=some n:=ak (by omega)
   have hl4:l.length=o.length:=hT.1
   unfold f31_5
   refine aa.tv k0.len (aa.tv rfl (aa.ite (v:=true) (by simp [asBool]; omega) (fun _=>?_) nofun))
   refine aa.nat k0.slLen (aa.nat ann (aa.chk ?_ (aa.tvs he1 (aa.chk rfl (aa.nat k4.slLen (aa.nat ann (aa.chk ?_ (aa.tvs he2 (aa.chk rfl ?_)))))))))
   ·rw [k0.slSize]; simp; omega
   ·rw [k4.slSize]; simp; omega
   refine aa.nat k0.slLen (aa.nat (ak (k:=T n) (by omega)) (aa.chk ?_ (aa.tvs he3 (aa.chk rfl (aa.nat hw.slLen (aa.nat (ak (k:=blk o n) (by omega)) (aa.chk ?_ (aa.tvs he4 (aa.chk rfl (aa.tv c1 (aa.tv (inc hn (by omega)) (f31_5_J hy))))))))))))
   ·rw [k0.slSize]; simp; omega
   ·rw [hw.slSize]; simp; omega
  ·exact fin n w M (by omega) h0 hw hl hm hm2
theorem C7 {w4:TV} {l:List Int} {T:Nat→Nat} (k4:RInts (some true) w4 l) (hT:gX o.length l T) (hL:Low o.length T) (hov:∀ n,n≠0→n < o.length→ovN f.blocks (blk o n)=((blk o (T n):Nat):Int)):∀ (d k:Nat) (w:TV) (M:List Int),k + d=f.blocks.length→RInts (some true) w M→M.length=f.blocks.length→(∀ i,i < k→M[i]? = some (-1)) →
  ∃ y,aa prog 31 (f31_3 (I f.blocks.length) (I k) w v0 v1 w4) y∧RInts (some true) y (iI f.blocks):=by
 intro d
 induction d with
 | zero =>
  intro k w M hk hw hl hm
  have hk:k=f.blocks.length:=by omega
  subst hk
  obtain ⟨y,hy,hr⟩:=CS hb hs hI hol k0 (v1:=v1) k4 hT hL hov o.length 1 w M (by omega) (by omega) hw hl (fun i h0 h1=>by omega) (fun c hc _=>hm c hc)
  refine ⟨y,?_,hr⟩
  unfold f31_3
  refine aa.tv rfl (aa.ite bU nofun fun _=>f31_4_J ?_)
  unfold f31_4
  exact f31_5_J hy
 | succ d ih =>
  intro k w M hk hw hl hm
  have hkl:k < f.blocks.length:=by omega
  have hkM:k < M.length:=by omega
  obtain ⟨e4,he4,rfl,_⟩:=hw.pel (D6 hkM)
  obtain ⟨w',c1,c2⟩:=hw.fG he4 (d:=0) (ys:=[I (-1)]) (a:=-1) ⟨rfl,⟨by decide,by decide⟩⟩
  obtain ⟨y,hy,hr⟩:=ih (k + 1) w' _ (by omega) c2 (by rw [List.length_set]; exact hl) (fun i hi=>by
   by_cases e:k=i
   ·subst e; exact List.getElem?_set_self hkM
   ·rw [List.getElem?_set_ne e]; exact hm i (by omega))
  refine ⟨y,?_,hr⟩
  unfold f31_3
  refine aa.tv rfl (aa.ite (bS hkl) (fun _=>?_) nofun)
  refine aa.nat hw.slLen (aa.nat (ak (by omega)) (aa.chk ?_ (aa.tvs he4 (aa.chk rfl (aa.tv c1 (aa.tv (inc hkl (by omega)) (f31_3_J hy)))))))
  rw [hw.slSize]; simp; omega
include k1
theorem C9 {p0 : Nat → Nat} (hG : Grf o.length (prL f.blocks o) p0) : ∀ (z : Nat) (w : TV) (l : List Int) (T : Nat → Nat), high T o.length < z → RInts (some true) w l → gX o.length l T → TI o.length (prL f.blocks o) p0 1 T →
  ∃ y,aa prog 31 (f31_0 (I f.params) (I f.regs) b v0 v1 w) y∧RInts (some true) y (iI f.blocks):=by
 intro z
 induction z with
 | zero=>intro w l T hz; omega
 | succ z ihz =>
  intro w0 l0 T0 hz0 hw0 hT0 hTI0
  have sweep : ∀ (d n : Nat) (c : Bool) (w : TV) (l : List Int) (T : Nat → Nat), o.length - n ≤ d → n ≠ 0 → RInts (some true) w l → gX o.length l T → TI o.length (prL f.blocks o) p0 n T → high T o.length ≤ high T0 o.length → (c = true → high T o.length < high T0 o.length) →
    (c=false→∀ i,i≠0→i < n→i < o.length→∀ x,Up T (T i) x ↔ ∀ p ∈ prL f.blocks o i,Up T p x) →
    ∃ y,aa prog 31 (f31_1 (B c) (I n) (I f.params) (I f.regs) b v0 v1 w) y∧RInts (some true) y (iI f.blocks):=by
   have fin:∀ (n:Nat) (c:Bool) (w:TV) (l:List Int) (T:Nat→Nat),o.length≤n→n≠0→RInts (some true) w l→gX o.length l T→TI o.length (prL f.blocks o) p0 n T→(c=true→high T o.length < high T0 o.length) →
     (c=false→∀ i,i≠0→i < n→i < o.length→∀ x,Up T (T i) x ↔ ∀ p ∈ prL f.blocks o i,Up T p x) →
     ∃ y,aa prog 31 (f31_1 (B c) (I n) (I f.params) (I f.regs) b v0 v1 w) y∧RInts (some true) y (iI f.blocks):=by
    intro n c w l T hn h0 hw hT hTI hc1 hc0
    have hl:l.length=o.length:=hT.1
    cases c with
    | true =>
     obtain ⟨y,hy,hr⟩:=ihz w l T (by have:=hc1 rfl; omega) hw hT (hTI.again hn)
     refine ⟨y,?_,hr⟩
     unfold f31_1
     exact aa.tv hw.len (aa.tv rfl (aa.ite (v:=false) (by simp [asBool]; omega) nofun fun _=>aa.ite (v:=true) rfl (fun _=>f31_0_J hy) nofun))
    | false =>
     obtain ⟨y,hy,hr⟩:=C7 hb hs hI hol k0 (v1:=v1) hw hT hTI.low (fun i h0 hi=>hI.ov hG hTI (fun n h0 hn=>hc0 rfl n h0 (by omega) hn) h0 hi) f.blocks.length 0 _ _ (by omega) (ot (n:=f.blocks.length) (a:=0) ⟨by decide,by decide⟩ (by omega)) (by simp) (fun i hi=>absurd hi (Nat.not_lt_zero _))
     refine ⟨y,?_,hr⟩
     have hnb:ah (I (f.blocks.length:Nat))=some f.blocks.length:=ak (by omega)
     unfold f31_1
     refine aa.tv hw.len (aa.tv rfl (aa.ite (v:=false) (by simp [asBool]; omega) nofun fun _=>aa.ite (v:=false) rfl nofun fun _=>f31_2_J ?_))
     unfold f31_2
     exact aa.tv hb.len (aa.nat hnb (aa.nat hnb (aa.chk (by simp; omega) (aa.tv (ot (n:=f.blocks.length) (a:=0) ⟨by decide,by decide⟩ (by omega)).len (by
      rw [List.length_replicate]
      exact f31_3_J hy)))))
   intro d
   induction d with
   | zero=>intro n c w l T hd h0 hw hT hTI _ hc1 hc0; exact fin n c w l T (by omega) h0 hw hT hTI hc1 hc0
   | succ d ih =>
    intro n c w l T hd h0 hw hT hTI hhi hc1 hc0
    by_cases hn:n < o.length
    ·have hl:l.length=o.length:=hT.1
     obtain ⟨p,hp,_⟩:=hI.low h0 hn
     have hne:prL f.blocks o n≠[]:=fun e=>by rw [e] at hp; cases hp
     obtain ⟨r,a1,a2,a3⟩:=all_ex hT hTI.low hne (hG.in_ n hn)
     obtain ⟨e1,he1,u,rfl,hu⟩:=k1.pel (i:=n) (a:=prL f.blocks o n) (by simp [hn])
     obtain ⟨e2,he2,rfl,_⟩:=hw.pel (hT.2 n hn)
     have hgp:=k1.deep he1 (j:=0) (z:=u) rfl
     have hplen:(prL f.blocks o n).length≤1000000:=by
      have:=ra f.blocks o n o.length
      unfold prL
      omega
     have hcall:=rAll8 (a:=frz v0) (b:=frz v1) (hw.frz fun _ _ h=>h.frz) (hu.frz fun _ _ h=>h.frz) hT hTI.low hne (hG.in_ n hn) (by omega) hplen a1
     have ann:ah (I (n:Nat))=some n:=ak (by omega)
     have hle:=TI.xu hG hTI h0 hn a3
     have hnx:=TI.next hG hTI h0 hn a3
     have hup:=wX (T:=T) (m:=n) (v:=r) o.length hn
     have front:∀ {y:TV},(r=T n→aa prog 31 (f31_1 (B c) (I ((n + 1:Nat):Int)) (I f.params) (I f.regs) b v0 v1 w) y)→(∀ w',dC [] w n 0 [I (r:Int)]=some w'→r≠T n→aa prog 31 (f31_1 (B true) (I ((n + 1:Nat):Int)) (I f.params) (I f.regs) b v0 v1 w') y)→(∃ w',dC [] w n 0 [I (r:Int)]=some w') →
       aa prog 31 (f31_1 (B c) (I n) (I f.params) (I f.regs) b v0 v1 w) y:=by
      rintro y g1 g2 ⟨w',hw'⟩
      unfold f31_1
      refine aa.tv hw.len (aa.tv rfl (aa.ite (v:=true) (by simp [asBool]; omega) (fun _=>?_) nofun))
      refine aa.nat k1.slLen (aa.nat ann (aa.chk ?_ (aa.tvs he1 (aa.chk (a9 hu.isSl) (aa.tv hgp (aa.call hcall (aa.chk rfl ?_)))))))
      ·rw [k1.slSize]; simp; omega
      refine aa.nat hw.slLen (aa.nat ann (aa.chk ?_ (aa.tvs he2 (aa.chk rfl (aa.tv rfl (aa.ite rfl (fun h=>?_) fun h=>?_))))))
      ·rw [hw.slSize]; simp; omega
      ·have hne:r≠T n:=by
        have h1:((r:Int) != (T n:Int))=true:=h
        have h2:¬ (r:Int)=(T n:Int):=by simpa using h1
        omega
       refine aa.nat hw.slLen (aa.nat ann (aa.chk ?_ (aa.tvs he2 (aa.chk rfl (aa.tv hw' (aa.tv (inc hn (by omega)) (f31_1_J (g2 w' hw' hne))))))))
       rw [hw.slSize]; simp; omega
      ·have hre:r=T n:=by
        have h1:((r:Int) != (T n:Int))=false:=h
        have h2:(r:Int)=(T n:Int):=by simpa using h1
        omega
       exact aa.tv (inc hn (by omega)) (f31_1_J (g1 hre))
     have hrI:inI (r:Int):=by constructor <;> omega
     obtain ⟨w',c1,c2⟩:=hw.fG he2 (d:=0) (ys:=[I (r:Int)]) (a:=(r:Int)) ⟨rfl,hrI⟩
     by_cases e:r=T n
     ·have hsame:m8 T n r=T:=by
       funext i
       by_cases hi:i=n
       ·subst hi; rw [ia,e]
       ·rw [fV hi]
      rw [hsame] at hnx
      obtain ⟨y,hy,hr⟩:=ih (n + 1) c w l T (by omega) (by omega) hw hT hnx hhi hc1 (fun hc i hi0 hin hil=>by
       by_cases hi:i=n
       ·subst hi; rw [← e]; exact a3
       ·exact hc0 hc i hi0 (by omega) hil)
      exact ⟨y,front (fun _=>hy) (fun _ _ h=>absurd e h) ⟨w',c1⟩,hr⟩
     ·obtain ⟨y,hy,hr⟩:=ih (n + 1) true w' _ (m8 T n r) (by omega) (by omega) c2 (hT.upd hn) hnx (by omega) (fun _=>by omega) nofun
      refine ⟨y,front (fun h=>absurd h e) (fun w'' h _=>?_) ⟨w',c1⟩,hr⟩
      rw [c1] at h
      cases h
      exact hy
    ·exact fin n c w l T (by omega) h0 hw hT hTI hc1 hc0
  obtain ⟨y,hy,hr⟩:=sweep o.length 1 false w0 l0 T0 (by omega) (by omega) hw0 hT0 hTI0 (Nat.le_refl _) nofun (fun _ i h0 h1=>by omega)
  refine ⟨y,?_,hr⟩
  unfold f31_0
  exact f31_1_J hy
end
theorem yc {q:Option Bool} {e:List TV} {f:DFunc} (he:RFunc q e f) (hs:f.blocks.length≤1000):∃ y,bc prog 31 [.agg e] y∧RInts (some true) y (iI f.blocks):=by
 obtain ⟨v0,v1,v2,o,l,hv,hO,k0,k1,k2,hT⟩:=rRank8 he hs
 have he0:=he
 obtain ⟨b,rfl,hb,_⟩:=he
 have hI:=hO.keeps
 have hol:o.length≤1000:=Nat.le_trans hI.len hs
 obtain ⟨y,hy,hr⟩:=C9 hb hs hI hol k0 k1 hI.grfZ (high (p0Z f.blocks o) o.length + 1) v2 l _ (by omega) k2 hT (TI.start hI.grfZ 1)
 refine ⟨y,?_,hr⟩
 refine bc.of (f31_MR _) ?_
 unfold f31_M
 refine aa.chk rfl (aa.call hv (aa.chk ?_ (f31_0_J hy)))
 show (true && (v0.isSl && (v1.isSl && (v2.isSl && true))))=true
 rw [k0.isSl,k1.isSl,k2.isSl]; rfl
end Go.Ab.Q12
end
section
set_option maxRecDepth 10000
namespace Go.Ab
def DmI (bs:List DBlock) (n:Int) (b:Nat):Prop:=0≤n∧Dm bs n.toNat b
theorem DmI.lt {bs:List DBlock} {n:Int} {b:Nat} (h:DmI bs n b):b < bs.length:=h.2.1.lt
theorem f9 {bs:List DBlock} {n b:Nat}:DmI bs (n:Int) b ↔ Dm bs n b:=by simp [DmI]
noncomputable def rR (bs:List DBlock) (n:Int):List Bool:=(List.range bs.length).map fun b=>tt (DmI bs n b)
theorem gz (bs:List DBlock) (n:Int):(rR bs n).length=bs.length:=by simp [rR]
theorem jh {bs:List DBlock} {n:Int} {b:Nat} (h:b < bs.length):(rR bs n)[b]? = some (tt (DmI bs n b)):=by simp [rR,h]
theorem OI.dm_le {bs:List DBlock} {o:List Int} (hI:OI bs o) {x:Nat} (hx:x < o.length):∀ (n:Nat),n < o.length→Dm bs (blk o x) (blk o n)→x≤n:=by
 intro n
 induction n using Nat.strongRecOn with
 | _ n ih =>
  intro hn h
  by_cases e:x=n
  ·omega
  ·by_cases h0:n=0
   ·subst h0
    have hb:bs≠[]:=fun e=>by have:=hI.kF hn; rw [e] at this; cases this
    have hz:=(hI.zero hb).2
    rw [hz] at h
    have:=h.anti (.zero h.up)
    have:=hI.inj hx hn (by rw [this,hz])
    omega
   ·obtain ⟨p,hp,hpn⟩:=hI.low h0 hn
    obtain ⟨q1,q2⟩:=oh.1 hp
    have:=Dm.step (a:=blk o x) (hI.rc q1) q2 (by simpa using h) (fun e2=>e (hI.inj hx hn (by omega)))
    have:=ih p hpn q1 this
    omega
def EdP (bs:List DBlock) (n:Int) (k j g:Nat):Prop:=((∃ b:Nat,b < k∧DmI bs n b∧(g:Int) ∈ ap bs b)∨(DmI bs n k∧(g:Int) ∈ (ap bs k).take j))∧((g:Int)=n∨¬ DmI bs n g)
theorem xb {bs:List DBlock} {n:Int} {k g:Nat}:EdP bs n k (ap bs k).length g ↔ EdP bs n (k + 1) 0 g:=by
 unfold EdP
 rw [List.take_length]
 simp only [List.take_zero,List.not_mem_nil,and_false,or_false]
 refine and_congr_left fun _=>⟨?_,?_⟩
 ·rintro (⟨b,h1,h2,h3⟩ | ⟨h1,h2⟩)
  ·exact ⟨b,by omega,h2,h3⟩
  ·exact ⟨k,by omega,h1,h2⟩
 ·rintro ⟨b,h1,h2,h3⟩
  by_cases e:b=k
  ·subst e; exact .inr ⟨h2,h3⟩
  ·exact .inl ⟨b,by omega,h2,h3⟩
theorem Ci {bs:List DBlock} {n:Int} {k g:Nat} (h:¬ DmI bs n k):EdP bs n k 0 g ↔ EdP bs n (k + 1) 0 g:=by
 rw [← xb]
 unfold EdP
 simp [h]
theorem BE {bs:List DBlock} {n:Int} {k j g c:Nat} (hd:DmI bs n k) (hc:(ap bs k)[j]? = some (c:Int)) (hg:g≠c):EdP bs n k (j + 1) g ↔ EdP bs n k j g:=by
 unfold EdP
 rw [jB hc,List.mem_append,List.mem_singleton]
 have:¬ (g:Int)=(c:Int):=by omega
 simp [this]
theorem yk {bs:List DBlock} {n:Int} {k j c:Nat} (hd:DmI bs n k) (hc:(ap bs k)[j]? = some (c:Int)):EdP bs n k (j + 1) c ↔ ((c:Int)=n∨¬ DmI bs n c):=by
 unfold EdP
 rw [jB hc,List.mem_append,List.mem_singleton]
 simp [hd]
noncomputable def kJ (bs:List DBlock) (n:Int) (k:Nat):List Int:=if 0≤n then jW bs n.toNat k else []
theorem Az (bs:List DBlock) (n:Int):kJ bs n bs.length=tN bs n:=rfl
theorem AB {bs:List DBlock} {n:Int} {k:Nat} (h:EdP bs n bs.length 0 k):kJ bs n (k + 1)=kJ bs n k ++ [(k:Int)]:=by
 obtain ⟨h1,h2⟩:=h
 simp only [List.take_zero,List.not_mem_nil,and_false,or_false] at h1
 obtain ⟨b,_,hb,hg⟩:=h1
 have h0:=hb.1
 have hp:ua bs n.toNat k:=⟨⟨b,hb.2,hg⟩,h2.imp (fun e=>by omega) (fun hn hd=>hn ⟨h0,hd⟩)⟩
 classical
 unfold kJ
 rw [if_pos h0,if_pos h0,pJ,if_pos hp]
theorem AY {bs:List DBlock} {n:Int} {k:Nat} (h:¬ EdP bs n bs.length 0 k):kJ bs n (k + 1)=kJ bs n k:=by
 classical
 unfold kJ
 by_cases h0:0≤n
 ·rw [if_pos h0,if_pos h0,pJ,if_neg,List.append_nil]
  rintro ⟨⟨b,hb,hg⟩,h2⟩
  refine h ⟨.inl ⟨b,hb.1.lt,⟨h0,hb⟩,hg⟩,h2.imp (fun e=>by omega) (fun hn hd=>hn hd.2)⟩
 ·rw [if_neg h0,if_neg h0]
theorem AI (bs:List DBlock) (n:Int) (k:Nat):(kJ bs n k).length≤k:=by
 unfold kJ
 split
 ·unfold jW
  rw [List.length_map]
  exact Nat.le_trans (List.length_filter_le _ _) (by simp)
 ·simp
end Go.Ab
namespace Go.Ab.Q12
open Go Go.Ab Go.Proofs
theorem zl {q:Option Bool} {e:List TV} {f:DFunc} (he:RFunc q e f) (hs:f.blocks.length≤1000) (n:Int):∃ y,bc prog 58 [.agg e,I n] y∧RBools (some true) y (rR f.blocks n):=by
 obtain ⟨v0,hv0,k0⟩:=yc he hs
 obtain ⟨v4,o,hv4,k4,hO⟩:=r80 he hs
 have hI:=hO.keeps
 have hol:o.length≤1000:=Nat.le_trans hI.len hs
 obtain ⟨b,rfl,hb,_⟩:=he
 have loop : ∀ (d k : Nat) (w : TV) (M : List Bool), k + d = o.length → RBools (some true) w M → M.length = f.blocks.length → (∀ i, i < k → M[blk o i]? = some (tt (DmI f.blocks n (blk o i)))) → (∀ c, c < f.blocks.length → (∀ i, i < k → blk o i ≠ c) → M[c]? = some false) →
   ∃ y,aa prog 58 (f58_0 (I n) (I o.length) (I k) v0 w v4) y∧RBools (some true) y (rR f.blocks n):=by
  intro d
  induction d with
  | zero =>
   intro k w M hk hw hl hm hm2
   have hk:k=o.length:=by omega
   subst hk
   have e:M=rR f.blocks n:=by
    apply List.ext_getElem?
    intro c
    by_cases hc:c < f.blocks.length
    ·rw [jh hc]
     by_cases hr:Rc f.blocks (-1) c
     ·obtain ⟨i,hi,rfl⟩:=hI.rank hr
      exact hm i hi
     ·rw [dU fun h=>hr h.2.1]
      exact hm2 c hc fun i hi e=>hr (e ▸ hI.rc hi)
    ·rw [Eh (by omega),Eh (by rw [gz]; omega)]
   subst e
   refine ⟨w,?_,hw⟩
   unfold f58_0
   exact aa.tv rfl (aa.ite bU nofun fun _=>aa.chk (hw.own fun _ _ h=>h.own) aa.ret)
  | succ d ih =>
   intro k w M hk hw hl hm hm2
   have hkl:k < o.length:=by omega
   have hblt:=hI.kF hkl
   have hbM:blk o k < M.length:=by omega
   obtain ⟨e1,he1,rfl,hei⟩:=k4.pel (hI.at_ hkl)
   obtain ⟨e2,he2,hR2⟩:=hw.pel (D6 hbM)
   cases hR2
   obtain ⟨w',c1,c2⟩:=hw.fG he2 (d:=0) (ys:=[B (tt (DmI f.blocks n (blk o k)))]) (a:=tt (DmI f.blocks n (blk o k))) rfl
   obtain ⟨y,hy,hr⟩:=ih (k + 1) w' _ (by omega) c2 (by rw [List.length_set]; exact hl) (fun i hi=>by
    by_cases e:i=k
    ·subst e; exact List.getElem?_set_self hbM
    ·rw [List.getElem?_set_ne (fun h=>e (hI.inj (by omega) hkl h.symm))]
     exact hm i (by omega)) (fun c hc hno=>by
    rw [List.getElem?_set_ne (hno k (by omega))]
    exact hm2 c hc fun i hi=>hno i (by omega))
   refine ⟨y,?_,hr⟩
   have ank:ah (I (k:Nat))=some k:=ak (by omega)
   have anb:ah (nth TV.hole [I ((blk o k:Nat):Int)] 0)=some (blk o k):=ak (by omega)
   have cM:(Bool.and (slSize w 1) (Nat.blt (blk o k) M.length))=true:=by rw [hw.slSize]; simp; omega
   unfold f58_0
   refine aa.tv rfl (aa.ite (bS hkl) (fun _=>?_) nofun)
   refine aa.nat k4.slLen (aa.nat ank (aa.chk ?_ (aa.tvs he1 (aa.chk rfl (aa.tv rfl (aa.ite rfl (fun h=>?_) fun h=>?_))))))
   ·rw [k4.slSize]; simp; omega
   ·have hn:((blk o k:Nat):Int)=n:=by simpa using h
    have ht:tt (DmI f.blocks n (blk o k))=true:=eC (by rw [← hn,f9]; exact .refl (hI.rc hkl))
    rw [ht] at c1
    exact aa.nat hw.slLen (aa.nat anb (aa.chk cM (aa.tvs he2 (aa.chk rfl (aa.tv c1 (aa.tv (inc hkl (by omega)) (f58_0_J hy)))))))
   ·have hn:¬ ((blk o k:Nat):Int)=n:=by simpa using h
    refine aa.tv rfl (aa.ite rfl (fun h=>?_) fun h=>?_)
    ·have h0:blk o k≠0:=by
      have:((blk o k:Nat):Int) > 0:=by simpa using h
      omega
     obtain ⟨a,ha⟩:=Nx.ex (hI.rc hkl) h0
     obtain ⟨i,hi,rfl⟩:=hI.rank ha.2.1.up
     have hle:=hI.dm_le hi k hkl ha.2.1
     have hik:i < k:=by
      rcases Nat.lt_or_ge i k with h1 | h1
      ·exact h1
      ·exact absurd (by rw [show i=k by omega]) ha.1
     have hilt:=hI.kF hi
     obtain ⟨e3,he3,rfl,_⟩:=k0.pel (pn hblt)
     rw [uN ha] at he3
     obtain ⟨e4,he4,hR4⟩:=hw.pel (hm i hik)
     cases hR4
     have hval:tt (DmI f.blocks n (blk o i))=tt (DmI f.blocks n (blk o k)):=dQ ⟨fun h1=>⟨h1.1,h1.2.trans ha.2.1⟩,fun h1=>⟨h1.1,ha.2.2 _ (fun e=>hn (by have:=h1.1; omega)) h1.2⟩⟩
     rw [hval] at he4
     refine aa.nat k0.slLen (aa.nat anb (aa.chk ?_ (aa.tvs he3 (aa.chk rfl (aa.nat hw.slLen (aa.nat (ak (k:=blk o i) (by omega)) (aa.chk ?_ (aa.tvs he4 (aa.chk rfl ?_)))))))))
     ·rw [k0.slSize,l6]; simp; omega
     ·rw [hw.slSize]; simp; omega
     exact aa.nat hw.slLen (aa.nat anb (aa.chk cM (aa.tvs he2 (aa.chk rfl (aa.tv c1 (aa.tv (inc hkl (by omega)) (f58_0_J hy)))))))
    ·have h0:blk o k=0:=by
      have:¬ ((blk o k:Nat):Int) > 0:=by simpa using h
      omega
     have ht:tt (DmI f.blocks n (blk o k))=false:=dU fun h1=>by
      have h2:=h1.2
      rw [h0] at h2
      have:=h2.anti (.zero h2.up)
      have:=h1.1
      omega
     rw [ht] at c1
     exact aa.nat hw.slLen (aa.nat anb (aa.chk cM (aa.tvs he2 (aa.chk rfl (aa.tv c1 (aa.tv (inc hkl (by omega)) (f58_0_J hy)))))))
 obtain ⟨y,hy,hr⟩:=loop o.length 0 _ _ (by omega) (im (n:=f.blocks.length) (by omega)) (by simp) (fun i hi=>absurd hi (Nat.not_lt_zero _)) (fun c hc _=>by simp [hc])
 refine ⟨y,?_,hr⟩
 have hnb:ah (I (f.blocks.length:Nat))=some f.blocks.length:=ak (by omega)
 refine bc.of (f58_MR _ _) ?_
 unfold f58_M
 exact aa.chk rfl (aa.call hv0 (aa.chk (a9 k0.isSl) (aa.tv hb.len (aa.nat hnb (aa.nat hnb (aa.chk (by simp; omega) (aa.call hv4 (aa.chk (a9 k4.isSl) (aa.tv k4.len (f58_0_J hy))))))))))
theorem rIs8 {q:Option Bool} {e:List TV} {f:DFunc} (he:RFunc q e f) (hs:f.blocks.length≤1000) (a c:Int):bc prog 33 [.agg e,I a,I c] (B (tt (0≤c∧DmI f.blocks a c.toNat))):=by
 obtain ⟨v,hv,k⟩:=zl he hs a
 obtain ⟨b,rfl,hb,_⟩:=he
 refine bc.of (f33_MR _ _ _) ?_
 unfold f33_M
 refine aa.chk rfl (aa.call hv (aa.chk (a9 k.isSl) (aa.tv rfl (aa.ite rfl (fun h=>?_) fun h=>?_))))
 ·have h0:0≤c:=by simpa using h
  refine aa.tv k.len (aa.tv rfl (aa.ite rfl (fun h=>?_) fun h=>?_))
  ·have hc:c < (f.blocks.length:Int):=by rw [gz] at h; simpa using h
   have hcl:c.toNat < f.blocks.length:=by omega
   obtain ⟨e1,he1,hR⟩:=k.pel (jh (n:=a) hcl)
   cases hR
   refine aa.nat k.slLen (aa.nat (mg h0 (by constructor <;> omega)) (aa.chk ?_ (aa.tvs he1 (aa.chk rfl (lG.2 ?_)))))
   ·rw [k.slSize,gz]; simp; omega
   ·show B (tt (DmI f.blocks a c.toNat))=B (tt (0≤c∧DmI f.blocks a c.toNat))
    exact congrArg (fun b:Bool=>B b) (dQ (p:=DmI f.blocks a c.toNat) (p':=0≤c∧DmI f.blocks a c.toNat) ⟨fun h=>⟨h0,h⟩,fun h=>h.2⟩)
  ·have hc:¬ c < (f.blocks.length:Int):=by rw [gz] at h; simpa using h
   exact xR fun h=>by have:=h.2.lt; omega
 ·have h0:¬ 0≤c:=by simpa using h
  exact xR fun h=>h0 h.1
theorem rEdge8 {q : Option Bool} {e : List TV} {f : DFunc} (he : RFunc q e f) (hs : f.blocks.length ≤ 1000) (n : Int) : ∃ y, bc prog 35 [.agg e, I n] y ∧ RInts (some true) y (tN f.blocks n) := by
 obtain ⟨v,hv,kv⟩:=zl he hs n
 have he0:=he
 obtain ⟨b,rfl,hb,_⟩:=he
 have last:∀ (d k:Nat) (wo w:TV) (M:List Bool),k + d=f.blocks.length→RBools (some true) wo M→M.length=f.blocks.length→(∀ g,g < f.blocks.length→M[g]? = some (tt (EdP f.blocks n f.blocks.length 0 g)))→RInts (some true) w (kJ f.blocks n k) →
   ∃ y,aa prog 35 (f35_3 (I f.blocks.length) (I k) wo w) y∧RInts (some true) y (tN f.blocks n):=by
  intro d
  induction d with
  | zero =>
   intro k wo w M hk hwo hl hm hw
   have hk:k=f.blocks.length:=by omega
   subst hk
   rw [Az] at hw
   refine ⟨w,?_,hw⟩
   unfold f35_3
   exact aa.tv rfl (aa.ite bU nofun fun _=>aa.chk (hw.own fun _ _ h=>h.own) aa.ret)
  | succ d ih =>
   intro k wo w M hk hwo hl hm hw
   have hkl:k < f.blocks.length:=by omega
   obtain ⟨e1,he1,hR⟩:=hwo.pel (hm k hkl)
   cases hR
   have hlen:=AI f.blocks n k
   by_cases hp:EdP f.blocks n f.blocks.length 0 k
   ·obtain ⟨w',h1,h2⟩:=hw.app (e:=[I k]) (a:=(k:Int)) ⟨rfl,by constructor <;> omega⟩ (by omega)
    rw [← AB hp] at h2
    obtain ⟨y,hy,hr⟩:=ih (k + 1) wo w' M (by omega) hwo hl hm h2
    refine ⟨y,?_,hr⟩
    unfold f35_3
    refine aa.tv rfl (aa.ite (bS hkl) (fun _=>aa.nat hwo.slLen (aa.nat (ak (by omega)) (aa.chk ?_ (aa.tvs he1 (aa.chk rfl (aa.ite (v:=true) (by rw [eC hp]; rfl) (fun _=>?_) nofun)))))) nofun)
    ·rw [hwo.slSize]; simp; omega
    ·exact aa.chk rfl (aa.rws rfl (aa.tv h1 (aa.tv (inc hkl (by omega)) (f35_3_J hy))))
   ·rw [← AY hp] at hw
    obtain ⟨y,hy,hr⟩:=ih (k + 1) wo w M (by omega) hwo hl hm hw
    refine ⟨y,?_,hr⟩
    unfold f35_3
    refine aa.tv rfl (aa.ite (bS hkl) (fun _=>aa.nat hwo.slLen (aa.nat (ak (by omega)) (aa.chk ?_ (aa.tvs he1 (aa.chk rfl (aa.ite (v:=false) (by rw [dU hp]; rfl) nofun fun _=>?_)))))) nofun)
    ·rw [hwo.slSize]; simp; omega
    ·exact aa.tv (inc hkl (by omega)) (f35_3_J hy)
 have outer : ∀ (d k : Nat) (wo : TV) (M : List Bool), k + d = f.blocks.length → RBools (some true) wo M → M.length = f.blocks.length → (∀ g, g < f.blocks.length → M[g]? = some (tt (EdP f.blocks n k 0 g))) →
   ∃ y,aa prog 35 (f35_0 (I n) (I f.blocks.length) (I k) (I f.params) (I f.regs) b v wo) y∧RInts (some true) y (tN f.blocks n):=by
  intro d
  induction d with
  | zero =>
   intro k wo M hk hwo hl hm
   have hk:k=f.blocks.length:=by omega
   subst hk
   obtain ⟨y,hy,hr⟩:=last f.blocks.length 0 wo (.lit au) M (by omega) hwo hl hm (by
    have:kJ f.blocks n 0=[]:=by unfold kJ; split <;> simp [jW]
    rw [this]; exact .nil)
   refine ⟨y,?_,hr⟩
   unfold f35_0
   refine aa.tv rfl (aa.ite bU nofun fun _=>f35_2_J ?_)
   unfold f35_2
   refine aa.tv hwo.len (aa.chk rfl ?_)
   rw [hl]
   exact f35_3_J hy
  | succ d ih =>
   intro k wo M hk hwo hl hm
   have hkl:k < f.blocks.length:=by omega
   obtain ⟨e1,he1,hR⟩:=kv.pel (jh (n:=n) hkl)
   cases hR
   have ank:ah (I (k:Nat))=some k:=ak (by omega)
   by_cases hd:DmI f.blocks n k
   ·obtain ⟨vn,hvn,kn⟩:=r71 he0 ((k:Nat):Int)
    rw [jq] at kn
    have hnl:=fS f.blocks k
    have inner : ∀ (c j : Nat) (wo : TV) (M : List Bool), j + c = (ap f.blocks k).length → RBools (some true) wo M → M.length = f.blocks.length → (∀ g, g < f.blocks.length → M[g]? = some (tt (EdP f.blocks n k j g))) →
      ∃ y,aa prog 35 (f35_1 (I n) (I f.blocks.length) (I k) (I (ap f.blocks k).length) (I j) (I f.params) (I f.regs) b v wo vn) y∧RInts (some true) y (tN f.blocks n):=by
     intro c
     induction c with
     | zero =>
      intro j wo M hj hwo hl hm
      have hj:j=(ap f.blocks k).length:=by omega
      subst hj
      obtain ⟨y,hy,hr⟩:=ih (k + 1) wo M (by omega) hwo hl (fun g hg=>by rw [hm g hg,dQ xb])
      refine ⟨y,?_,hr⟩
      unfold f35_1
      exact aa.tv rfl (aa.ite bU nofun fun _=>aa.tv (inc hkl (by omega)) (f35_0_J hy))
     | succ c ihc =>
      intro j wo M hj hwo hl hm
      have hjl:j < (ap f.blocks k).length:=by omega
      obtain ⟨g0,hgg⟩:∃ g,g=(ap f.blocks k)[j]:=⟨_,rfl⟩
      have hg0:(ap f.blocks k)[j]? = some g0:=by rw [hgg]; exact D6 hjl
      have hgt:=aY (Ee hg0)
      obtain ⟨g,rfl⟩:∃ g:Nat,g0=(g:Int):=⟨g0.toNat,by omega⟩
      have hgl:g < f.blocks.length:=by have:=hgt.2; omega
      have hgM:g < M.length:=by omega
      obtain ⟨e2,he2,rfl,_⟩:=kn.pel hg0
      obtain ⟨e3,he3,hR3⟩:=hwo.pel (D6 hgM)
      cases hR3
      obtain ⟨e4,he4,hR4⟩:=kv.pel (jh (n:=n) hgl)
      cases hR4
      obtain ⟨wo',c1,c2⟩:=hwo.fG he3 (d:=0) (ys:=[B (tt (EdP f.blocks n k (j + 1) g))]) (a:=tt (EdP f.blocks n k (j + 1) g)) rfl
      obtain ⟨y,hy,hr⟩:=ihc (j + 1) wo' _ (by omega) c2 (by rw [List.length_set]; exact hl) (fun g' hg'=>by
       by_cases e:g=g'
       ·subst e; exact List.getElem?_set_self hgM
       ·rw [List.getElem?_set_ne e,hm g' hg',dQ (BE hd hg0 (Ne.symm e))])
      refine ⟨y,?_,hr⟩
      have ang:ah (nth TV.hole [I ((g:Nat):Int)] 0)=some g:=ak (by omega)
      have cM:(Bool.and (slSize wo 1) (Nat.blt g M.length))=true:=by rw [hwo.slSize]; simp; omega
      unfold f35_1
      refine aa.tv rfl (aa.ite (bS hjl) (fun _=>?_) nofun)
      refine aa.nat kn.slLen (aa.nat (ak (by omega)) (aa.chk ?_ (aa.tvs he2 (aa.chk rfl (aa.tv rfl (aa.ite rfl (fun h=>?_) fun h=>?_))))))
      ·rw [kn.slSize]; simp; omega
      ·have hn:((g:Nat):Int)=n:=by simpa using h
       rw [eC ((yk hd hg0).2 (.inl hn))] at c1
       exact aa.nat hwo.slLen (aa.nat ang (aa.chk cM (aa.tvs he3 (aa.chk rfl (aa.tv c1 (aa.tv (inc hjl (by omega)) (f35_1_J hy)))))))
      ·have hn:¬ ((g:Nat):Int)=n:=by simpa using h
       have hval:tt (EdP f.blocks n k (j + 1) g)=!tt (DmI f.blocks n g):=by
        by_cases hdg:DmI f.blocks n g
        ·rw [eC hdg,dU]
         ·rfl
         ·rw [yk hd hg0]
          rintro (h | h)
          ·exact hn h
          ·exact h hdg
        ·rw [dU hdg,eC ((yk hd hg0).2 (.inr hdg))]; rfl
       rw [hval] at c1
       refine aa.nat kv.slLen (aa.nat ang (aa.chk ?_ (aa.tvs he4 (aa.chk rfl (aa.tv rfl (aa.nat hwo.slLen (aa.nat ang (aa.chk cM (aa.tvs he3 (aa.chk rfl (aa.tv c1 (aa.tv (inc hjl (by omega)) (f35_1_J hy)))))))))))))
       rw [kv.slSize,gz]; simp; omega
    obtain ⟨y,hy,hr⟩:=inner _ 0 wo M (Nat.zero_add _) hwo hl hm
    refine ⟨y,?_,hr⟩
    unfold f35_0
    refine aa.tv rfl (aa.ite (bS hkl) (fun _=>aa.nat kv.slLen (aa.nat ank (aa.chk ?_ (aa.tvs he1 (aa.chk rfl (aa.tv rfl (aa.ite (v:=false) (by rw [eC hd]; rfl) nofun fun _=>?_))))))) nofun)
    ·rw [kv.slSize,gz]; simp; omega
    ·exact aa.call hvn (aa.chk (a9 kn.isSl) (aa.tv kn.len (f35_1_J hy)))
   ·obtain ⟨y,hy,hr⟩:=ih (k + 1) wo M (by omega) hwo hl (fun g hg=>by rw [hm g hg,dQ (Ci hd)])
    refine ⟨y,?_,hr⟩
    unfold f35_0
    refine aa.tv rfl (aa.ite (bS hkl) (fun _=>aa.nat kv.slLen (aa.nat ank (aa.chk ?_ (aa.tvs he1 (aa.chk rfl (aa.tv rfl (aa.ite (v:=true) (by rw [dU hd]; rfl) (fun _=>?_) nofun))))))) nofun)
    ·rw [kv.slSize,gz]; simp; omega
    ·exact aa.tv (inc hkl (by omega)) (f35_0_J hy)
 obtain ⟨y,hy,hr⟩:=outer f.blocks.length 0 _ _ (by omega) (im (n:=f.blocks.length) (by omega)) (by simp) (fun g hg=>by
  rw [dU (by rintro ⟨⟨b,h,_⟩ | ⟨_,h⟩,_⟩; exact absurd h (Nat.not_lt_zero _); simp at h)]
  simp [hg])
 refine ⟨y,?_,hr⟩
 have hnb:ah (I (f.blocks.length:Nat))=some f.blocks.length:=ak (by omega)
 refine bc.of (f35_MR _ _) ?_
 unfold f35_M
 exact aa.chk rfl (aa.call hv (aa.chk (a9 kv.isSl) (aa.tv hb.len (aa.nat hnb (aa.nat hnb (aa.chk (by simp; omega) (aa.tv hb.len (f35_0_J hy))))))))
end Go.Ab.Q12
end
section
set_option maxRecDepth 10000
namespace Go.Ab
def RBL (q:Option Bool) (e:List TV) (l:List Bool):Prop:=∃ v,e=[v]∧RBools q v l
noncomputable def wA (bs:List DBlock):List (List Bool):=(List.range bs.length).map fun a:Nat=>rR bs (a:Int)
theorem vK (bs:List DBlock):(wA bs).length=bs.length:=by simp [wA]
theorem vD {bs:List DBlock} {a:Nat} (h:a < bs.length):(wA bs)[a]? = some (rR bs (a:Int)):=by simp [wA,h]
theorem s7 {α:Type} (l:List α) {n:Nat} (h:l.length=n):l.take n=l:=by rw [← h]; exact List.take_length
end Go.Ab
namespace Go.Ab.Q12
open Go Go.Ab Go.Proofs
theorem rAllR8 {q : Option Bool} {e : List TV} {f : DFunc} (he : RFunc q e f) (hs : f.blocks.length ≤ 1000) : ∃ y, bc prog 57 [.agg e] y ∧ RL (some true) 1 (RBL (some true)) y (wA f.blocks) := by
 obtain ⟨v0,M0,hv0,k0,F0⟩:=r84 he hs
 have he0:=he
 obtain ⟨b,rfl,hb,_⟩:=he
 have outer : ∀ (d a : Nat) (w : TV), a + d = f.blocks.length → RL (some true) 1 (RBL (some true)) w ((wA f.blocks).take a) → ∃ y, aa prog 57 (f57_0 (I a) (I f.params) (I f.regs) b v0 w) y ∧ RL (some true) 1 (RBL (some true)) y (wA f.blocks) := by
  intro d
  induction d with
  | zero =>
   intro a w ha hw
   have ha:a=f.blocks.length:=by omega
   subst ha
   rw [s7 _ (vK _)] at hw
   refine ⟨w,?_,hw⟩
   unfold f57_0
   exact aa.tv hb.len (aa.tv rfl (aa.ite bU nofun fun _=>aa.ret))
  | succ d ih =>
   intro a w ha hw
   have hal:a < f.blocks.length:=by omega
   obtain ⟨v3,M3,hv3,k3,F3⟩:=r83 he0 hs ((a:Nat):Int)
   have inner : ∀ (c j : Nat) (wr : TV) (M : List Bool), j + c = f.blocks.length → RBools (some true) wr M → M.length = f.blocks.length → (∀ g, g < j → M[g]? = some (tt (DmI f.blocks (a : Int) g))) →
     ∃ y,aa prog 57 (f57_1 (I a) (I j) (I f.params) (I f.regs) b v0 w v3 wr) y∧RL (some true) 1 (RBL (some true)) y (wA f.blocks):=by
    intro c
    induction c with
    | zero =>
     intro j wr M hj hwr hl hm
     have hj:j=f.blocks.length:=by omega
     subst hj
     have e:M=rR f.blocks (a:Int):=by
      apply List.ext_getElem?
      intro g
      by_cases hg:g < f.blocks.length
      ·rw [jh hg,hm g hg]
      ·rw [Eh (by omega),Eh (by rw [gz]; omega)]
     subst e
     obtain ⟨w',h1,h2⟩:=hw.app (e:=[wr]) (a:=rR f.blocks (a:Int)) ⟨wr,rfl,hwr⟩ (by rw [List.length_take,vK]; omega)
     rw [← jB (vD hal)] at h2
     obtain ⟨y,hy,hr⟩:=ih (a + 1) w' (by omega) h2
     refine ⟨y,?_,hr⟩
     unfold f57_1
     refine aa.tv hb.len (aa.tv rfl (aa.ite bU nofun fun _=>f57_2_J ?_))
     unfold f57_2
     exact aa.rws rfl (aa.tv h1 (aa.tv (inc hal (by omega)) (f57_0_J hy)))
    | succ c ihc =>
     intro j wr M hj hwr hl hm
     have hjl:j < f.blocks.length:=by omega
     have hjM:j < M.length:=by omega
     have hj0:j < M0.length:=by have:=F0.1; omega
     have hj3:j < M3.length:=by have:=F3.1; omega
     obtain ⟨e1,he1,hR1⟩:=k0.pel (D6 hj0)
     cases hR1
     obtain ⟨e2,he2,hR2⟩:=hwr.pel (D6 hjM)
     cases hR2
     obtain ⟨e3,he3,hR3⟩:=k3.pel (D6 hj3)
     cases hR3
     have r0:M0[j]=true ↔ Rc f.blocks (-1) j:=by rw [← F0.2 j,D6 hj0]; simp
     have r3:M3[j]=true ↔ Rc f.blocks ((a:Nat):Int) j:=by rw [← F3.2 j,D6 hj3]; simp
     obtain ⟨wr',c1,c2⟩:=hwr.fG he2 (d:=0) (ys:=[B (tt (DmI f.blocks (a:Int) j))]) (a:=tt (DmI f.blocks (a:Int) j)) rfl
     obtain ⟨y,hy,hr⟩:=ihc (j + 1) wr' _ (by omega) c2 (by rw [List.length_set]; exact hl) (fun g hg=>by
      by_cases e:j=g
      ·subst e; exact List.getElem?_set_self hjM
      ·rw [List.getElem?_set_ne e]; exact hm g (by omega))
     refine ⟨y,?_,hr⟩
     have anj:ah (I (j:Nat))=some j:=ak (by omega)
     have cM:(Bool.and (slSize wr 1) (Nat.blt j M.length))=true:=by rw [hwr.slSize]; simp; omega
     unfold f57_1
     refine aa.tv hb.len (aa.tv rfl (aa.ite (bS hjl) (fun _=>?_) nofun))
     refine aa.nat k0.slLen (aa.nat anj (aa.chk ?_ (aa.tvs he1 (aa.chk rfl (aa.ite rfl (fun h=>?_) fun h=>?_)))))
     ·rw [k0.slSize]; simp; omega
     ·have hrc:Rc f.blocks (-1) j:=r0.1 h
      refine aa.tv rfl (aa.ite rfl (fun h=>?_) fun h=>?_)
      ·have haj:a=j:=by
        have:((a:Nat):Int)=((j:Nat):Int):=by simpa using h
        omega
       rw [eC (f9.2 ⟨hrc,.inl haj⟩)] at c1
       exact aa.nat hwr.slLen (aa.nat anj (aa.chk cM (aa.tvs he2 (aa.chk rfl (aa.tv c1 (aa.tv (inc hjl (by omega)) (f57_1_J hy)))))))
      ·have haj:¬ a=j:=by
        have:¬ ((a:Nat):Int)=((j:Nat):Int):=by simpa using h
        omega
       have hval:tt (DmI f.blocks (a:Int) j)=!M3[j]:=by
        cases hM:M3[j] with
        | true =>
         refine dU fun h=>?_
         rcases (f9.1 h).2 with h | h
         ·exact haj h
         ·exact h (r3.1 hM)
        | false=>exact eC (f9.2 ⟨hrc,.inr fun h=>by rw [r3.2 h] at hM; cases hM⟩)
       rw [hval] at c1
       refine aa.nat k3.slLen (aa.nat anj (aa.chk ?_ (aa.tvs he3 (aa.chk rfl (aa.tv rfl (aa.nat hwr.slLen (aa.nat anj (aa.chk cM (aa.tvs he2 (aa.chk rfl (aa.tv c1 (aa.tv (inc hjl (by omega)) (f57_1_J hy)))))))))))))
       rw [k3.slSize]; simp; omega
     ·rw [dU fun hd=>by
       have:=r0.2 (f9.1 hd).1
       have h:M0[j]=false:=h
       rw [h] at this
       cases this] at c1
      exact aa.nat hwr.slLen (aa.nat anj (aa.chk cM (aa.tvs he2 (aa.chk rfl (aa.tv c1 (aa.tv (inc hjl (by omega)) (f57_1_J hy)))))))
   obtain ⟨y,hy,hr⟩:=inner f.blocks.length 0 _ _ (by omega) (im (n:=f.blocks.length) (by omega)) (by simp) (fun g hg=>absurd hg (Nat.not_lt_zero _))
   refine ⟨y,?_,hr⟩
   have hnb:ah (I (f.blocks.length:Nat))=some f.blocks.length:=ak (by omega)
   unfold f57_0
   exact aa.tv hb.len (aa.tv rfl (aa.ite (bS hal) (fun _=>aa.call hv3 (aa.chk (a9 k3.isSl) (aa.tv hb.len (aa.nat hnb (aa.nat hnb (aa.chk (by simp; omega) (f57_1_J hy))))))) nofun))
 obtain ⟨y,hy,hr⟩:=outer f.blocks.length 0 (.lit au) (by omega) (by simpa using RL.nil)
 refine ⟨y,?_,hr⟩
 refine bc.of (f57_MR _) ?_
 unfold f57_M
 exact aa.chk rfl (aa.call hv0 (aa.chk (a9 k0.isSl) (aa.chk rfl (f57_0_J hy))))
end Go.Ab.Q12
end
section
set_option maxRecDepth 100000
namespace Go.Ab.Q12
open Go Go.Ab Go.Proofs
abbrev Cw (k to els:Int):DBlock:=⟨false,⟨0,[],false,false⟩,[],⟨k,0,0,0,[],to,els,0⟩⟩
abbrev i8:DFunc:=⟨0,1,[Cw 3 1 2,Cw 2 3 0,Cw 2 3 0,Cw 1 0 0]⟩
abbrev wE (k to els:Int):List TV:=[B false,I 0,.lit au,B false,B false,.lit au,I k,I 0,I 0,I 0,.lit au,I to,I els,I 0]
abbrev zL:List TV:=[I 0,I 1,.sl false 14 [wE 3 1 2,wE 2 3 0,wE 2 3 0,wE 1 0 0]]
theorem zb {k to els:Int} (h1:inI k) (h2:inI to) (h3:inI els):RBlock (some false) (wE k to els) (Cw k to els) :=
 have z:inI 0:=⟨by decide,by decide⟩
 ⟨.lit au,.lit au,.lit au,rfl,.nil,z,.nil,.nil,h1,z,z,z,h2,h3,z⟩
theorem Bn:RFunc (some false) zL i8:=by
 have hi:∀ {n:Nat},n < 100→inI (n:Int):=fun h=>by constructor <;> omega
 refine ⟨_,rfl,.inr ⟨false,_,rfl,fun _ h=>by cases h; rfl,?_,by decide⟩,hi (n:=0) (by omega),hi (n:=1) (by omega)⟩
 exact .cons (zb (hi (n:=3) (by omega)) (hi (n:=1) (by omega)) (hi (n:=2) (by omega))) (.cons (zb (hi (n:=2) (by omega)) (hi (n:=3) (by omega)) (hi (n:=0) (by omega))) (.cons (zb (hi (n:=2) (by omega)) (hi (n:=3) (by omega)) (hi (n:=0) (by omega))) (.cons (zb (hi (n:=1) (by omega)) (hi (n:=0) (by omega)) (hi (n:=0) (by omega))) .nil)))
theorem awkA:bc prog 57 [.agg zL] (.sl true 1 [[.sl true 1 [[B true],[B true],[B true],[B true]]],[.sl true 1 [[B false],[B true],[B false],[B false]]],[.sl true 1 [[B false],[B false],[B true],[B false]]],[.sl true 1 [[B false],[B false],[B false],[B true]]]]):=⟨40,by kernel_rfl⟩
theorem wd {a b : Nat} (ha : a < 4) (hb : b < 4) : Dm i8.blocks a b ↔ (a = 0 ∨ a = b) := by
  obtain ⟨y,h,k⟩:=rAllR8 Bn (by decide)
  have:=h.det awkA
  subst this
  obtain ⟨e1,he1,v,rfl,hv⟩:=k.pel (vD (a:=a) (bs:=i8.blocks) ha)
  obtain ⟨e2,he2,hR⟩:=hv.pel (jh (n:=(a:Int)) (bs:=i8.blocks) hb)
  cases hR
  rw [dQ (f9 (bs:=i8.blocks) (n:=a) (b:=b))] at he2
  have h4:a=0∨a=1∨a=2∨a=3:=by omega
  have h5:b=0∨b=1∨b=2∨b=3:=by omega
  rcases h4 with rfl | rfl | rfl | rfl <;> (
    have e:=(show Go.Ab.pel _ _=some _ from rfl).symm.trans he1
    injection e with e
    injection e with e
    subst e
    rcases h5 with rfl | rfl | rfl | rfl <;> (
      have e:=(show Go.Ab.pel _ _=some _ from rfl).symm.trans he2
      injection e with e
      injection e with e
      injection e with e
      injection e with e
      first
        | (have:=sD.1 e.symm; simpa using this)
        | (have hn : ¬ Dm i8.blocks _ _ := fun hd => by rw [eC hd] at e; cases e
           simpa using hn)))
theorem awkN {b:Nat} (h0:b≠0) (hb:b < 4):ovN i8.blocks b=0 :=
 uN (a:=0) ⟨fun e=>h0 e.symm,(wd (by omega) hb).2 (.inl rfl),fun c hc hd=>by
  have hc4:c < 4:=hd.up.lt
  rcases (wd hc4 hb).1 hd with h | h
  ·subst h; exact (wd (by omega) (by omega)).2 (.inl rfl)
  ·exact absurd h hc⟩
theorem awkV:iI i8.blocks=[-1,0,0,0]:=by
 have h0:ovN i8.blocks 0=-1:=qQ fun h=>h.2 rfl
 show [ovN i8.blocks 0,ovN i8.blocks 1,ovN i8.blocks 2,ovN i8.blocks 3]=_
 rw [h0,awkN (by omega) (by omega),awkN (by omega) (by omega),awkN (by omega) (by omega)]
end Go.Ab.Q12
end
section
set_option maxRecDepth 100000
namespace Go.Ab.Q12
open Go Go.Ab Go.Proofs
theorem awkX {b:Nat} {g:Int} (h:Dm i8.blocks 1 b) (hg:g ∈ ap i8.blocks b):g=3:=by
 have hb:b < 4:=h.1.lt
 rcases (wd (by omega) hb).1 h with h | h
 ·cases h
 ·subst h
  have e:ap i8.blocks 1=[3]:=rfl
  rw [e] at hg
  simpa using hg
theorem awkP {k:Nat}:ua i8.blocks 1 k ↔ k=3:=by
 constructor
 ·rintro ⟨⟨b,h,hg⟩,_⟩
  have:=awkX h hg
  omega
 ·rintro rfl
  refine ⟨⟨1,(wd (by omega) (by omega)).2 (.inr rfl),?_⟩,.inr fun h=>?_⟩
  ·have e:ap i8.blocks 1=[3]:=rfl
   rw [e]; simp
  ·rcases (wd (by omega) (by omega)).1 h with h | h <;> cases h
theorem awkW:tN i8.blocks 1=[3]:=by
 show jW i8.blocks 1 4=[3]
 unfold jW
 rw [List.filter_congr (q:=fun i=>decide (i=3)) fun i _=>by rw [decide_eq_decide]; exact awkP]
 rfl
theorem CK:bc prog 30 [] (B true):=by
 have hs:i8.blocks.length≤1000:=by decide
 have hi:∀ {n:Nat},n < 100→inI (n:Int):=fun h=>by constructor <;> omega
 have l0:RInts (some true) (.sl true 1 [[I (-1)],[I 0],[I 0],[I 0]]) [-1,0,0,0] :=
  .inr ⟨true,_,rfl,fun _ h=>by cases h; rfl,.cons ⟨rfl,by decide,by decide⟩ (.cons ⟨rfl,hi (n:=0) (by omega)⟩ (.cons ⟨rfl,hi (n:=0) (by omega)⟩ (.cons ⟨rfl,hi (n:=0) (by omega)⟩ .nil))),by decide⟩
 have l1:RInts (some true) (.sl true 1 [[I 3]]) [3]:=.inr ⟨true,_,rfl,fun _ h=>by cases h; rfl,.cons ⟨rfl,hi (n:=3) (by omega)⟩ .nil,by decide⟩
 obtain ⟨y0,h0,k0⟩:=yc Bn hs
 rw [awkV] at k0
 obtain ⟨y1,h1,k1⟩:=rEdge8 Bn hs 1
 rw [awkW] at k1
 have h2:=rIs8 Bn hs 0 3
 rw [eC ⟨by omega,(f9 (n:=0)).2 ((wd (by omega) (by decide)).2 (.inl rfl))⟩] at h2
 have h3:=rIs8 Bn hs 1 3
 rw [dU fun h=>by rcases (wd (a:=1) (b:=3) (by omega) (by decide)).1 ((f9 (n:=1)).1 h.2) with h | h <;> cases h] at h3
 refine bc.of f30_MR ?_
 unfold f30_M
 refine aa.call (xs:=[.agg zL]) h0 (aa.chk (a9 k0.isSl) (aa.call (xs:=[frz y0,frz (.sl true 1 [[I (-1)],[I 0],[I 0],[I 0]])]) (uE k0 l0) (aa.chk rfl (aa.ite (v:=true) rfl (fun _=>?_) nofun))))
 refine aa.call (xs:=[.agg zL,I 1]) h1 (aa.chk (a9 k1.isSl) (aa.call (xs:=[frz y1,frz (.sl true 1 [[I 3]])]) (uE k1 l1) (aa.chk rfl (aa.ite (v:=true) rfl (fun _=>?_) nofun))))
 refine aa.call (xs:=[.agg zL,I 0,I 3]) h2 (aa.chk rfl (aa.ite (v:=true) rfl (fun _=>?_) nofun))
 exact aa.call (xs:=[.agg zL,I 1,I 3]) h3 (aa.chk rfl (aa.tv rfl aa.ret))
end Go.Ab.Q12
end

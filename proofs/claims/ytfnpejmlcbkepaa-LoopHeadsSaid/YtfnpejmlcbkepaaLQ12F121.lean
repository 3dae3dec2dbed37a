import Derived.Test.YtfnpejmlcbkepaaLQ12F88
import Derived.Test.YtfnpejmlcbkepaaLQ12F70
set_option linter.all false
section
set_option maxRecDepth 10000
namespace Go.Ab
theorem RL.E6 {α:Type} {q:Option Bool} {s:Nat} {R:List TV->α->Prop} {x:TV} {l:List α} (h:RL q s R x l) (hl:l≠[]):∃ o xs,x=.sl o s xs/\F2 R xs l:=by
 rcases h with ⟨_,rfl⟩ | ⟨o,xs,rfl,_,h,_⟩
 ·exact absurd rfl hl
 ·exact ⟨o,xs,rfl,h⟩
def fT (p:Nat->Nat) (N n:Nat):List Int:=(List.range N).map fun i=>if i≠0/\i < n then ((p i:Nat):Int) else 0
theorem jW {p:Nat->Nat} {N n i:Nat} (h:i < N):(fT p N n)[i]? = some (if i≠0/\i < n then ((p i:Nat):Int) else 0):=by simp [fT,h]
theorem we (p:Nat->Nat) (N:Nat):fT p N 1=List.replicate N 0:=by
 apply List.ext_getElem?
 intro i
 rw [List.getElem?_replicate]
 by_cases h:i < N
 ·rw [jW h,if_pos h,if_neg (by omega)]
 ·rw [if_neg h,Fj (by simp [fT]; omega)]
theorem yd {p:Nat->Nat} {N n:Nat} (h0:n≠0) (h:n < N):fT p N (n + 1)=(fT p N n).set n ((p n:Nat):Int):=by
 apply List.ext_getElem?
 intro i
 by_cases hi:i < N
 ·rw [jW hi]
  by_cases e:n=i
  ·subst e
   rw [List.getElem?_set_self (by simp [fT]; exact h),if_pos ⟨h0,by omega⟩]
  ·rw [List.getElem?_set_ne e,jW hi]
   by_cases h2:i≠0/\i < n
   ·rw [if_pos h2,if_pos ⟨h2.1,by omega⟩]
   ·rw [if_neg h2,if_neg (by omega)]
 ·rw [Fj (by simp [fT]; omega),Fj (by simp [fT]; omega)]
theorem zn (bs:List DBlock) (o:List Int) {n:Nat} (h:o.length<=n):ii o.length (fT (p0L bs o) o.length n) (p0Z bs o):=by
 refine ⟨by simp [fT],fun i hi=>?_⟩
 rw [jW hi]
 unfold p0Z
 by_cases h0:i=0
 ·rw [if_pos h0,if_neg (by omega)]; rfl
 ·rw [if_neg h0,if_pos ⟨h0,by omega⟩]
theorem ii.upd {N:Nat} {l:List Int} {T:Nat->Nat} (h:ii N l T) {m v:Nat} (hm:m < N):ii N (l.set m ((v:Nat):Int)) (ni T m v):=by
 refine ⟨by rw [List.length_set]; exact h.1,fun n hn=>?_⟩
 by_cases e:m=n
 ·subst e; rw [ip,List.getElem?_set_self (by rw [h.1]; exact hm)]
 ·rw [gq (Ne.symm e),List.getElem?_set_ne e]; exact h.2 n hn
end Go.Ab
namespace Go.Ab.Q12
open Go Go.Ab Go.Proofs
theorem yO {y2 y3:TV} {q:Bool} {ov:List (List TV)} {o:List Int} (ho:F2 RI1 ov o) {a b r:Int} (h:Both o a b r):aa prog 91 (f91_0 (I a) (I b) y2 y3 (.sl q 1 ov)) (I r):=by
 induction h with
 | @done a =>
  unfold f91_0
  exact aa.tv rfl (aa.ite (v:=false) (by simp [asBool]) nofun fun _=>aa.ret)
 | @left a b a' r h1 h2 h3 h4 _ ih =>
  obtain ⟨e,he,rfl,_⟩:=ho.get h4
  unfold f91_0
  refine aa.tv rfl (aa.ite (v:=true) (by simp [asBool,h1]) (fun _=>aa.tv rfl (aa.ite (v:=true) (by simp [asBool]; omega) (fun _=>?_) nofun)) nofun)
  exact aa.tvs (v:=[I a']) (by simp [pidx,h3,he]) (aa.chk rfl (f91_0_J ih))
 | @right a b b' r h1 h2 h3 h4 _ ih =>
  obtain ⟨e,he,rfl,_⟩:=ho.get h4
  unfold f91_0
  refine aa.tv rfl (aa.ite (v:=true) (by simp [asBool,h1]) (fun _=>aa.tv rfl (aa.ite (v:=false) (by simp [asBool]; omega) nofun fun _=>?_)) nofun)
  exact aa.tvs (v:=[I b']) (by simp [pidx,h3,he]) (aa.chk rfl (f91_0_J ih))
theorem rBoth8 {x0 x1:TV} {q:Bool} {ov:List (List TV)} {o:List Int} (ho:F2 RI1 ov o) {a b r:Int} (h:Both o a b r):bj prog 91 [.agg [x0,x1,.sl q 1 ov],I a,I b] (I r):=by
 refine bj.of (f91_MR _ _ _) ?_
 unfold f91_M
 exact aa.chk rfl (f91_0_J (yO ho h))
theorem BB {y2 y3:TV} {q q':Bool} {ov ls:List (List TV)} {o l:List Int} (ho:F2 RI1 ov o) (hl:F2 RI1 ls l) (h1:l.length<=1000000):∀ (k:Nat) (v r:Int),k<=l.length->Bths o v (l.take k).reverse r ->
  aa prog 75 (f75_0 (I ((k:Int) - 1)) (.sl q' 1 ls) y2 y3 (.sl q 1 ov) (I v)) (I r):=by
 intro k
 induction k with
 | zero =>
  intro v r _ h
  cases h
  unfold f75_0
  exact aa.tv rfl (aa.ite (v:=false) (by simp [asBool]) nofun fun _=>aa.ret)
 | succ k ih =>
  intro v r hk h
  have hlt:k < l.length:=by omega
  rw [List.take_succ_eq_append_getElem hlt,List.reverse_append] at h
  simp only [List.reverse_cons,List.reverse_nil,List.nil_append,List.cons_append] at h
  cases h with
  | @cons _ n v' _ _ hb ht =>
   obtain ⟨e,he,rfl,hei⟩:=hl.get (E8 hlt)
   have e1:(((k + 1:Nat):Int) - 1)=(k:Int):=by omega
   rw [e1]
   have hsub:pbin (Kd.int IntKind.i64) BinOp.sub (I (k:Int)) (I 1)=some (I ((k:Int) - 1)):=by
    show some (I (IntKind.wrap .i64 ((k:Int) - 1)))=_
    rw [show IntKind.wrap .i64 ((k:Int) - 1)=(k:Int) - 1 by rw [IntKind.wrap_i64]; omega]
   unfold f75_0
   refine aa.tv rfl (aa.ite (v:=true) (by simp [asBool]) (fun _=>?_) nofun)
   exact aa.tvs (v:=[I l[k]]) (by simp [pidx,he]) (aa.chk rfl (aa.call (rBoth8 ho hb) (aa.chk rfl (aa.tv hsub (f75_0_J (ih v' r (by omega) ht))))))
theorem rAll8 {a b wv v:TV} {qa qb:Option Bool} {l:List Int} {T:Nat->Nat} {N:Nat} {ls:List Nat} (hw:RInts qa wv l) (hv:RInts qb v (aZ ls)) (hT:ii N l T) (hL:Low N T) (h0:ls≠[]) (hN:∀ p ∈ ls,p < N) (hN1:N<=1000000) (hl1:ls.length<=1000000) {r:Nat} (hr:AllP l (aZ ls) r) :
  bj prog 75 [.agg [a,b,wv],v] (I (r:Int)):=by
 have hpos:0 < N:=by
  cases ls with
  | nil=>exact absurd rfl h0
  | cons p ls=>exact Nat.lt_of_le_of_lt (Nat.zero_le _) (hN p Fe)
 have hlp:0 < ls.length:=List.length_pos_iff.2 h0
 have hcl:(aZ ls).length=ls.length:=by simp [aZ]
 obtain ⟨o1,xs,rfl,hf⟩:=hw.E6 (by rintro rfl; have:=hT.1; simp at this; omega)
 obtain ⟨o2,ys,rfl,hg⟩:=hv.E6 (by intro e; simp [aZ] at e; exact h0 e)
 obtain ⟨z,hz,hb⟩:=hr
 have hzl:(aZ ls)[ls.length - 1]? = some z:=by rw [List.getLast?_eq_getElem?,hcl] at hz; exact hz
 obtain ⟨e,he,rfl,hei⟩:=hg.get hzl
 have hsub:pbin (Kd.int IntKind.i64) BinOp.sub (I ((aZ ls).length:Nat)) (I 1)=some (I ((ls.length:Int) - 1)):=by
  show some (I (IntKind.wrap .i64 (((aZ ls).length:Int) - 1)))=_
  rw [hcl,show IntKind.wrap .i64 ((ls.length:Int) - 1)=(ls.length:Int) - 1 by rw [IntKind.wrap_i64]; omega]
 have hpi:pidx 1 (.sl o2 1 ys) (I ((ls.length:Int) - 1))=some [I z]:=by
  have e1:(((ls.length:Int) - 1)).toNat=ls.length - 1:=by omega
  simp [pidx,e1,he]
  omega
 refine bj.of (f75_MR _ _) ?_
 unfold f75_M
 refine aa.chk rfl (aa.tv hv.len (aa.tv hsub (aa.tvs hpi (aa.chk rfl (aa.chk rfl (aa.tv hv.len (aa.tv hsub (f75_0_J ?_))))))))
 have:=BB (y2:=a) (y3:=b) (q:=o1) (q':=o2) hf hg (by rw [hcl]; exact hl1) (aZ ls).length z r (Nat.le_refl _) (by rw [List.take_length]; exact hb)
 rw [hcl] at this
 exact this
theorem rRank8 {q:Option Bool} {e:List TV} {f:DFunc} (he:RFunc q e f) (hs:f.blocks.length<=1000):∃ v0 v1 v2 o l,bj prog 55 [.agg e] (.agg [v0,v1,v2])/\vZ f.blocks o/\RInts (some true) v0 o /\
  RL (some true) 1 (RIL (some true)) v1 ((List.range o.length).map (prL f.blocks o))/\RInts (some true) v2 l/\ii o.length l (p0Z f.blocks o):=by
 have he0:=he
 obtain ⟨b,rfl,hb,_⟩:=he
 obtain ⟨v0,o,hv0,k0,hO⟩:=r80 he0 hs
 have hI:=hO.keeps
 have hol:o.length<=1000:=Nat.le_trans hI.len hs
 obtain ⟨v1,hv1,k1⟩:=Cj he0 hs (k0.frz fun _ _ h=>h.frz) hI hol
 have loop:∀ (d n:Nat) (w:TV),o.length - n<=d->n≠0->RInts (some true) w (fT (p0L f.blocks o) o.length n)->∃ v2 l,aa prog 55 (f55_0 (I n) v0 v1 w) (.agg [v0,v1,v2])/\RInts (some true) v2 l/\ii o.length l (p0Z f.blocks o):=by
  intro d
  have fin:∀ (n:Nat) (w:TV),o.length<=n->n≠0->RInts (some true) w (fT (p0L f.blocks o) o.length n)->∃ v2 l,aa prog 55 (f55_0 (I n) v0 v1 w) (.agg [v0,v1,v2])/\RInts (some true) v2 l/\ii o.length l (p0Z f.blocks o):=by
   intro n w hn h0 hw
   refine ⟨w,_,?_,hw,zn f.blocks o hn⟩
   unfold f55_0
   refine aa.tv k0.len (aa.tv rfl (aa.ite (v:=false) (by simp [asBool]; omega) nofun fun _=>aa.chk ?_ aa.ret))
   have o0:=k0.own fun _ _ h=>h.own
   have o1:=k1.own fun _ _ h=>h.own
   have o2:=hw.own fun _ _ h=>h.own
   simp [bC,dz,o0,o1,o2]
  induction d with
  | zero=>intro n w hd h0 hw; exact fin n w (by omega) h0 hw
  | succ d ih =>
   intro n w hd h0 hw
   by_cases hn:n < o.length
   ·obtain ⟨p,hp,_⟩:=hI.low h0 hn
    have hne:prL f.blocks o n≠[]:=fun e=>by rw [e] at hp; cases hp
    have hlen:0 < (prL f.blocks o n).length:=List.length_pos_iff.2 hne
    obtain ⟨e1,he1,u,rfl,hu⟩:=k1.pel (i:=n) (a:=prL f.blocks o n) (by simp [hn])
    obtain ⟨e2,he2,rfl,hei⟩:=hu.pel (i:=0) (a:=((p0L f.blocks o n:Nat):Int)) (by simp only [aZ,Fd,p0_at hne,Fk])
    obtain ⟨e3,he3,rfl,_⟩:=hw.pel (jW hn)
    obtain ⟨w',c1,c2⟩:=hw.i6 he3 (d:=0) (ys:=[I (p0L f.blocks o n:Nat)]) (a:=((p0L f.blocks o n:Nat):Int)) ⟨rfl,hei⟩
    rw [<- yd h0 hn] at c2
    obtain ⟨v2,l,hy,r1,r2⟩:=ih (n + 1) w' (by omega) (by omega) c2
    refine ⟨v2,l,?_,r1,r2⟩
    have ann:ac (I (n:Nat))=some n:=ah (by omega)
    have hgp:=k1.deep he1 (j:=0) (z:=u) rfl
    unfold f55_0
    refine aa.tv k0.len (aa.tv rfl (aa.ite (v:=true) (by simp [asBool]; omega) (fun _=>?_) nofun))
    refine aa.nat k1.slLen (aa.nat ann (aa.chk ?_ (aa.tvs he1 (aa.chk (aJ hu.isSl) (aa.tv hgp (aa.nat hu.slLen (aa.nat (v:=0) rfl (aa.chk ?_ (aa.tv hgp (aa.tvs he2 (aa.chk rfl ?_)))))))))))
    ·rw [k1.slSize]; simp; omega
    ·rw [hu.slSize]; simp [aZ]; omega
    refine aa.nat hw.slLen (aa.nat ann (aa.chk ?_ (aa.tvs he3 (aa.chk rfl (aa.tv c1 (aa.tv (inc hn (by omega)) (f55_0_J hy)))))))
    rw [hw.slSize]; simp [fT]; omega
   ·exact fin n w (by omega) h0 hw
 obtain ⟨v2,l,hy,r1,r2⟩:=loop o.length 1 _ (by omega) (by omega) (by rw [we]; exact lN (n:=o.length) (a:=0) ⟨by decide,by decide⟩ (by omega))
 refine ⟨v0,v1,v2,o,l,?_,hO,k0,k1,r1,r2⟩
 have hn:ac (I (o.length:Nat))=some o.length:=ah (by omega)
 refine bj.of (f55_MR _) ?_
 unfold f55_M
 exact aa.chk rfl (aa.call hv0 (aa.chk (aJ k0.isSl) (aa.call hv1 (aa.chk (aJ k1.isSl) (aa.tv k0.len (aa.nat hn (aa.nat hn (aa.chk (by simp; omega) (f55_0_J hy)))))))))
section
variable {q:Option Bool} {b:TV} {f:DFunc} (hb:RL q 14 (RBlock q) b f.blocks) (hs:f.blocks.length<=1000) {v0 v1:TV} {o:List Int} (hI:OI f.blocks o) (hol:o.length<=1000) (k0:RInts (some true) v0 o) (k1:RL (some true) 1 (RIL (some true)) v1 ((List.range o.length).map (prL f.blocks o)))
include hb hs hI hol k0
theorem D5 {w4:TV} {l:List Int} {T:Nat->Nat} (k4:RInts (some true) w4 l) (hT:ii o.length l T) (hL:Low o.length T) (hov:∀ n,n≠0->n < o.length->ovN f.blocks (blk o n)=((blk o (T n):Nat):Int)):∀ (d n:Nat) (w:TV) (M:List Int),o.length - n<=d->n≠0->RInts (some true) w M->M.length=f.blocks.length ->
  (∀ i,i≠0->i < n->i < o.length->M[blk o i]? = some ((blk o (T i):Nat):Int))->(∀ b,b < f.blocks.length->(∀ i,i≠0->i < n->i < o.length->blk o i≠b)->M[b]? = some (-1)) ->
  ∃ y,aa prog 31 (f31_5 (I n) w v0 v1 w4) y/\RInts (some true) y (iW f.blocks):=by
 have fin : ∀ (n : Nat) (w : TV) (M : List Int), o.length ≤ n → n ≠ 0 → RInts (some true) w M → M.length = f.blocks.length →
   (∀ i,i≠0->i < n->i < o.length->M[blk o i]? = some ((blk o (T i):Nat):Int))->(∀ b,b < f.blocks.length->(∀ i,i≠0->i < n->i < o.length->blk o i≠b)->M[b]? = some (-1)) ->
   ∃ y,aa prog 31 (f31_5 (I n) w v0 v1 w4) y/\RInts (some true) y (iW f.blocks):=by
  intro n w M hn h0 hw hl hm hm2
  have e:M=iW f.blocks:=by
   apply List.ext_getElem?
   intro c
   by_cases hc:c < f.blocks.length
   ·rw [mB hc]
    by_cases hr:Rc f.blocks (-1) c/\c≠0
    ·obtain ⟨i,hi,rfl⟩:=hI.rank hr.1
     have hi0:i≠0:=fun e=>by
      subst e
      exact hr.2 (hI.zero (by rintro e; rw [e] at hc; cases hc)).2
     rw [hm i hi0 (by omega) hi,hov i hi0 hi]
    ·rw [BP hr]
     refine hm2 c hc fun i hi0 _ hi e=>hr ?_
     subst e
     refine ⟨hI.rc hi,fun e=>hi0 ?_⟩
     have hz:=hI.zero (by rintro e; rw [e] at hc; cases hc)
     exact hI.inj hi hz.1 (by rw [e,hz.2])
   ·rw [Fj (by omega),Fj (by rw [mA]; omega)]
  subst e
  refine ⟨w,?_,hw⟩
  unfold f31_5
  exact aa.tv k0.len (aa.tv rfl (aa.ite (v:=false) (by simp [asBool]; omega) nofun fun _=>aa.chk (hw.own fun _ _ h=>h.own) aa.ret))
 intro d
 induction d with
 | zero=>intro n w M hd h0 hw hl hm hm2; exact fin n w M (by omega) h0 hw hl hm hm2
 | succ d ih =>
  intro n w M hd h0 hw hl hm hm2
  by_cases hn:n < o.length
  ·have hlow:=hL n h0 hn
   have htn:T n < o.length:=by omega
   have hblt:=hI.fU hn
   have hbt:=hI.fU htn
   obtain ⟨e1,he1,rfl,_⟩:=k0.pel (hI.at_ hn)
   obtain ⟨e2,he2,rfl,_⟩:=k4.pel (hT.2 n hn)
   obtain ⟨e3,he3,rfl,hei⟩:=k0.pel (hI.at_ htn)
   have hbM:blk o n < M.length:=by omega
   obtain ⟨e4,he4,rfl,_⟩:=hw.pel (E8 hbM)
   obtain ⟨w',c1,c2⟩:=hw.i6 he4 (d:=0) (ys:=[I (blk o (T n):Nat)]) (a:=((blk o (T n):Nat):Int)) ⟨rfl,hei⟩
   obtain ⟨y,hy,hr⟩:=ih (n + 1) w' _ (by omega) (by omega) c2 (by rw [List.length_set]; exact hl) (fun i hi0 hin hil=>by
    by_cases e:i=n
    ·subst e; exact List.getElem?_set_self hbM
    ·rw [List.getElem?_set_ne (fun h=>e (hI.inj hil hn h.symm))]
     exact hm i hi0 (by omega) hil) (fun c hc hno=>by
    rw [List.getElem?_set_ne (hno n h0 (by omega) hn)]
    exact hm2 c hc fun i hi0 hin hil=>hno i hi0 (by omega) hil)
   refine ⟨y,?_,hr⟩
   have ann:ac (I (n:Nat))=some n:=ah (by omega)
   have hl4:l.length=o.length:=hT.1
   unfold f31_5
   refine aa.tv k0.len (aa.tv rfl (aa.ite (v:=true) (by simp [asBool]; omega) (fun _=>?_) nofun))
   refine aa.nat k0.slLen (aa.nat ann (aa.chk ?_ (aa.tvs he1 (aa.chk rfl (aa.nat k4.slLen (aa.nat ann (aa.chk ?_ (aa.tvs he2 (aa.chk rfl ?_)))))))))
   ·rw [k0.slSize]; simp; omega
   ·rw [k4.slSize]; simp; omega
   refine aa.nat k0.slLen (aa.nat (ah (k:=T n) (by omega)) (aa.chk ?_ (aa.tvs he3 (aa.chk rfl (aa.nat hw.slLen (aa.nat (ah (k:=blk o n) (by omega)) (aa.chk ?_ (aa.tvs he4 (aa.chk rfl (aa.tv c1 (aa.tv (inc hn (by omega)) (f31_5_J hy))))))))))))
   ·rw [k0.slSize]; simp; omega
   ·rw [hw.slSize]; simp; omega
  ·exact fin n w M (by omega) h0 hw hl hm hm2
theorem Eg {w4:TV} {l:List Int} {T:Nat->Nat} (k4:RInts (some true) w4 l) (hT:ii o.length l T) (hL:Low o.length T) (hov:∀ n,n≠0->n < o.length->ovN f.blocks (blk o n)=((blk o (T n):Nat):Int)):∀ (d k:Nat) (w:TV) (M:List Int),k + d=f.blocks.length->RInts (some true) w M->M.length=f.blocks.length->(∀ i,i < k->M[i]? = some (-1)) ->
  ∃ y,aa prog 31 (f31_3 (I f.blocks.length) (I k) w v0 v1 w4) y/\RInts (some true) y (iW f.blocks):=by
 intro d
 induction d with
 | zero =>
  intro k w M hk hw hl hm
  have hk:k=f.blocks.length:=by omega
  subst hk
  obtain ⟨y,hy,hr⟩:=D5 hb hs hI hol k0 (v1:=v1) k4 hT hL hov o.length 1 w M (by omega) (by omega) hw hl (fun i h0 h1=>by omega) (fun c hc _=>hm c hc)
  refine ⟨y,?_,hr⟩
  unfold f31_3
  refine aa.tv rfl (aa.ite bA nofun fun _=>f31_4_J ?_)
  unfold f31_4
  exact f31_5_J hy
 | succ d ih =>
  intro k w M hk hw hl hm
  have hkl:k < f.blocks.length:=by omega
  have hkM:k < M.length:=by omega
  obtain ⟨e4,he4,rfl,_⟩:=hw.pel (E8 hkM)
  obtain ⟨w',c1,c2⟩:=hw.i6 he4 (d:=0) (ys:=[I (-1)]) (a:=-1) ⟨rfl,⟨by decide,by decide⟩⟩
  obtain ⟨y,hy,hr⟩:=ih (k + 1) w' _ (by omega) c2 (by rw [List.length_set]; exact hl) (fun i hi=>by
   by_cases e:k=i
   ·subst e; exact List.getElem?_set_self hkM
   ·rw [List.getElem?_set_ne e]; exact hm i (by omega))
  refine ⟨y,?_,hr⟩
  unfold f31_3
  refine aa.tv rfl (aa.ite (bB hkl) (fun _=>?_) nofun)
  refine aa.nat hw.slLen (aa.nat (ah (by omega)) (aa.chk ?_ (aa.tvs he4 (aa.chk rfl (aa.tv c1 (aa.tv (inc hkl (by omega)) (f31_3_J hy)))))))
  rw [hw.slSize]; simp; omega
include k1
theorem Et {p0 : Nat → Nat} (hG : Grf o.length (prL f.blocks o) p0) : ∀ (z : Nat) (w : TV) (l : List Int) (T : Nat → Nat), high T o.length < z → RInts (some true) w l → ii o.length l T → TI o.length (prL f.blocks o) p0 1 T →
  ∃ y,aa prog 31 (f31_0 (I f.params) (I f.regs) b v0 v1 w) y/\RInts (some true) y (iW f.blocks):=by
 intro z
 induction z with
 | zero=>intro w l T hz; omega
 | succ z ihz =>
  intro w0 l0 T0 hz0 hw0 hT0 hTI0
  have sweep : ∀ (d n : Nat) (c : Bool) (w : TV) (l : List Int) (T : Nat → Nat), o.length - n ≤ d → n ≠ 0 → RInts (some true) w l → ii o.length l T → TI o.length (prL f.blocks o) p0 n T → high T o.length ≤ high T0 o.length → (c = true → high T o.length < high T0 o.length) →
    (c=false->∀ i,i≠0->i < n->i < o.length->∀ x,Up T (T i) x ↔ ∀ p ∈ prL f.blocks o i,Up T p x) ->
    ∃ y,aa prog 31 (f31_1 (B c) (I n) (I f.params) (I f.regs) b v0 v1 w) y/\RInts (some true) y (iW f.blocks):=by
   have fin:∀ (n:Nat) (c:Bool) (w:TV) (l:List Int) (T:Nat->Nat),o.length<=n->n≠0->RInts (some true) w l->ii o.length l T->TI o.length (prL f.blocks o) p0 n T->(c=true->high T o.length < high T0 o.length) ->
     (c=false->∀ i,i≠0->i < n->i < o.length->∀ x,Up T (T i) x ↔ ∀ p ∈ prL f.blocks o i,Up T p x) ->
     ∃ y,aa prog 31 (f31_1 (B c) (I n) (I f.params) (I f.regs) b v0 v1 w) y/\RInts (some true) y (iW f.blocks):=by
    intro n c w l T hn h0 hw hT hTI hc1 hc0
    have hl:l.length=o.length:=hT.1
    cases c with
    | true =>
     obtain ⟨y,hy,hr⟩:=ihz w l T (by have:=hc1 rfl; omega) hw hT (hTI.again hn)
     refine ⟨y,?_,hr⟩
     unfold f31_1
     exact aa.tv hw.len (aa.tv rfl (aa.ite (v:=false) (by simp [asBool]; omega) nofun fun _=>aa.ite (v:=true) rfl (fun _=>f31_0_J hy) nofun))
    | false =>
     obtain ⟨y,hy,hr⟩:=Eg hb hs hI hol k0 (v1:=v1) hw hT hTI.low (fun i h0 hi=>hI.ov hG hTI (fun n h0 hn=>hc0 rfl n h0 (by omega) hn) h0 hi) f.blocks.length 0 _ _ (by omega) (lN (n:=f.blocks.length) (a:=0) ⟨by decide,by decide⟩ (by omega)) (by simp) (fun i hi=>absurd hi (Nat.not_lt_zero _))
     refine ⟨y,?_,hr⟩
     have hnb:ac (I (f.blocks.length:Nat))=some f.blocks.length:=ah (by omega)
     unfold f31_1
     refine aa.tv hw.len (aa.tv rfl (aa.ite (v:=false) (by simp [asBool]; omega) nofun fun _=>aa.ite (v:=false) rfl nofun fun _=>f31_2_J ?_))
     unfold f31_2
     exact aa.tv hb.len (aa.nat hnb (aa.nat hnb (aa.chk (by simp; omega) (aa.tv (lN (n:=f.blocks.length) (a:=0) ⟨by decide,by decide⟩ (by omega)).len (by
      rw [List.length_replicate]
      exact f31_3_J hy)))))
   intro d
   induction d with
   | zero=>intro n c w l T hd h0 hw hT hTI _ hc1 hc0; exact fin n c w l T (by omega) h0 hw hT hTI hc1 hc0
   | succ d ih =>
    intro n c w l T hd h0 hw hT hTI hhi hc1 hc0
    by_cases hn:n < o.length
    ·have hl:l.length=o.length:=hT.1
     obtain ⟨p,hp,_⟩:=hI.low h0 hn
     have hne:prL f.blocks o n≠[]:=fun e=>by rw [e] at hp; cases hp
     obtain ⟨r,a1,a2,a3⟩:=all_ex hT hTI.low hne (hG.in_ n hn)
     obtain ⟨e1,he1,u,rfl,hu⟩:=k1.pel (i:=n) (a:=prL f.blocks o n) (by simp [hn])
     obtain ⟨e2,he2,rfl,_⟩:=hw.pel (hT.2 n hn)
     have hgp:=k1.deep he1 (j:=0) (z:=u) rfl
     have hplen:(prL f.blocks o n).length<=1000000:=by
      have:=rl f.blocks o n o.length
      unfold prL
      omega
     have hcall:=rAll8 (a:=frz v0) (b:=frz v1) (hw.frz fun _ _ h=>h.frz) (hu.frz fun _ _ h=>h.frz) hT hTI.low hne (hG.in_ n hn) (by omega) hplen a1
     have ann:ac (I (n:Nat))=some n:=ah (by omega)
     have hle:=TI.ye hG hTI h0 hn a3
     have hnx:=TI.next hG hTI h0 hn a3
     have hup:=wt (T:=T) (m:=n) (v:=r) o.length hn
     have front:∀ {y:TV},(r=T n->aa prog 31 (f31_1 (B c) (I ((n + 1:Nat):Int)) (I f.params) (I f.regs) b v0 v1 w) y)->(∀ w',cX [] w n 0 [I (r:Int)]=some w'->r≠T n->aa prog 31 (f31_1 (B true) (I ((n + 1:Nat):Int)) (I f.params) (I f.regs) b v0 v1 w') y)->(∃ w',cX [] w n 0 [I (r:Int)]=some w') ->
       aa prog 31 (f31_1 (B c) (I n) (I f.params) (I f.regs) b v0 v1 w) y:=by
      rintro y g1 g2 ⟨w',hw'⟩
      unfold f31_1
      refine aa.tv hw.len (aa.tv rfl (aa.ite (v:=true) (by simp [asBool]; omega) (fun _=>?_) nofun))
      refine aa.nat k1.slLen (aa.nat ann (aa.chk ?_ (aa.tvs he1 (aa.chk (aJ hu.isSl) (aa.tv hgp (aa.call hcall (aa.chk rfl ?_)))))))
      ·rw [k1.slSize]; simp; omega
      refine aa.nat hw.slLen (aa.nat ann (aa.chk ?_ (aa.tvs he2 (aa.chk rfl (aa.tv rfl (aa.ite rfl (fun h=>?_) fun h=>?_))))))
      ·rw [hw.slSize]; simp; omega
      ·have hne:r≠T n:=by
        have h1:((r:Int) != (T n:Int))=true:=h
        have h2:¬ (r:Int)=(T n:Int):=by simpa using h1
        omega
       refine aa.nat hw.slLen (aa.nat ann (aa.chk ?_ (aa.tvs he2 (aa.chk rfl (aa.tv hw' (aa.tv (inc hn (by omega)) (f31_1_J (g2 w' hw' hne))))))))
       rw [hw.slSize]; simp; omega
      ·have hre:r=T n:=by
        have h1:((r:Int) != (T n:Int))=false:=h
        have h2:(r:Int)=(T n:Int):=by simpa using h1
        omega
       exact aa.tv (inc hn (by omega)) (f31_1_J (g1 hre))
     have hrI:inI (r:Int):=by constructor <;> omega
     obtain ⟨w',c1,c2⟩:=hw.i6 he2 (d:=0) (ys:=[I (r:Int)]) (a:=(r:Int)) ⟨rfl,hrI⟩
     by_cases e:r=T n
     ·have hsame:ni T n r=T:=by
       funext i
       by_cases hi:i=n
       ·subst hi; rw [ip,e]
       ·rw [gq hi]
      rw [hsame] at hnx
      obtain ⟨y,hy,hr⟩:=ih (n + 1) c w l T (by omega) (by omega) hw hT hnx hhi hc1 (fun hc i hi0 hin hil=>by
       by_cases hi:i=n
       ·subst hi; rw [<- e]; exact a3
       ·exact hc0 hc i hi0 (by omega) hil)
      exact ⟨y,front (fun _=>hy) (fun _ _ h=>absurd e h) ⟨w',c1⟩,hr⟩
     ·obtain ⟨y,hy,hr⟩:=ih (n + 1) true w' _ (ni T n r) (by omega) (by omega) c2 (hT.upd hn) hnx (by omega) (fun _=>by omega) nofun
      refine ⟨y,front (fun h=>absurd h e) (fun w'' h _=>?_) ⟨w',c1⟩,hr⟩
      rw [c1] at h
      cases h
      exact hy
    ·exact fin n c w l T (by omega) h0 hw hT hTI hc1 hc0
  obtain ⟨y,hy,hr⟩:=sweep o.length 1 false w0 l0 T0 (by omega) (by omega) hw0 hT0 hTI0 (Nat.le_refl _) nofun (fun _ i h0 h1=>by omega)
  refine ⟨y,?_,hr⟩
  unfold f31_0
  exact f31_1_J hy
end
theorem BQ {q:Option Bool} {e:List TV} {f:DFunc} (he:RFunc q e f) (hs:f.blocks.length<=1000):∃ y,bj prog 31 [.agg e] y/\RInts (some true) y (iW f.blocks):=by
 obtain ⟨v0,v1,v2,o,l,hv,hO,k0,k1,k2,hT⟩:=rRank8 he hs
 have he0:=he
 obtain ⟨b,rfl,hb,_⟩:=he
 have hI:=hO.keeps
 have hol:o.length<=1000:=Nat.le_trans hI.len hs
 obtain ⟨y,hy,hr⟩:=Et hb hs hI hol k0 k1 hI.grfZ (high (p0Z f.blocks o) o.length + 1) v2 l _ (by omega) k2 hT (TI.start hI.grfZ 1)
 refine ⟨y,?_,hr⟩
 refine bj.of (f31_MR _) ?_
 unfold f31_M
 refine aa.chk rfl (aa.call hv (aa.chk ?_ (f31_0_J hy)))
 show (true && (v0.isSl && (v1.isSl && (v2.isSl && true))))=true
 rw [k0.isSl,k1.isSl,k2.isSl]; rfl
end Go.Ab.Q12
end
section
set_option maxRecDepth 10000
namespace Go.Ab
def DmI (bs:List DBlock) (n:Int) (b:Nat):Prop:=0<=n/\Dm bs n.toNat b
theorem DmI.lt {bs:List DBlock} {n:Int} {b:Nat} (h:DmI bs n b):b < bs.length:=h.2.1.lt
theorem Av {bs:List DBlock} {n b:Nat}:DmI bs (n:Int) b ↔ Dm bs n b:=by simp [DmI]
noncomputable def yQ (bs:List DBlock) (n:Int):List Bool:=(List.range bs.length).map fun b=>tt (DmI bs n b)
theorem oF (bs:List DBlock) (n:Int):(yQ bs n).length=bs.length:=by simp [yQ]
theorem xa {bs:List DBlock} {n:Int} {b:Nat} (h:b < bs.length):(yQ bs n)[b]? = some (tt (DmI bs n b)):=by simp [yQ,h]
theorem OI.vk {bs:List DBlock} {o:List Int} (hI:OI bs o) {x:Nat} (hx:x < o.length):∀ (n:Nat),n < o.length->Dm bs (blk o x) (blk o n)->x<=n:=by
 intro n
 induction n using Nat.strongRecOn with
 | _ n ih =>
  intro hn h
  by_cases e:x=n
  ·omega
  ·by_cases h0:n=0
   ·subst h0
    have hb:bs≠[]:=fun e=>by have:=hI.fU hn; rw [e] at this; cases this
    have hz:=(hI.zero hb).2
    rw [hz] at h
    have:=h.anti (.zero h.up)
    have:=hI.inj hx hn (by rw [this,hz])
    omega
   ·obtain ⟨p,hp,hpn⟩:=hI.low h0 hn
    obtain ⟨q1,q2⟩:=nJ.1 hp
    have:=Dm.step (a:=blk o x) (hI.rc q1) q2 (by simpa using h) (fun e2=>e (hI.inj hx hn (by omega)))
    have:=ih p hpn q1 this
    omega
end Go.Ab
namespace Go.Ab.Q12
open Go Go.Ab Go.Proofs
theorem Ef {q:Option Bool} {e:List TV} {f:DFunc} (he:RFunc q e f) (hs:f.blocks.length<=1000) (n:Int):∃ y,bj prog 58 [.agg e,I n] y/\RBools (some true) y (yQ f.blocks n):=by
 obtain ⟨v0,hv0,k0⟩:=BQ he hs
 obtain ⟨v4,o,hv4,k4,hO⟩:=r80 he hs
 have hI:=hO.keeps
 have hol:o.length<=1000:=Nat.le_trans hI.len hs
 obtain ⟨b,rfl,hb,_⟩:=he
 have loop : ∀ (d k : Nat) (w : TV) (M : List Bool), k + d = o.length → RBools (some true) w M → M.length = f.blocks.length → (∀ i, i < k → M[blk o i]? = some (tt (DmI f.blocks n (blk o i)))) → (∀ c, c < f.blocks.length → (∀ i, i < k → blk o i ≠ c) → M[c]? = some false) →
   ∃ y,aa prog 58 (f58_0 (I n) (I o.length) (I k) v0 w v4) y/\RBools (some true) y (yQ f.blocks n):=by
  intro d
  induction d with
  | zero =>
   intro k w M hk hw hl hm hm2
   have hk:k=o.length:=by omega
   subst hk
   have e:M=yQ f.blocks n:=by
    apply List.ext_getElem?
    intro c
    by_cases hc:c < f.blocks.length
    ·rw [xa hc]
     by_cases hr:Rc f.blocks (-1) c
     ·obtain ⟨i,hi,rfl⟩:=hI.rank hr
      exact hm i hi
     ·rw [ef fun h=>hr h.2.1]
      exact hm2 c hc fun i hi e=>hr (e ▸ hI.rc hi)
    ·rw [Fj (by omega),Fj (by rw [oF]; omega)]
   subst e
   refine ⟨w,?_,hw⟩
   unfold f58_0
   exact aa.tv rfl (aa.ite bA nofun fun _=>aa.chk (hw.own fun _ _ h=>h.own) aa.ret)
  | succ d ih =>
   intro k w M hk hw hl hm hm2
   have hkl:k < o.length:=by omega
   have hblt:=hI.fU hkl
   have hbM:blk o k < M.length:=by omega
   obtain ⟨e1,he1,rfl,hei⟩:=k4.pel (hI.at_ hkl)
   obtain ⟨e2,he2,hR2⟩:=hw.pel (E8 hbM)
   cases hR2
   obtain ⟨w',c1,c2⟩:=hw.i6 he2 (d:=0) (ys:=[B (tt (DmI f.blocks n (blk o k)))]) (a:=tt (DmI f.blocks n (blk o k))) rfl
   obtain ⟨y,hy,hr⟩:=ih (k + 1) w' _ (by omega) c2 (by rw [List.length_set]; exact hl) (fun i hi=>by
    by_cases e:i=k
    ·subst e; exact List.getElem?_set_self hbM
    ·rw [List.getElem?_set_ne (fun h=>e (hI.inj (by omega) hkl h.symm))]
     exact hm i (by omega)) (fun c hc hno=>by
    rw [List.getElem?_set_ne (hno k (by omega))]
    exact hm2 c hc fun i hi=>hno i (by omega))
   refine ⟨y,?_,hr⟩
   have ank:ac (I (k:Nat))=some k:=ah (by omega)
   have anb:ac (nth TV.hole [I ((blk o k:Nat):Int)] 0)=some (blk o k):=ah (by omega)
   have cM:(Bool.and (slSize w 1) (Nat.blt (blk o k) M.length))=true:=by rw [hw.slSize]; simp; omega
   unfold f58_0
   refine aa.tv rfl (aa.ite (bB hkl) (fun _=>?_) nofun)
   refine aa.nat k4.slLen (aa.nat ank (aa.chk ?_ (aa.tvs he1 (aa.chk rfl (aa.tv rfl (aa.ite rfl (fun h=>?_) fun h=>?_))))))
   ·rw [k4.slSize]; simp; omega
   ·have hn:((blk o k:Nat):Int)=n:=by simpa using h
    have ht:tt (DmI f.blocks n (blk o k))=true:=fI (by rw [<- hn,Av]; exact .refl (hI.rc hkl))
    rw [ht] at c1
    exact aa.nat hw.slLen (aa.nat anb (aa.chk cM (aa.tvs he2 (aa.chk rfl (aa.tv c1 (aa.tv (inc hkl (by omega)) (f58_0_J hy)))))))
   ·have hn:¬ ((blk o k:Nat):Int)=n:=by simpa using h
    refine aa.tv rfl (aa.ite rfl (fun h=>?_) fun h=>?_)
    ·have h0:blk o k≠0:=by
      have:((blk o k:Nat):Int) > 0:=by simpa using h
      omega
     obtain ⟨a,ha⟩:=Nx.ex (hI.rc hkl) h0
     obtain ⟨i,hi,rfl⟩:=hI.rank ha.2.1.up
     have hle:=hI.vk hi k hkl ha.2.1
     have hik:i < k:=by
      rcases Nat.lt_or_ge i k with h1 | h1
      ·exact h1
      ·exact absurd (by rw [show i=k by omega]) ha.1
     have hilt:=hI.fU hi
     obtain ⟨e3,he3,rfl,_⟩:=k0.pel (mB hblt)
     rw [zk ha] at he3
     obtain ⟨e4,he4,hR4⟩:=hw.pel (hm i hik)
     cases hR4
     have hval:tt (DmI f.blocks n (blk o i))=tt (DmI f.blocks n (blk o k)):=jC ⟨fun h1=>⟨h1.1,h1.2.trans ha.2.1⟩,fun h1=>⟨h1.1,ha.2.2 _ (fun e=>hn (by have:=h1.1; omega)) h1.2⟩⟩
     rw [hval] at he4
     refine aa.nat k0.slLen (aa.nat anb (aa.chk ?_ (aa.tvs he3 (aa.chk rfl (aa.nat hw.slLen (aa.nat (ah (k:=blk o i) (by omega)) (aa.chk ?_ (aa.tvs he4 (aa.chk rfl ?_)))))))))
     ·rw [k0.slSize,mA]; simp; omega
     ·rw [hw.slSize]; simp; omega
     exact aa.nat hw.slLen (aa.nat anb (aa.chk cM (aa.tvs he2 (aa.chk rfl (aa.tv c1 (aa.tv (inc hkl (by omega)) (f58_0_J hy)))))))
    ·have h0:blk o k=0:=by
      have:¬ ((blk o k:Nat):Int) > 0:=by simpa using h
      omega
     have ht:tt (DmI f.blocks n (blk o k))=false:=ef fun h1=>by
      have h2:=h1.2
      rw [h0] at h2
      have:=h2.anti (.zero h2.up)
      have:=h1.1
      omega
     rw [ht] at c1
     exact aa.nat hw.slLen (aa.nat anb (aa.chk cM (aa.tvs he2 (aa.chk rfl (aa.tv c1 (aa.tv (inc hkl (by omega)) (f58_0_J hy)))))))
 obtain ⟨y,hy,hr⟩:=loop o.length 0 _ _ (by omega) (po (n:=f.blocks.length) (by omega)) (by simp) (fun i hi=>absurd hi (Nat.not_lt_zero _)) (fun c hc _=>by simp [hc])
 refine ⟨y,?_,hr⟩
 have hnb:ac (I (f.blocks.length:Nat))=some f.blocks.length:=ah (by omega)
 refine bj.of (f58_MR _ _) ?_
 unfold f58_M
 exact aa.chk rfl (aa.call hv0 (aa.chk (aJ k0.isSl) (aa.tv hb.len (aa.nat hnb (aa.nat hnb (aa.chk (by simp; omega) (aa.call hv4 (aa.chk (aJ k4.isSl) (aa.tv k4.len (f58_0_J hy))))))))))
theorem rIs8 {q:Option Bool} {e:List TV} {f:DFunc} (he:RFunc q e f) (hs:f.blocks.length<=1000) (a c:Int):bj prog 33 [.agg e,I a,I c] (B (tt (0<=c/\DmI f.blocks a c.toNat))):=by
 obtain ⟨v,hv,k⟩:=Ef he hs a
 obtain ⟨b,rfl,hb,_⟩:=he
 refine bj.of (f33_MR _ _ _) ?_
 unfold f33_M
 refine aa.chk rfl (aa.call hv (aa.chk (aJ k.isSl) (aa.tv rfl (aa.ite rfl (fun h=>?_) fun h=>?_))))
 ·have h0:0<=c:=by simpa using h
  refine aa.tv k.len (aa.tv rfl (aa.ite rfl (fun h=>?_) fun h=>?_))
  ·have hc:c < (f.blocks.length:Int):=by rw [oF] at h; simpa using h
   have hcl:c.toNat < f.blocks.length:=by omega
   obtain ⟨e1,he1,hR⟩:=k.pel (xa (n:=a) hcl)
   cases hR
   refine aa.nat k.slLen (aa.nat (ph h0 (by constructor <;> omega)) (aa.chk ?_ (aa.tvs he1 (aa.chk rfl (gC.2 ?_)))))
   ·rw [k.slSize,oF]; simp; omega
   ·show B (tt (DmI f.blocks a c.toNat))=B (tt (0<=c/\DmI f.blocks a c.toNat))
    exact congrArg (fun b:Bool=>B b) (jC (p:=DmI f.blocks a c.toNat) (p':=0<=c/\DmI f.blocks a c.toNat) ⟨fun h=>⟨h0,h⟩,fun h=>h.2⟩)
  ·have hc:¬ c < (f.blocks.length:Int):=by rw [oF] at h; simpa using h
   exact yY fun h=>by have:=h.2.lt; omega
 ·have h0:¬ 0<=c:=by simpa using h
  exact yY fun h=>h0 h.1
end Go.Ab.Q12
end
section
set_option maxRecDepth 10000
namespace Go.Ab
def gQ {α:Type} (g:Nat->α) (k:Nat) (v:α):Nat->α:=fun i=>if i=k then v else g i
theorem aP {α:Type} {g:Nat->α} {k:Nat} {v:α}:gQ g k v k=v:=if_pos rfl
theorem aK {α:Type} {g:Nat->α} {k i:Nat} {v:α} (h:i≠k):gQ g k v i=g i:=if_neg h
def dE {α:Type} (n:Nat) (g:Nat->α):List α:=(List.range n).map g
theorem aB {α:Type} (n:Nat) (g:Nat->α):(dE n g).length=n:=by simp [dE]
theorem bP {α:Type} {n:Nat} {g:Nat->α} {k:Nat} (h:k < n):(dE n g)[k]? = some (g k):=by simp [dE,h]
theorem lk {α:Type} {n:Nat} {g:Nat->α} {k:Nat} {v:α}:(dE n g).set k v=dE n (gQ g k v):=by
 apply List.ext_getElem?
 intro i
 by_cases hi:i < n
 ·by_cases e:k=i
  ·subst e
   rw [List.getElem?_set_self (by rw [aB]; exact hi),bP hi,aP]
  ·rw [List.getElem?_set_ne e,bP hi,bP hi,aK (Ne.symm e)]
 ·rw [Fj (by simp [dE]; omega),Fj (by simp [dE]; omega)]
theorem oD {α:Type} (n:Nat) (a:α):List.replicate n a=dE n fun _=>a:=by
 apply List.ext_getElem?
 intro i
 by_cases hi:i < n
 ·rw [bP hi,List.getElem?_replicate,if_pos hi]
 ·rw [Fj (by simp; omega),Fj (by simp [dE]; omega)]
abbrev RArr (w:TV) (n:Nat) (g:Nat->Int):Prop:=RInts (some true) w (dE n g)
abbrev RBArr (w:TV) (n:Nat) (g:Nat->Bool):Prop:=RBools (some true) w (dE n g)
theorem RArr.get {w:TV} {n:Nat} {g:Nat->Int} (h:RArr w n g) {k:Nat} (hk:k < n):Go.Ab.pel w k=some [I (g k)]/\inI (g k):=by
 obtain ⟨e,he,rfl,hi⟩:=RL.pel h (bP hk)
 exact ⟨he,hi⟩
theorem RArr.set {w:TV} {n:Nat} {g:Nat->Int} (h:RArr w n g) {k:Nat} (hk:k < n) {v:Int} (hv:inI v):∃ w',cX [] w k 0 [I v]=some w'/\RArr w' n (gQ g k v):=by
 obtain ⟨w',h1,h2⟩:=RL.i6 h (h.get hk).1 (d:=0) (ys:=[I v]) (a:=v) ⟨rfl,hv⟩
 rw [lk] at h2
 exact ⟨w',h1,h2⟩
theorem RBArr.get {w:TV} {n:Nat} {g:Nat->Bool} (h:RBArr w n g) {k:Nat} (hk:k < n):Go.Ab.pel w k=some [B (g k)]:=by
 obtain ⟨e,he,rfl⟩:=RL.pel h (bP hk)
 exact he
theorem RBArr.set {w:TV} {n:Nat} {g:Nat->Bool} (h:RBArr w n g) {k:Nat} (hk:k < n) (v:Bool):∃ w',cX [] w k 0 [B v]=some w'/\RBArr w' n (gQ g k v):=by
 obtain ⟨w',h1,h2⟩:=RL.i6 h (h.get hk) (d:=0) (ys:=[B v]) (a:=v) rfl
 rw [lk] at h2
 exact ⟨w',h1,h2⟩
theorem yn {α:Type} {n:Nat} {g h:Nat->α} (e:∀ i,i < n->g i=h i):dE n g=dE n h:=by
 apply List.ext_getElem?
 intro i
 by_cases hi:i < n
 ·rw [bP hi,bP hi,e i hi]
 ·rw [Fj (by rw [aB]; omega),Fj (by rw [aB]; omega)]
end Go.Ab
end
section
set_option maxRecDepth 10000
namespace Go.Ab
def chT (T:Nat->Nat) (S:Nat->Nat) (p:Nat):Nat->Nat
 | 0=>0
 | j + 1=>chT T S p j + (if j≠0/\T j=p then S j else 0)
def chU (T:Nat->Nat) (S:Nat->Nat) (N p:Nat):Nat->Nat
 | 0=>0
 | k + 1=>chU T S N p k + (if N - 1 - k≠0/\T (N - 1 - k)=p then S (N - 1 - k) else 0)
theorem uM {T S S':Nat->Nat} {N p:Nat}:∀ {k:Nat},k<=N->(∀ m,N - k<=m->m < N->S m=S' m)->chU T S N p k=chU T S' N p k
 | 0,_,_=>rfl
 | k + 1,hk,h=>by
  simp only [chU]
  rw [uM (k:=k) (by omega) (fun m h1 h2=>h m (by omega) h2),h (N - 1 - k) (by omega) (by omega)]
theorem xd {T S:Nat->Nat} {N p:Nat}:∀ {k:Nat},k<=N->chT T S p N=chT T S p (N - k) + chU T S N p k
 | 0,_=>by simp [chU]
 | k + 1,hk=>by
  rw [xd (k:=k) (by omega),show N - k=(N - 1 - k) + 1 by omega]
  simp only [chT,chU]
  rw [show N - (k + 1)=N - 1 - k by omega]
  omega
theorem nI {T S:Nat->Nat} {p:Nat}:∀ {i j:Nat},i<=j->chT T S p i<=chT T S p j:=by
 intro i j h
 induction j with
 | zero=>rw [show i=0 by omega]; exact Nat.le_refl _
 | succ j ih =>
  by_cases e:i=j + 1
  ·rw [e]; exact Nat.le_refl _
  ·simp only [chT]; have:=ih (by omega); omega
structure nP (T:Nat->Nat) (N k:Nat) (c:Nat->Nat):Prop where
 at_:∀ p,p < N->c p=(if N - k<=p then 1 else 0) + chU T c N p k
 bnd:∀ p,p < N->c p < 2 ^ k
theorem nP.start (T:Nat->Nat) (N:Nat):nP T N 0 fun _=>0:=⟨fun p hp=>by rw [if_neg (by omega)]; rfl,fun p _=>by simp⟩
def l5 (T:Nat->Nat) (i:Nat) (c:Nat->Nat):Nat->Nat :=
 if i≠0 then gQ (gQ c i (c i + 1)) (T i) (c (T i) + (c i + 1)) else gQ c i (c i + 1)
theorem nP.next {T:Nat->Nat} {N k:Nat} {c:Nat->Nat} (hT:Low N T) (h:nP T N k c) (hk:k < N):nP T N (k + 1) (l5 T (N - 1 - k) c):=by
 obtain ⟨i,hi⟩:∃ i,i=N - 1 - k:=⟨_,rfl⟩
 rw [<- hi]
 have hiN:i < N:=by omega
 have hlow:i≠0->T i < i:=fun h0=>hT i h0 hiN
 have heq:∀ m,i < m->l5 T i c m=c m:=fun m hm=>by
  unfold l5
  split
  ·rename_i h0
   rw [aK (by have:=hlow h0; omega),aK (by omega)]
  ·rw [aK (by omega)]
 have hself:l5 T i c i=c i + 1:=by
  unfold l5
  split
  ·rename_i h0
   rw [aK (by have:=hlow h0; omega),aP]
  ·rw [aP]
 refine ⟨fun p hp=>?_,fun p hp=>?_⟩
 ·simp only [chU]
  rw [<- hi,uM (S':=c) (by omega) (fun m h1 h2=>heq m (by omega)),hself]
  have hc:=h.at_ p hp
  have hx:(N - (k + 1)<=p) ↔ (N - k<=p\/p=i):=by omega
  have one:∀ (A B:Prop) [Decidable A] [Decidable B],(A ↔ B)->(if A then 1 else 0)=(if B then 1 else (0:Nat)):=fun A B _ _ h=>by
   by_cases hA:A
   ·rw [if_pos hA,if_pos (h.1 hA)]
   ·rw [if_neg hA,if_neg (fun hB=>hA (h.2 hB))]
  rw [one _ _ hx]
  by_cases hpi:p=i
  ·have e1:¬ N - k<=p:=by omega
   have e2:¬ (i≠0/\T i=p):=fun e=>by have:=hlow e.1; omega
   have e3:N - k<=p\/p=i:=.inr hpi
   rw [if_neg e1] at hc
   rw [if_pos e3,if_neg e2,hpi,hself,<- hpi,hc]
   omega
  ·by_cases hpt:i≠0/\T i=p
   ·have hl:=hlow hpt.1
    have e1:¬ N - k<=p:=by omega
    have e3:¬ (N - k<=p\/p=i):=by omega
    have:l5 T i c p=c p + (c i + 1):=by
     unfold l5
     rw [if_pos hpt.1,<- hpt.2,aP]
    rw [if_neg e1] at hc
    rw [if_neg e3,if_pos hpt,this,hc]
    omega
   ·have:l5 T i c p=c p:=by
     unfold l5
     split
     ·rename_i h0
      rw [aK (fun e=>hpt ⟨h0,e.symm⟩),aK hpi]
     ·rw [aK hpi]
    have e3:(N - k<=p\/p=i) ↔ N - k<=p:=by omega
    rw [one _ _ e3,if_neg hpt,this,hc]
    omega
 ·have h1:=h.bnd p hp
  have h2:=h.bnd i hiN
  have h3:2 ^ (k + 1)=2 * 2 ^ k:=by rw [Nat.pow_succ]; omega
  unfold l5
  split
  ·rename_i h0
   have h4:=h.bnd (T i) (by have:=hlow h0; omega)
   unfold gQ
   split
   ·omega
   ·split <;> omega
  ·unfold gQ
   split <;> omega
theorem nP.done {T:Nat->Nat} {N:Nat} {c:Nat->Nat} (h:nP T N N c) {p:Nat} (hp:p < N):c p=1 + chT T c p N:=by
 rw [h.at_ p hp,if_pos (by omega),xd (S:=c) (Nat.le_refl N),Nat.sub_self]
 simp [chT]
structure PlI (T S:Nat->Nat) (N j:Nat) (fs fr:Nat->Nat):Prop where
 fr:∀ p,p < j->fr p=fs p + 1 + chT T S p j
 fs:∀ m,m≠0->m < j->fs m=fs (T m) + 1 + chT T S (T m) m
def fsS (T:Nat->Nat) (j:Nat) (fs fr:Nat->Nat):Nat->Nat:=if j≠0 then gQ fs j (fr (T j)) else fs
def frS (T S:Nat->Nat) (j:Nat) (fs fr:Nat->Nat):Nat->Nat:=gQ (if j≠0 then gQ fr (T j) (fr (T j) + S j) else fr) j (fsS T j fs fr j + 1)
theorem PlI.start (T S:Nat->Nat) (N:Nat) (fs fr:Nat->Nat):PlI T S N 0 fs fr:=⟨fun p h=>by omega,fun m _ h=>by omega⟩
theorem ww {T S:Nat->Nat} {N:Nat} (hT:Low N T) {p:Nat}:∀ {j:Nat},j<=p + 1->j<=N->chT T S p j=0
 | 0,_,_=>rfl
 | j + 1,h,hN=>by
  simp only [chT]
  rw [ww hT (by omega) (by omega),if_neg (fun e=>by have:=hT j e.1 (by omega); omega)]
theorem PlI.next {T S:Nat->Nat} {N j:Nat} {fs fr:Nat->Nat} (hT:Low N T) (h:PlI T S N j fs fr) (hj:j < N):PlI T S N (j + 1) (fsS T j fs fr) (frS T S j fs fr):=by
 have hlow:j≠0->T j < j:=fun h0=>hT j h0 hj
 have hfs:∀ m,m≠j->fsS T j fs fr m=fs m:=fun m hm=>by
  unfold fsS
  split
  ·exact aK hm
  ·rfl
 refine ⟨fun p hp=>?_,fun m h0 hm=>?_⟩
 ·by_cases e:p=j
  ·subst e
   unfold frS
   rw [aP,ww hT (by omega) (by omega)]
  ·have hpj:p < j:=by omega
   rw [hfs p e]
   unfold frS
   rw [aK e]
   simp only [chT]
   split
   ·rename_i h0
    by_cases e2:p=T j
    ·subst e2
     rw [aP,if_pos ⟨h0,rfl⟩,h.fr _ hpj]
     omega
    ·rw [aK e2,if_neg (fun e=>e2 e.2.symm),h.fr p hpj]
     omega
   ·rename_i h0
    rw [if_neg (fun e=>h0 e.1),h.fr p hpj]
    omega
 ·by_cases e:m=j
  ·subst e
   have hl:=hlow h0
   rw [hfs (T m) (by omega)]
   unfold fsS
   rw [if_pos h0,aP,h.fr _ hl]
  ·have hl:=hT m h0 (by omega)
   rw [hfs m e,hfs (T m) (by omega)]
   exact h.fs m h0 (by omega)
structure Spn (T S fs:Nat->Nat) (N:Nat):Prop where
 low:Low N T
 pos:∀ p,p < N->0 < S p
 in_:∀ m,m≠0->m < N->fs (T m) < fs m/\fs m + S m<=fs (T m) + S (T m)
 sib:∀ m m',m≠0->m < m'->m' < N->T m=T m'->fs m + S m<=fs m'
theorem Spn.of {T S fs fr:Nat->Nat} {N:Nat} (hT:Low N T) (hc:nP T N N S) (hp:PlI T S N N fs fr):Spn T S fs N:=by
 have step:∀ {m},m≠0->chT T S (T m) (m + 1)=chT T S (T m) m + S m:=fun {m} h0=>by simp [chT,h0]
 refine ⟨hT,fun p hp=>by rw [hc.done hp]; omega,fun m h0 hm=>?_,fun m m' h0 hlt hm e=>?_⟩
 ·have hl:=hT m h0 hm
  have h1:=hp.fs m h0 hm
  have h2:=hc.done (p:=T m) (by omega)
  have h3:=nI (T:=T) (S:=S) (p:=T m) (i:=m + 1) (j:=N) (by omega)
  rw [step h0] at h3
  omega
 ·have h1:=hp.fs m h0 (by omega)
  have h2:=hp.fs m' (by omega) hm
  have h3:=nI (T:=T) (S:=S) (p:=T m) (i:=m + 1) (j:=m') (by omega)
  rw [step h0] at h3
  rw [<- e] at h2
  omega
theorem Spn.up {T S fs:Nat->Nat} {N:Nat} (h:Spn T S fs N) {b a:Nat} (hu:Up T b a):b < N->fs a<=fs b/\fs b + S b<=fs a + S a:=by
 induction hu with
 | refl=>intro _; exact ⟨Nat.le_refl _,Nat.le_refl _⟩
 | @step n x h0 _ ih =>
  intro hn
  have hl:=h.low n h0 hn
  obtain ⟨i1,i2⟩:=h.in_ n h0 hn
  obtain ⟨j1,j2⟩:=ih (by omega)
  omega
theorem Spn.apart {T S fs:Nat->Nat} {N:Nat} (h:Spn T S fs N):∀ (d a b:Nat),a + b<=d->a < N->b < N->¬ Up T a b->¬ Up T b a->fs a + S a<=fs b\/fs b + S b<=fs a:=by
 have root:∀ a,a < N->Up T a 0:=by
  intro a
  induction a using Nat.strongRecOn with
  | _ a ih =>
   intro ha
   by_cases h0:a=0
   ·subst h0; exact .refl
   ·exact .step h0 (ih (T a) (h.low a h0 ha) (by have:=h.low a h0 ha; omega))
 have key : ∀ (d : Nat), (∀ a b : Nat, a + b ≤ d → a < N → b < N → ¬ Up T a b → ¬ Up T b a → fs a + S a ≤ fs b ∨ fs b + S b ≤ fs a) → ∀ a b : Nat, a + b ≤ d + 1 → b < a → a < N → b < N → ¬ Up T a b → ¬ Up T b a → fs a + S a ≤ fs b ∨ fs b + S b ≤ fs a := by
  intro d ih a b hd hba ha hb h1 h2
  have ha0:a≠0:=by omega
  have hb0:b≠0:=fun e=>h1 (by rw [e]; exact root a ha)
  have hla:=h.low a ha0 ha
  have hlb:=h.low b hb0 hb
  obtain ⟨ia1,ia2⟩:=h.in_ a ha0 ha
  obtain ⟨ib1,ib2⟩:=h.in_ b hb0 hb
  by_cases e:T a=T b
  ·exact .inr (h.sib b a hb0 hba ha e.symm)
  ·by_cases hu:Up T b (T a)
   ·have hu2:Up T (T b) (T a):=by
     by_cases e3:T a=b
     ·exact absurd (.step ha0 (by rw [e3]; exact .refl)) h1
     ·exact (hu.inv e3).2
    have n1:¬ Up T a (T b):=fun hx=>by
     by_cases e4:T b=a
     ·exact h2 (.step hb0 (by rw [e4]; exact .refl))
     ·have hy:=(hx.inv e4).2
      have:=hy.le h.low (by omega)
      have:=hu2.le h.low (by omega)
      exact e (by omega)
    have n2:¬ Up T (T b) a:=fun hx=>h2 (.step hb0 hx)
    rcases ih a (T b) (by omega) ha (by omega) n1 n2 with h3 | h3
    ·exact .inl (by omega)
    ·exact .inr (by omega)
   ·have n1:¬ Up T (T a) b:=fun hx=>h1 (.step ha0 hx)
    rcases ih (T a) b (by omega) (by omega) hb n1 hu with h3 | h3
    ·exact .inl (by omega)
    ·exact .inr (by omega)
 intro d
 induction d with
 | zero =>
  intro a b hd ha hb h1 h2
  have:a=b:=by omega
  subst this
  exact absurd .refl h1
 | succ d ih =>
  intro a b hd ha hb h1 h2
  by_cases e:a=b
  ·subst e; exact absurd .refl h1
  ·by_cases hlt:b < a
   ·exact key d ih a b hd hlt ha hb h1 h2
   ·exact (key d ih b a (by omega) (by omega) hb ha h2 h1).symm
theorem Spn.iff {T S fs:Nat->Nat} {N:Nat} (h:Spn T S fs N) {a b:Nat} (ha:a < N) (hb:b < N):(fs a<=fs b/\fs b < fs a + S a) ↔ Up T b a:=by
 constructor
 ·rintro ⟨h1,h2⟩
  have hpb:=h.pos b hb
  have hpa:=h.pos a ha
  by_cases hu:Up T b a
  ·exact hu
  ·exfalso
   by_cases hv:Up T a b
   ·by_cases e:a=b
    ·subst e; exact hu .refl
    ·have:∀ {a:Nat},Up T a b->a≠b->a < N->fs b < fs a:=by
      intro a hv hne ha
      obtain ⟨h0,hw⟩:=hv.inv (Ne.symm hne)
      have:=(h.in_ a h0 ha).1
      have:=(h.up hw (by have:=h.low a h0 ha; omega)).1
      omega
     have:=this hv e ha
     omega
   ·rcases h.apart (a + b) a b (Nat.le_refl _) ha hb hv hu with h3 | h3 <;> omega
 ·intro hu
  obtain ⟨h1,h2⟩:=h.up hu hb
  have:=h.pos b hb
  omega
end Go.Ab
end

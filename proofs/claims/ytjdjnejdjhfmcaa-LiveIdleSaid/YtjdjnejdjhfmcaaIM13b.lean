import Derived.Test.YtjdjnejdjhfmcaaIM12b
section
namespace Go.Ab
open Go.RowKit
structure jf (P:Program) (G:Laid) (E:Env) (C:Cal):Prop where
 ty:∀ t d,E.T t=some d→br P t d
 call:rV P G E C
section
variable {P:Program} {E:Env} {C:Cal} {w0:Bs} {w w':World} {I0 I R:Nat→Prop} {g g':Gh} {st st':ASt} {a:Act} {ov:List Value} {look:Look} {Q:Exit→Act→World→Prop} {id:Nat}
theorem De (hE:jf P w0.G E C) (hlk:∀ i b,look i=some b→st.look i=some b) (hs:al w0 I0 NoR g st a ov w) {o:Oper} {e:Eff} (hh:(opL E (st.nid o.dst) look o.op (o.op.operands.toList.map st.ev)).hits C e) (ha:e.app st o.dst=some st') :
  Good P w0 I0 ov o st' a w Q:=by
 obtain ⟨dst,op,type,pos,after,guard⟩:=o
 cases op with
 | move x=>exact D4 hs hh ha
 | assign x=>exact A5 hs hh ha
 | pick c x y=>exact DZ hs hh ha
 | alloc t=>exact Bv hE.ty hs hh ha
 | box t x=>exact op_box hE.ty hs hh ha
 | build t parts=>exact Bq hE.ty hs hh ha
 | makeFunc fn first cap=>exact wW hs hh ha
 | buildSlice t len parts=>exact tL hE.ty hlk hs hh ha
 | load t x=>exact D5 hE.ty hlk hs hh ha
 | store t x y=>exact Co hE.ty hlk hs hh ha
 | nilCheck x=>exact xI hs hh ha
 | binOp op xt x y yt=>exact op_bin hE.ty hlk hs hh ha
 | unOp op xt x=>exact op_un hs hh ha
 | convert xt dt x=>exact yu hE.ty hlk hs hh ha
 | makeSlice t x y=>exact vF hE.ty hs hh ha
 | slice t x lo hi mx=>exact Cr hE.ty hlk hs hh ha
 | fieldAddr t x f=>exact vG hE.ty hs hh ha
 | field t x f=>exact Df hE.ty hs hh ha
 | indexAddr t x y=>exact vL hE.ty hlk hs hh ha
 | index t x y=>exact Cz hE.ty hs hh ha
 | extract x j=>exact zc hs hh ha
 | call c =>
  obtain ⟨callee,args,tys⟩:=c
  cases callee with
  | builtin b =>
   have hops:(Op.call ⟨.builtin b,args,tys⟩).operands.toList=args.toList:=by simp [Op.operands,Call.operands]
   simp only [hops] at hh
   simp only [opL] at hh
   unfold dZ at hh
   split at hh
   ·rename_i x ty hargs htys
    obtain ⟨ox,rfl,hox⟩:=list1 hargs
    have:=arr1 htys
    subst this
    split at hh
    ·rename_i d hT
     rw [← hox] at hh
     exact yR hlk hs (hE.ty _ _ hT) hh ha
    ·exact hh.elim
   ·rename_i s x ty ty' hargs htys
    obtain ⟨os,ox,rfl,hos,hox⟩:=list2 hargs
    have:=arr2 htys
    subst this
    split at hh
    ·rename_i e1 d hel
     cases hb:Nat.beq ty ty' with
     | false =>
      simp only [hb,cond_false] at hh
      split at hh
      ·rename_i hu
       exact hh.elim
      ·exact hh.elim
     | true =>
      simp only [hb,cond_true] at hh
      have:=(aJ _ _).1 hb
      subst this
      rw [← hos,← hox] at hh
      exact tM hE.ty hlk hs hel hh ha
    ·exact hh.elim
   ·rename_i s x ty ty' hargs htys
    obtain ⟨os,ox,rfl,hos,hox⟩:=list2 hargs
    have:=arr2 htys
    subst this
    split at hh
    ·rename_i e1 d hel
     cases hb:Nat.beq ty ty' with
     | false=>simp [hb,Prg.hits] at hh
     | true =>
      simp only [hb,cond_true] at hh
      have:=(aJ _ _).1 hb
      subst this
      rw [← hos,← hox] at hh
      exact xh hE.ty hlk hs hel hh ha
    ·exact hh.elim
   ·rename_i s ty hargs htys
    obtain ⟨os,rfl,hos⟩:=list1 hargs
    have:=arr1 htys
    subst this
    split at hh
    ·rename_i e1 d hel
     exact hh.elim
    ·exact hh.elim
   ·rename_i x y hargs
    obtain ⟨ox,oy,rfl,hox,hoy⟩:=list2 hargs
    rw [← hox,← hoy] at hh
    exact rX hs hh ha
   ·rename_i x y hargs
    obtain ⟨ox,oy,rfl,hox,hoy⟩:=list2 hargs
    rw [← hox,← hoy] at hh
    exact rX hs hh ha
   ·exact hh.elim
  | value f =>
   cases f with
   | func f =>
    have hops:(Op.call ⟨.value (.func f),args,tys⟩).operands.toList=.func f :: args.toList:=by simp [Op.operands,Call.operands]
    simp only [hops,List.map_cons] at hh
    exact DE hE.call hE.ty hlk hs hh ha
   | tmp t =>
    have hops:(Op.call ⟨.value (.tmp t),args,tys⟩).operands.toList=.tmp t :: args.toList:=by simp [Op.operands,Call.operands]
    simp only [hops,List.map_cons] at hh
    simp [opL,Prg.hits] at hh
   | _=>simp [opL,Prg.hits] at hh
  | invoke r m=>simp [opL,Prg.hits] at hh
 | _=>simp [opL,Prg.hits] at hh
def AV.nf:AV→AV
 | .one (.t (.lit (.bool b)))=>.bl b
 | .tv (.lit (.bool b))=>.bl b
 | v=>v
def Eff.nfE:Eff→Eff
 | .val v=>.val v.nf
 | .new b v=>.new b v.nf
 | .upd i b v=>.upd i b v.nf
 | .gen ps v=>.gen ps v.nf
def ASt.nfS (st:ASt):ASt:=⟨st.slots.map AV.nf,st.boxes,st.out⟩
theorem aL (v:AV):v.nf=v∨∃ b,v.nf=.bl b∧(v=.one (.t (.lit (.bool b)))∨v=.tv (.lit (.bool b))):=by
 unfold AV.nf
 split
 ·exact .inr ⟨_,rfl,.inl rfl⟩
 ·exact .inr ⟨_,rfl,.inr rfl⟩
 ·exact .inl rfl
theorem zk (v:AV):v.nf.nf=v.nf:=by
 rcases aL v with h | ⟨b,h,_⟩
 ·rw [h,h]
 ·rw [h]; rfl
theorem jW (v:AV):v.nf.tv? = v.tv? := by
 rcases aL v with h | ⟨b,h,rfl | rfl⟩
 ·rw [h]
 ·rfl
 ·rfl
theorem BL {v:AV} {u:Value}:cm w g look v.nf u ↔ cm w g look v u:=by
 rcases aL v with h | ⟨b,h,rfl | rfl⟩
 ·rw [h]
 ·rw [h]
  constructor
  ·intro h'
   have:u=.bool b:=h'
   subst this
   exact ⟨.lit _,rfl⟩
  ·intro h'
   exact ck h'.1
 ·rw [h]
  constructor
  ·intro h'
   have:u=.bool b:=h'
   subst this
   exact .lit _
  ·intro h'
   exact ck h'
theorem oD (v:AV):v.nf.ip=v.ip:=by
 rcases aL v with h | ⟨b,h,rfl | rfl⟩
 ·rw [h]
 ·rw [h]; rfl
 ·rw [h]; rfl
theorem cE (e:Eff):eN e.nfE=eN e:=by cases e <;> simp only [Eff.nfE,eN,oD]
theorem nK (e:Eff):e.nfE.plain=e.plain:=by cases e <;> rfl
theorem xc (base:Nat) (own:List (List Nat × List Nat)) (e:Eff):e.nfE.qI base own=e.qI base own:=by cases e <;> rfl
theorem xC {S:Type} {agg:Bool} {n:Nat} {v:AV} {k k':List CA→Prg S} {e:S} (hk:∀ cs,(k cs).hits C e→(k' cs).hits C e) (h:(v.bd agg n k).hits C e):(v.bd agg n k').hits C e:=by
 unfold AV.bd at h ⊢
 split at h
 ·rename_i c
  cases hc:c.kept with
  | true=>rw [hc] at h; exact hk _ h
  | false=>rw [hc] at h; exact h.elim
 ·exact ⟨h.1,hk _ h.2⟩
 ·exact hk _ h
 ·rename_i cs
  cases hc:cs.length.beq n with
  | true=>rw [hc] at h; exact hk _ h
  | false=>rw [hc] at h; exact h.elim
 ·exact ⟨h.1,hk _ h.2⟩
 ·exact h.elim
theorem fk {S:Type} {agg:Bool} {n:Nat} {v:AV} {k:List CA→Prg S} {e:S} (h:(v.bd agg n k).hits C e):(v.nf.bd agg n k).hits C e:=by
 rcases aL v with h1 | ⟨b,h1,rfl | rfl⟩
 ·rwa [h1]
 ·rw [h1]
  cases agg with
  | false=>exact h
  | true=>exact h.elim
 ·rw [h1]
  cases agg with
  | false=>exact h.2
  | true=>exact (by simp [AV.bd,TV.isAgg,Prg.hits] at h)
theorem oe {S:Type} {e:S}:∀ {vs:List AV} {k:List CA→Prg S},(kY vs k).hits C e→(kY (vs.map AV.nf) k).hits C e
 | [],k,h=>h
 | x :: vs, k, h => by
  simp only [kY,List.map_cons] at h ⊢
  refine fk ?_
  unfold AV.bd at h ⊢
  split at h
  ·rename_i c _
   cases hc:c.kept with
   | false=>simp [hc,Prg.hits] at h
   | true=>simp only [hc,cond_true] at h ⊢; exact oe h
  ·exact ⟨h.1,oe h.2⟩
  ·exact oe h
  ·rename_i cs' hb; cases hb
  ·rename_i cs' hb; cases hb
  ·exact h.elim
theorem mo {f:FuncId} {e:Eff}:∀ {vs:List AV} {k:List CA→List CA},(kY vs fun cs=>(.ret (.val (.clo f (k cs))):Out)).hits C e→∃ cs,e=.val (.clo f cs)
 | [],k,h=>⟨_,h.symm⟩
 | x :: vs, k, h => by
  simp only [kY] at h
  unfold AV.bd at h
  split at h
  ·rename_i c _
   cases hc:c.kept with
   | false=>simp [hc,Prg.hits] at h
   | true=>simp only [hc,cond_true] at h; exact mo (k:=fun cs=>k (_ ++ cs)) h
  ·exact mo (k:=fun cs=>k (_ ++ cs)) h.2
  ·exact mo (k:=fun cs=>k (_ ++ cs)) h
  ·rename_i hb; cases hb
  ·rename_i hb; cases hb
  ·exact h.elim
theorem vB {S:Type} {at_:Nat→Option (Nat × Bool × Nat)} {k:List CA→Prg S} {e:S}:∀ {is:List Nat} {vs:List AV} {cs:List CA},(bV at_ is vs cs k).hits C e→(bV at_ is (vs.map AV.nf) cs k).hits C e
 | [],[],cs,h=>h
 | i :: is, x :: vs, cs, h => by
  simp only [bV,List.map_cons] at h ⊢
  split at h
  ·rename_i off agg n hat
   have key:∀ ps,((bif (off + ps.length).ble cs.length && ps.length.beq n then bV at_ is vs (bo cs off ps) k else .fail):Prg S).hits C e→((bif (off + ps.length).ble cs.length && ps.length.beq n then bV at_ is (vs.map AV.nf) (bo cs off ps) k else .fail):Prg S).hits C e:=by
    intro ps hp
    cases hb:(off + ps.length).ble cs.length && ps.length.beq n with
    | false=>simp [hb,Prg.hits] at hp
    | true=>simp only [hb,cond_true] at hp ⊢; exact vB hp
   refine fk ?_
   unfold AV.bd at h ⊢
   split at h
   ·rename_i c
    cases hc:c.kept with
    | false=>simp [hc,Prg.hits] at h
    | true=>simp only [hc,cond_true] at h ⊢; exact key _ h
   ·exact ⟨h.1,key _ h.2⟩
   ·exact key _ h
   ·rename_i cs'
    have:=key cs'
    cases hc:cs'.length.beq n with
    | false=>simp [hc,Prg.hits] at h
    | true=>simp only [hc,cond_true] at h this ⊢; exact this h
   ·exact ⟨h.1,key _ h.2⟩
   ·exact h.elim
  ·exact h.elim
 | [],_ :: _,cs,h=>h.elim
 | _ :: _,[],cs,h=>h.elim
theorem vY {S:Type} {v:AV} {k:TV→Prg S}:vD look v.nf k=vD look v k:=by
 rcases aL v with h | ⟨b,h,rfl | rfl⟩
 ·rw [h]
 ·rfl
 ·rfl
theorem Ct {S:Type} {v:AV} {k:TV→Prg S}:rG look v.nf k=rG look v k:=by
 rcases aL v with h | ⟨b,h,rfl | rfl⟩
 ·rw [h]
 ·rfl
 ·rfl
theorem BO {S:Type} {v:AV} {k:TV→List (Nat × Nat)→Prg S}:sw look v.nf k=sw look v k:=by
 rcases aL v with h | ⟨b,h,rfl | rfl⟩
 ·rw [h]
 ·rfl
 ·rfl
theorem rn {S:Type}:∀ {vs:List AV} {k:List TV→Prg S},lends look (vs.map AV.nf) k=lends look vs k
 | [],k=>rfl
 | v :: vs,k=>by simp only [List.map_cons,lends,Ct,rn]
theorem tF {S:Type}:∀ {vs:List AV} {k:List TV→List (Nat × Nat)→Prg S},hands look (vs.map AV.nf) k=hands look vs k
 | [],k=>rfl
 | v :: vs,k=>by simp only [List.map_cons,hands,BO,tF]
theorem CG {E:Env} {id:Nat} {look:Look} {f:FuncId} {ld:fd} (vs:List AV):nH E id look f ld (vs.map AV.nf)=nH E id look f ld vs:=by
 cases vs with
 | nil=>rfl
 | cons v l =>
  rcases aL v with h | ⟨b,h,rfl | rfl⟩
  ·simp only [List.map_cons,h]
   cases v with
   | one c =>
    cases c with
    | ptr i off =>
     cases off with
     | zero=>simp only [nH,tF]
     | succ n=>rfl
    | _=>rfl
   | _=>rfl
  ·simp only [List.map_cons,h]; rfl
  ·simp only [List.map_cons,h]; rfl
theorem CP {look:Look} {f:FuncId} {c:Nat × Nat} (vs:List AV):nW look f c (vs.map AV.nf)=nW look f c vs:=by
 cases vs with
 | nil=>rfl
 | cons v l =>
  rcases aL v with h | ⟨b,h,rfl | rfl⟩
  ·simp only [List.map_cons,h]
   cases v with
   | one c =>
    cases c with
    | ptr i off =>
     cases off with
     | zero=>simp only [nW,rn]
     | succ n=>rfl
    | _=>rfl
   | _=>rfl
  ·simp only [List.map_cons,h]; rfl
  ·simp only [List.map_cons,h]; rfl
theorem AL {S:Type} {v:Option AV} {k:Option Nat→Prg S}:io (v.map AV.nf) k=io v k:=by
 cases v with
 | none=>rfl
 | some v=>simp only [io,EW,jW]
theorem uM (v:AV):sS v.nf=sS v:=by
 rcases aL v with h | ⟨b,h,rfl | rfl⟩
 ·rw [h]
 ·rfl
 ·rfl
theorem zw {S:Type} {d:TyD} {dest:Option Nat} {v:AV} {k:List (List TV)→List Prim→Prg S}:xE look d dest v.nf k=xE look d dest v k:=by
 rcases aL v with h | ⟨b,h,rfl | rfl⟩
 ·rw [h]
 ·rfl
 ·rfl
theorem l5 {kd:Kd} {sz:Nat} {x:AV} {lo hi:Option AV}:iY look kd sz x.nf (lo.map AV.nf) (hi.map AV.nf)=iY look kd sz x lo hi:=by
 simp only [iY,jW,AL]
 rcases aL x with h | ⟨b,h,rfl | rfl⟩
 ·rw [h]
  cases lo <;> rfl
 ·rfl
 ·rfl
theorem Dj (v:AV):uQ v.nf=uQ v:=by
 rcases aL v with h | ⟨b,h,rfl | rfl⟩
 ·rw [h]
 ·rfl
 ·rfl
theorem opL_nf {op : Op} {vs : List AV} {e : Eff} (h : (opL E id look op vs).hits C e) : ∃ e', (opL E id look op (vs.map AV.nf)).hits C e' ∧ e'.nfE = e.nfE := by
 cases op with
 | move x =>
  rcases vs with _ | ⟨v,_ | ⟨v',r⟩⟩ <;> first | exact h.elim | skip
  cases h
  exact ⟨_,rfl,by simp [Eff.nfE,zk]⟩
 | assign x =>
  rcases vs with _ | ⟨v,_ | ⟨v',r⟩⟩ <;> first | exact h.elim | skip
  cases h
  exact ⟨_,rfl,by simp [Eff.nfE,zk]⟩
 | pick c x y =>
  rcases vs with _ | ⟨v,_ | ⟨v',_ | ⟨v'',_ | ⟨v3,r⟩⟩⟩⟩ <;> first | exact h.elim | skip
  simp only [opL] at h
  split at h
  ·rename_i b
   cases h
   refine ⟨_,rfl,?_⟩
   cases b <;> simp [Eff.nfE,zk]
  ·exact h.elim
 | alloc t =>
  rcases vs with _ | ⟨v,r⟩ <;> first | exact h.elim | exact ⟨e,h,rfl⟩
 | box t x =>
  rcases vs with _ | ⟨v,_ | ⟨v',r⟩⟩ <;> first | exact h.elim | skip
  refine ⟨e,?_,rfl⟩
  simp only [opL,List.map_cons,List.map_nil] at h ⊢
  split at h
  ·exact fk h
  ·exact h.elim
 | makeFunc fn first cap =>
  cases fn with
  | func f =>
   have:∃ cs,e=.val (.clo f cs):=by
    simp only [opL] at h
    cases hb:first.size.beq 0 with
    | false=>simp [hb,Prg.hits] at h
    | true =>
     simp only [hb,cond_true] at h
     exact mo (k:=fun l=>l) h
   obtain ⟨cs,rfl⟩:=this
   refine ⟨_,?_,rfl⟩
   simp only [opL] at h ⊢
   cases hb:first.size.beq 0 with
   | false=>simp [hb,Prg.hits] at h
   | true=>simp only [hb,cond_true] at h ⊢; exact oe h
  | _=>exact h.elim
 | build t parts =>
  refine ⟨e,?_,rfl⟩
  simp only [opL] at h ⊢
  split at h
  ·rename_i d hd
   cases hb:lO E.T d.kd with
   | false=>simp [hb,Prg.hits] at h
   | true=>simp only [hb,cond_true] at h ⊢; exact vB h
  ·exact h.elim
 | buildSlice t len parts =>
  refine ⟨e,?_,rfl⟩
  simp only [opL] at h ⊢
  split at h
  ·exact vB h
  ·exact h.elim
 | load t x =>
  rcases vs with _ | ⟨v,_ | ⟨v',r⟩⟩ <;> first | exact h.elim | skip
  refine ⟨e,?_,rfl⟩
  rcases aL v with h1 | ⟨b,h1,rfl | rfl⟩
  ·simpa only [List.map_cons,List.map_nil,h1] using h
  ·simp only [opL] at h; split at h <;> exact h.elim
  ·simp only [opL] at h; split at h <;> exact h.elim
 | store t x y =>
  rcases vs with _ | ⟨v,_ | ⟨v',_ | ⟨v'',r⟩⟩⟩ <;> first | exact h.elim | skip
  refine ⟨e,?_,rfl⟩
  simp only [opL,List.map_cons,List.map_nil] at h ⊢
  split at h
  ·rcases aL v with h1 | ⟨b,h1,rfl | rfl⟩
   ·rw [h1]
    unfold vR at h ⊢
    split at h
    ·rename_i e0 _ _ i0 off0 len0 n0
     cases hk0:e0.kd.isAgg with
     | true=>rw [hk0] at h; exact h.elim
     | false =>
      rw [hk0] at h
      simp only [cond_false] at h ⊢
      split at h
      ·exact fk h
      ·exact h.elim
    ·exact fk h
    ·exact fk h
    ·exact h.elim
   ·exact h.elim
   ·exact h.elim
  ·exact h.elim
 | nilCheck x =>
  rcases vs with _ | ⟨v,_ | ⟨v',r⟩⟩ <;> first | exact h.elim | skip
  refine ⟨e,?_,rfl⟩
  rcases aL v with h1 | ⟨b,h1,rfl | rfl⟩
  ·simpa only [List.map_cons,List.map_nil,h1] using h
  ·exact h.elim
  ·exact h.elim
 | binOp op xt x y yt =>
  rcases vs with _ | ⟨v,_ | ⟨v',_ | ⟨v'',r⟩⟩⟩ <;> first | exact h.elim | skip
  refine ⟨e,?_,rfl⟩
  simp only [opL,List.map_cons,List.map_nil] at h ⊢
  split at h
  ·unfold DV at h ⊢
   split at h
   ·split at h
    ·exact fk (xC (fun cs h=>fk h) h)
    ·exact h.elim
   ·simp only [D6,Dj] at h ⊢
    exact h
   ·simp only [Em,vY,jW] at h ⊢
    exact h
  ·exact h.elim
 | unOp op xt x =>
  rcases vs with _ | ⟨v,_ | ⟨v',r⟩⟩ <;> first | exact h.elim | skip
  rcases aL v with h1 | ⟨b,h1,h2⟩
  ·refine ⟨e,?_,rfl⟩
   simpa only [List.map_cons,List.map_nil,h1] using h
  ·have hv:∃ t,(opL E id look (.unOp op xt x) [v]).hits C e→(Prg.tv (pun op (.lit (.bool b))) vt).hits C e:=⟨(),by rcases h2 with rfl | rfl <;> intro h <;> cases op <;> exact h⟩
   obtain ⟨_,hv⟩:=hv
   obtain ⟨z,hz,hh⟩:=hv h
   cases op with
   | not =>
    simp only [pun,EL] at hz
    subst hz
    cases hh
    refine ⟨.val (.bl !b),?_,rfl⟩
    simp only [List.map_cons,List.map_nil,h1]
    rfl
   | _=>simp [pun] at hz
 | convert xt dt x =>
  rcases vs with _ | ⟨v,_ | ⟨v',r⟩⟩ <;> first | exact h.elim | skip
  refine ⟨e,?_,rfl⟩
  simp only [opL,List.map_cons,List.map_nil,zH,jW,vY] at h ⊢
  exact h
 | makeSlice t x y =>
  rcases vs with _ | ⟨v,_ | ⟨v',_ | ⟨v'',r⟩⟩⟩ <;> first | exact h.elim | skip
  refine ⟨e,?_,rfl⟩
  simp only [opL,List.map_cons,List.map_nil,jW] at h ⊢
  exact h
 | slice t x lo hi mx =>
  refine ⟨e,?_,rfl⟩
  cases mx with
  | some m=>rcases vs with _ | ⟨v,r⟩ <;> exact h.elim
  | none =>
   rcases vs with _ | ⟨v,r⟩
   ·exact h.elim
   ·simp only [opL, List.map_cons] at h ⊢
    split at h
    ·rename_i d hT
     split at h
     ·rename_i sz hsz
      cases lo with
      | none =>
       cases hi with
       | none =>
        rcases r with _ | ⟨l,r⟩
        ·have:=l5 (look:=look) (kd:=d.kd) (sz:=sz) (x:=v) (lo:=none) (hi:=none)
         simp only [Option.map_none] at this
         simp only [List.map_nil]
         rw [this]; exact h
        ·exact h.elim
       | some hh =>
        rcases r with _ | ⟨l,_ | ⟨l',r⟩⟩
        ·exact h.elim
        ·have:=l5 (look:=look) (kd:=d.kd) (sz:=sz) (x:=v) (lo:=none) (hi:=some l)
         simp only [Option.map_none,EW] at this
         simp only [List.map_cons,List.map_nil]
         rw [this]; exact h
        ·exact h.elim
      | some ll =>
       cases hi with
       | none =>
        rcases r with _ | ⟨l,_ | ⟨l',r⟩⟩
        ·exact h.elim
        ·have:=l5 (look:=look) (kd:=d.kd) (sz:=sz) (x:=v) (lo:=some l) (hi:=none)
         simp only [Option.map_none,EW] at this
         simp only [List.map_cons,List.map_nil]
         rw [this]; exact h
        ·exact h.elim
       | some hh =>
        rcases r with _ | ⟨l,_ | ⟨l',_ | ⟨l'',r⟩⟩⟩
        ·exact h.elim
        ·exact h.elim
        ·have:=l5 (look:=look) (kd:=d.kd) (sz:=sz) (x:=v) (lo:=some l) (hi:=some l')
         simp only [EW] at this
         simp only [List.map_cons,List.map_nil]
         rw [this]; exact h
        ·exact h.elim
     ·exact h.elim
    ·exact h.elim
 | fieldAddr t x f =>
  rcases vs with _ | ⟨v,_ | ⟨v',r⟩⟩ <;> first | exact h.elim | skip
  refine ⟨e,?_,rfl⟩
  rcases aL v with h1 | ⟨b,h1,rfl | rfl⟩
  ·simpa only [List.map_cons,List.map_nil,h1] using h
  ·simp only [opL] at h
   split at h
   ·rename_i hv
    cases hv
    split at h
    ·rename_i n _ _
     cases hb:Nat.blt 0 n <;> simp [hb,CA.add,Prg.hits] at h
    ·exact h.elim
   ·exact h.elim
  ·simp only [opL] at h
   split at h
   ·rename_i hv; cases hv
   ·exact h.elim
 | field t x f =>
  rcases vs with _ | ⟨v,_ | ⟨v',r⟩⟩ <;> first | exact h.elim | skip
  refine ⟨e,?_,rfl⟩
  rcases aL v with h1 | ⟨b,h1,rfl | rfl⟩
  ·simpa only [List.map_cons,List.map_nil,h1] using h
  ·simp only [opL] at h
   split at h
   ·split at h <;> exact h.elim
   ·exact h.elim
  ·simp only [opL] at h
   split at h
   ·split at h
    ·simp [vS,TV.isAgg,Prg.hits] at h
    ·exact h.elim
   ·exact h.elim
 | indexAddr t x y =>
  rcases vs with _ | ⟨v,_ | ⟨v',_ | ⟨v'',r⟩⟩⟩ <;> first | exact h.elim | skip
  refine ⟨e,?_,rfl⟩
  simp only [opL,List.map_cons,List.map_nil] at h ⊢
  split at h
  ·rcases aL v with h1 | ⟨b,h1,rfl | rfl⟩
   ·simp only [h1,pr,jW] at h ⊢; exact h
   ·simp only [pr,jW] at h ⊢; exact h
   ·simp only [pr,jW] at h ⊢; exact h
  ·unfold rf at h ⊢
   rw [jW]
   rcases aL v with h1 | ⟨b,h1,rfl | rfl⟩
   ·rw [h1]; exact h
   ·split at h
    ·split at h <;> first | exact h.elim | (rename_i hx _; cases hx)
    ·exact h.elim
   ·split at h
    ·split at h <;> first | exact h.elim | (rename_i hx _; cases hx)
    ·exact h.elim
 | index t x y =>
  rcases vs with _ | ⟨v,_ | ⟨v',_ | ⟨v'',r⟩⟩⟩ <;> first | exact h.elim | skip
  refine ⟨e,?_,rfl⟩
  simp only [opL,List.map_cons,List.map_nil,jW] at h ⊢
  exact h
 | extract x j =>
  rcases vs with _ | ⟨v,_ | ⟨v',r⟩⟩ <;> first | exact h.elim | skip
  refine ⟨e,?_,rfl⟩
  rcases aL v with h1 | ⟨b,h1,rfl | rfl⟩
  ·simpa only [List.map_cons,List.map_nil,h1] using h
  ·exact h.elim
  ·exact h.elim
 | call c =>
  refine ⟨e,?_,rfl⟩
  obtain ⟨callee,args,tys⟩:=c
  cases callee with
  | builtin b =>
   simp only [opL] at h ⊢
   unfold dZ at h
   split at h
   ·rename_i x ty htys
    simp only [htys,dZ,List.map_cons,List.map_nil]
    split at h
    ·rename_i d hd
     have key:∀ kd,(x6 look kd x).hits C e→(x6 look kd x.nf).hits C e:=by intro kd; cases kd <;> simp only [x6,vY] <;> exact fun h=>h
     exact key _ h
    ·exact h.elim
   ·rename_i s x ty ty' htys
    simp only [htys,dZ,List.map_cons,List.map_nil]
    split at h
    ·rename_i _ d hel
     cases hb:Nat.beq ty ty' with
     | false =>
      simp only [hb,cond_false] at h ⊢
      split at h
      ·rename_i hu
       exact h.elim
      ·exact h.elim
     | true =>
      simp only [hb,cond_true] at h ⊢
      unfold oI at h ⊢
      rw [zw,uM]
      rcases aL s with h1 | ⟨b,h1,rfl | rfl⟩
      ·rw [h1]; exact h
      ·exact h
      ·exact h
    ·exact h.elim
   ·rename_i s x ty ty' htys
    simp only [htys,dZ,List.map_cons,List.map_nil]
    split at h
    ·rename_i _ d hel
     cases hb:Nat.beq ty ty' with
     | false=>simp [hb,Prg.hits] at h
     | true =>
      simp only [hb,cond_true] at h ⊢
      unfold zD at h ⊢
      rw [zw,uM]
      rcases aL s with h1 | ⟨b,h1,rfl | rfl⟩
      ·rw [h1]; exact h
      ·exact h
      ·exact h
    ·exact h.elim
   ·rename_i s ty htys
    simp only [htys,dZ,List.map_cons,List.map_nil]
    split at h
    ·exact h.elim
    ·exact h.elim
   ·simp only [dZ,List.map_cons,List.map_nil,wS,jW] at h ⊢
    exact h
   ·simp only [dZ,List.map_cons,List.map_nil,wS,jW] at h ⊢
    exact h
   ·exact h.elim
  | value f =>
   cases f with
   | func f =>
    rcases vs with _ | ⟨v,r⟩
    ·exact h.elim
    ·simp only [opL,List.map_cons,mI,rn,tF,CG,CP] at h ⊢
     exact h
   | tmp t =>
    rcases vs with _ | ⟨v,r⟩
    ·exact h.elim
    ·exact h.elim
   | _=>exact h.elim
  | invoke r m=>exact h.elim
 | _=>exact h.elim
theorem lI (st:ASt):st.nfS.look=st.look:=rfl
theorem nN (st:ASt):st.nfS.base=st.base:=rfl
theorem vH (st:ASt) (d:Option Tmp):st.nfS.nid d=st.nid d:=by cases d <;> rfl
theorem kG (st:ASt) (d:Option Tmp) (v:AV):(st.put d v).nfS=st.nfS.put d v.nf:=by
 cases d with
 | none=>rfl
 | some d=>simp [ASt.nfS,ASt.put,ai,List.map_set]
theorem sC (st:ASt) (i:Nat) (b:Option BC):(st.ac i b).nfS=st.nfS.ac i b:=rfl
theorem rz (st:ASt) (t:Nat):nth (.one .junk) st.nfS.slots t=(nth (.one .junk) st.slots t).nf:=by
 simp only [ASt.nfS,bi,EP]
 cases st.slots[t]? <;> rfl
theorem AP (ps:List Nat) (st:ASt) (d:Option Nat) (e:Eff):cL ps st.nfS d e.nfE=cL ps st d e:=by
 unfold cL
 congr 1
 funext k
 cases d with
 | none=>rw [nN,cE]
 | some d=>simp only [nN,cE,rz,oD]
theorem Bj {o:Item} {st:ASt} {e:Eff} (h:kv o st e=true):kv o st.nfS e.nfE=true:=nomatch h
theorem sk (st:ASt) (x:Operand):st.nfS.ev x=(st.ev x).nf:=by
 cases x with
 | tmp t=>exact rz st t
 | const v =>
  cases v with
  | bool b=>rfl
  | _=>first | rfl | (simp only [ASt.ev]; cases Value.oneCell' _ <;> rfl)
 | global g=>rfl
 | func f=>rfl
theorem rE:∀ (l:List AV),df (l.map AV.nf)=df l
 | []=>rfl
 | v :: l=>by simp only [List.map_cons,df,jW,rE l]
theorem kE (e:Eff):iN e.nfE=iN e:=by
 cases e with
 | new b v=>cases b <;> rfl
 | _=>rfl
theorem AK {i:Item} {st:ASt} {e:Eff}:il i st.nfS e.nfE=il i st e:=by
 unfold il
 have:i.o.op.operands.toList.map st.nfS.ev=(i.o.op.operands.toList.map st.ev).map AV.nf:=by
  rw [List.map_map]
  exact List.map_congr_left fun x _=>sk st x
 rw [this,rE,kE,cE]
 rfl
theorem xj:∀ (l:List AV),jm (l.map AV.nf)=jm l
 | []=>rfl
 | v :: l=>by simp only [List.map_cons,jm,oD,xj l]
theorem pF (e:Eff):nj e.nfE=nj e:=by cases e <;> rfl
theorem yM (e:Eff):drE e.nfE=drE e:=by cases e <;> rfl
theorem rL (k:Nat) (e:Eff):uz k e.nfE=uz k e:=by cases e <;> rfl
theorem qW (v:AV):(v.nf.ce CA.deep).ip=(v.ce CA.deep).ip:=by
 rcases aL v with h | ⟨b,h,rfl | rfl⟩
 ·rw [h]
 ·rw [h]; rfl
 ·rw [h]; rfl
theorem wk:∀ (l:List AV),jm (cI CA.deep (l.map AV.nf))=jm (cI CA.deep l)
 | []=>rfl
 | v :: l=>by simp only [List.map_cons,cI,jm,qW,wk l]
theorem qv (e:Eff):ol e.nfE=ol e:=by
 cases e with
 | val v=>exact qW v
 | new b v=>exact cE (.new b v)
 | upd i b v=>exact cE (.upd i b v)
 | gen ps v=>exact cE (.gen ps v)
theorem An {i:Item} {st:ASt} {e:Eff}:cD i st.nfS e.nfE=cD i st e:=by
 unfold cD
 simp only [pF,yM,rL]
 rfl
theorem AI {i:Item} {st:ASt} {e:Eff}:dA i st.nfS e.nfE=dA i st e:=by
 unfold dA
 have hd:∀ d b,ju st.nfS d b=ju st d b:=fun d b=>by
  cases d with
  | none=>rfl
  | some d =>
   have:=sk st (.tmp d)
   simp only [ASt.ev] at this
   simp only [ju,this,oD]
 have hd2:∀ d b,gR st.nfS d b=gR st d b:=fun d b=>by
  cases d with
  | none=>rfl
  | some d =>
   have:=sk st (.tmp d)
   simp only [ASt.ev] at this
   simp only [gR,this,qW]
 simp only [hd,hd2,cE,qv]
 have:i.o.op.operands.toList.map st.nfS.ev=(i.o.op.operands.toList.map st.ev).map AV.nf:=by
  rw [List.map_map]
  exact List.map_congr_left fun x _=>sk st x
 rw [this,xj,wk]
 rfl
theorem okE_nf {i:Item} {st:ASt} {e:Eff} (h:okE i st e=true):okE i st.nfS e.nfE=true:=by
 unfold okE at h ⊢
 rw [Bool.or_eq_true] at h ⊢
 rcases h with h | h
 ·rw [An]; exact .inl h
 refine .inr ?_
 rw [Bool.or_eq_true] at h ⊢
 rcases h with h | h
 ·rw [nK,xc,nN,AP,AK,AI]; exact .inl h
 ·exact .inr (Bj h)
theorem wc (hs:Sim w0 I0 st a ov w):Sim w0 I0 st.nfS a ov w:=by
 obtain ⟨g,hs⟩:=hs
 refine ⟨g,hs.below,hs.sub,hs.lt,hs.old,by simp [ASt.nfS,hs.len],hs.defers,fun t v hv=>?_,hs.olen,hs.outs,hs.cells,hs.trees,hs.foot,hs.apart,hs.apartR,hs.res,hs.base,hs.out⟩
 simp only [ASt.nfS,EP] at hv
 cases hsl:st.slots[t]? with
 | none=>simp [hsl] at hv
 | some u =>
  simp only [hsl,EW,EL] at hv
  subst hv
  exact BL.2 (hs.slots t u hsl)
theorem fV (hs:Sim w0 I0 st.nfS a ov w):Sim w0 I0 st a ov w:=by
 obtain ⟨g,hs⟩:=hs
 refine ⟨g,hs.below,hs.sub,hs.lt,hs.old,by have:=hs.len; simpa [ASt.nfS] using this,hs.defers,fun t v hv=>?_,hs.olen,hs.outs,hs.cells,hs.trees,hs.foot,hs.apart,hs.apartR,hs.res,hs.base,hs.out⟩
 exact BL.1 (hs.slots t v.nf (by simp [ASt.nfS,hv]))
theorem nG (i r:Nat) (js:List Nat) (b:Bool) (v:AV):(v.ce (CA.drop i r js b)).nf=v.nf.ce (CA.drop i r js b):=by
 rcases aL v with h | ⟨b,h,rfl | rfl⟩
 ·rw [h]
  cases v with
  | one c =>
   have key:∀ c:CA,c.drop i r js b=c∨c.drop i r js b=.junk:=fun c=>by
    rcases iz i r js b c with ⟨h,_⟩ | h
    ·exact .inl h
    ·exact .inr h
   simp only [AV.ce]
   rcases key c with h' | h'
   ·rw [h',h]
   ·rw [h']; rfl
  | tv x=>exact h
  | _=>rfl
 ·rfl
 ·rfl
theorem Dq (st:ASt) (i r:Nat) (js:List Nat) (b:Bool):(st.az (CA.drop i r js b)).nfS=st.nfS.az (CA.drop i r js b):=by
 simp only [ASt.nfS,ASt.az]
 congr 1
 apply List.ext_getElem?
 intro t
 simp only [EP,lQ]
 cases st.slots[t]? with
 | none=>rfl
 | some v=>simp [nG]
theorem qq (i:Nat) (v:AV):(v.ce (CA.unM i)).nf=v.nf.ce (CA.unM i):=by
 cases v with
 | one c =>
  cases c with
  | t x =>
   cases x with
   | lit u=>cases u <;> rfl
   | _=>rfl
  | may j ty =>
   simp only [AV.ce,CA.unM,AV.nf]
   cases j.beq i <;> rfl
  | _=>rfl
 | tv x =>
  cases x with
  | lit u=>cases u <;> rfl
  | _=>rfl
 | _=>rfl
theorem Dz (st:ASt) (i:Nat):(st.az (CA.unM i)).nfS=st.nfS.az (CA.unM i):=by
 simp only [ASt.az,ASt.nfS]
 congr 1
 induction st.slots with
 | nil=>rfl
 | cons v l ih=>simp only [cI,List.map_cons,qq,ih]
theorem uI {i:Nat} {b:BC} (h:st.bB i b=some st'):st.nfS.bB i b=some st'.nfS:=by
 obtain ⟨h1,h2,rfl⟩:=bk h
 have h2':i.blt st.nfS.boxes.length=true:=by simpa [ASt.nfS] using h2
 simp only [ASt.bB,lI,h1,h2',cond_true,sC]
theorem qd {d:Option Tmp}:∀ {ps:List Prim} {st st':ASt},ae d ps st=some st'→ae d ps st.nfS=some st'.nfS
 | [],st,st',h=>by simp only [ae,EL] at h; subst h; rfl
 | p :: ps, st, st', h => by
  simp only [ae] at h ⊢
  cases h1:p.app st d with
  | none=>simp [h1] at h
  | some s1 =>
   simp only [h1] at h
   have:p.app st.nfS d=some s1.nfS:=by
    cases p with
    | drop i r js b =>
     simp only [Prim.app,EL] at h1 ⊢
     subst h1
     rw [Dq]
    | root i r x =>
     simp only [Prim.app,lI] at h1 ⊢
     split at h1
     ·rename_i b hb
      simp only [EL] at h1
      subst h1
      rfl
     ·cases h1
    | frz i r =>
     simp only [Prim.app,lI] at h1 ⊢
     split at h1
     ·rename_i x hx
      split at h1
      ·rename_i b hb
       simp only [EL] at h1
       subst h1
       rfl
      ·cases h1
     ·cases h1
    | unmay i =>
     simp only [Prim.app,EL] at h1 ⊢
     subst h1
     rw [Dz]
    | newB b =>
     cases d with
     | none=>simp [Prim.app] at h1
     | some d =>
      simp only [Prim.app] at h1 ⊢
      rw [vH]
      exact uI h1
    | setB i cs =>
     simp only [Prim.app,lI] at h1 ⊢
     split at h1
     ·simp only [EL] at h1
      subst h1
      rfl
     ·cases h1
   rw [this]
   exact qd h
theorem app_nf {e:Eff} {d:Option Tmp} (h:e.app st d=some st'):e.nfE.app st.nfS d=some st'.nfS:=by
 cases e with
 | val v =>
  simp only [Eff.app,Eff.nfE,EL] at h ⊢
  subst h
  rw [kG]
 | new b v =>
  cases d with
  | none=>simp [Eff.app] at h
  | some d =>
   simp only [Eff.app,Eff.nfE] at h ⊢
   rw [vH]
   split at h
   ·rename_i s1 hs1
    simp only [EL] at h
    subst h
    rw [uI hs1]
    simp only [kG]
   ·cases h
 | upd i b v =>
  simp only [Eff.app,Eff.nfE,EL] at h ⊢
  subst h
  rw [kG,sC]
 | gen ps v =>
  simp only [Eff.app,Eff.nfE] at h ⊢
  split at h
  ·rename_i s1 hs1
   simp only [EL] at h
   subst h
   rw [qd hs1]
   simp only [kG]
  ·cases h
theorem j8 {d:Option Tmp} {v:AV} (hs:Sim w0 I0 (st.put d v) a ov w):Sim w0 I0 (st.put d v.nf) a ov w:=by
 apply fV
 have:=wc hs
 rw [kG] at this ⊢
 rwa [zk]
theorem D7 {e:Eff} {d:Option Tmp} (h:e.nfE.app st d=some st'):∃ st1,e.app st d=some st1∧∀ w0 I0 a ov w,Sim w0 I0 st1 a ov w→Sim w0 I0 st' a ov w:=by
 cases e with
 | val v =>
  simp only [Eff.app,Eff.nfE,EL] at h ⊢
  subst h
  exact ⟨_,rfl,fun w0 I0 a ov w hs=>j8 hs⟩
 | new b v =>
  cases d with
  | none=>simp [Eff.app,Eff.nfE] at h
  | some d =>
   simp only [Eff.app,Eff.nfE] at h ⊢
   split at h
   ·rename_i s1 hs1
    simp only [EL] at h
    subst h
    exact ⟨_,rfl,fun w0 I0 a ov w hs=>j8 hs⟩
   ·cases h
 | upd i b v =>
  simp only [Eff.app,Eff.nfE,EL] at h ⊢
  subst h
  exact ⟨_,rfl,fun w0 I0 a ov w hs=>j8 hs⟩
 | gen ps v =>
  simp only [Eff.app,Eff.nfE] at h ⊢
  split at h
  ·rename_i s1 hs1
   simp only [EL] at h
   subst h
   exact ⟨_,rfl,fun w0 I0 a ov w hs=>j8 hs⟩
  ·cases h
end
end Go.Ab
end
section
namespace Go.Ab
open Go.RowKit
def Prg.All {R:Type} (p:R→Prop):Prg R→Prop
 | .fail=>True
 | .ret e=>p e
 | .tv _ k=>∀ v,(k v).All p
 | .tvs _ k=>∀ v,(k v).All p
 | .rws _ k=>∀ v,(k v).All p
 | .nat _ k=>∀ v,(k v).All p
 | .chk _ k=>k.All p
 | .ite _ t e=>t.All p∧e.All p
 | .call _ _ k=>∀ v,(k v).All p
 | .jmp _ _=>True
theorem Prg.All.hits {R:Type} {C:Cal} {p:R→Prop} {e:R}:∀ {o:Prg R},o.All p→o.hits C e→p e
 | .ret e',h,h'=>by cases h'; exact h
 | .tv _ k,h,⟨v,_,h'⟩=>(h v).hits h'
 | .tvs _ k,h,⟨v,_,h'⟩=>(h v).hits h'
 | .rws _ k,h,⟨v,_,h'⟩=>(h v).hits h'
 | .nat _ k,h,⟨v,_,h'⟩=>(h v).hits h'
 | .chk _ k,h,⟨_,h'⟩=>Prg.All.hits (o:=k) h h'
 | .ite _ t e,h,⟨v,_,.inl ⟨_,h'⟩⟩=>Prg.All.hits (o:=t) h.1 h'
 | .ite _ t e,h,⟨v,_,.inr ⟨_,h'⟩⟩=>Prg.All.hits (o:=e) h.2 h'
 | .call _ _ k,h,⟨v,_,h'⟩=>(h v).hits h'
section
variable {E:Env} {look look':Look} {p:Eff→Prop} {id:Nat}
theorem aU {b:Bool} {x y:Out} (hx:x.All p) (hy:y.All p):(bif b then x else y).All p:=by cases b <;> assumption
theorem lq {q:Way} {x:TV} {k:TV→Out} (h:∀ y,(k y).All p):(qM q x k).All p:=by
 unfold qM
 split
 ·exact h _
 ·exact h
theorem gH {c:CA} {k:TV→Out} (h:∀ y,(k y).All p):(jg look c k).All p:=by
 unfold jg
 split
 ·exact h _
 ·split
  ·exact lq h
  ·exact trivial
 ·split
  ·exact lq fun y z=>h z
  ·exact trivial
 ·exact trivial
theorem rD {v:AV} {k:TV→Out} (h:∀ y,(k y).All p):(vD look v k).All p:=by
 unfold vD
 split
 ·exact gH h
 ·exact h _
 ·exact h _
 ·exact trivial
theorem u5 {c:CA} {k:TV→Out} (h:∀ y,(k y).All p):(sd look c k).All p:=by
 unfold sd
 split
 ·exact h _
 ·exact gH fun y=>h _
 ·exact gH fun y=>h _
 ·exact trivial
theorem u7 {k:List TV→Out}:∀ {cs:List CA} {k:List TV→Out},(∀ y,(k y).All p)→(zm look cs k).All p
 | [],k,h=>h _
 | c :: cs,k,h=>u5 fun y=>u7 (k:=fun _=>.fail) fun ys=>h _
theorem AM {v:AV} {k:TV→Out} (h:∀ y,(k y).All p):(rG look v k).All p:=by
 unfold rG
 split
 ·exact u5 h
 ·exact h _
 ·exact u7 (k:=fun _=>.fail) fun ys=>h _
 ·exact trivial
 ·exact trivial
 ·exact h _
theorem o9:∀ {vs:List AV} {k:List TV→Out},(∀ y,(k y).All p)→(lends look vs k).All p
 | [],k,h=>h _
 | v :: vs,k,h=>AM fun y=>o9 fun ys=>h _
theorem ud {c:CA} {k:TV→List (Nat × Nat)→Out} (h:∀ y r,(k y r).All p):(sR look c k).All p:=by
 unfold sR
 split
 ·exact h _ _
 ·split
  ·split
   ·exact h _ _
   ·exact fun y=>h _ _
  ·exact trivial
 ·split
  ·split
   ·exact fun y=>h _ _
   ·exact fun z y=>h _ _
  ·exact trivial
 ·exact trivial
theorem tW:∀ {cs:List CA} {k:List TV→List (Nat × Nat)→Out},(∀ y r,(k y r).All p)→(zu look cs k).All p
 | [],k,h=>h _ _
 | c :: cs,k,h=>ud fun y r=>tW fun ys rs=>h _ _
theorem A3 {v:AV} {k:TV→List (Nat × Nat)→Out} (h:∀ y r,(k y r).All p):(sw look v k).All p:=by
 unfold sw
 split
 ·exact ud h
 ·exact h _ _
 ·exact tW fun ys rs=>h _ _
 ·exact trivial
 ·exact trivial
 ·exact h _ _
theorem pG:∀ {vs:List AV} {k:List TV→List (Nat × Nat)→Out},(∀ y r,(k y r).All p)→(hands look vs k).All p
 | [],k,h=>h _ _
 | v :: vs,k,h=>A3 fun y r=>pG fun ys rs=>h _ _
theorem dC:∀ {cs:List CA} {k:List TV→List Prim→List (Nat × Nat)→Out},(∀ y q r,(k y q r).All p)→(bJ look cs k).All p
 | [],k,h=>h _ _ _
 | .t x :: l,k,h=>by
  simp only [bJ]
  exact dC (cs:=l) fun xs ps ts=>h _ _ _
 | .sref i r q :: l, k, h => by
  simp only [bJ]
  split
  ·split
   ·exact dC (cs:=l) fun xs ps ts=>h _ _ _
   ·exact fun y=>dC (cs:=l) fun xs ps ts=>h _ _ _
  ·exact trivial
 | .swin i r q lo len :: l, k, h => by
  simp only [bJ]
  split
  ·split
   ·exact fun y=>dC (cs:=l) fun xs ps ts=>h _ _ _
   ·exact fun z y=>dC (cs:=l) fun xs ps ts=>h _ _ _
  ·exact trivial
 | .ptr _ _ :: l,k,h=>trivial
 | .ref _ _ :: l,k,h=>trivial
 | .tptr _ _ _ _ _ :: l,k,h=>trivial
 | .may _ _ :: l,k,h=>trivial
 | .aptr _ _ _ _ :: l,k,h=>trivial
 | .yl _ :: l,k,h=>trivial
 | .undef :: l,k,h=>trivial
 | .junk :: l,k,h=>trivial
theorem eg {agg:Bool} {n:Nat} {x:AV} {k:List CA→Out} (h:∀ cs,(k cs).All p):(x.bd agg n k).All p:=by
 unfold AV.bd
 split
 ·rename_i c; cases c.kept <;> first | exact trivial | exact h _
 ·exact h _
 ·exact h _
 ·rename_i cs; cases cs.length.beq n <;> first | exact trivial | exact h _
 ·exact h _
 ·exact trivial
theorem rJ {at_:Nat→Option (Nat × Bool × Nat)} {k:List CA→Out} (h:∀ cs,(k cs).All p):∀ (is:List Nat) (vs:List AV) (cs:List CA),(bV at_ is vs cs k).All p
 | [],[],cs=>h cs
 | i :: is, x :: vs, cs => by
  simp only [bV]
  split
  ·refine eg (fun ps=>?_)
   exact aU (rJ h is vs _) trivial
  ·exact trivial
 | [],_ :: _,cs=>trivial
 | _ :: _,[],cs=>trivial
theorem iT {v:Option AV} {k:Option Nat→Out} (h:∀ n,(k n).All p):(io v k).All p:=by
 unfold io
 split
 ·exact h _
 ·split
  ·exact fun v=>h _
  ·exact trivial
abbrev jo (e:Eff):Prop:=∃ v,e=.val v
abbrev mF (e:Eff):Prop:=∃ b v,e=.new b v
theorem xp {d:TyD} {x:List TV} {off:Nat}:(nR d x off).All jo:=by
 unfold nR
 cases d.kd.isAgg
 ·exact ⟨_,rfl⟩
 ·exact ⟨_,rfl⟩
theorem ub:∀ {vs:List AV} {k:List CA→Out},(∀ cs,(k cs).All p)→(kY vs k).All p
 | [],k,h=>h _
 | v :: vs,k,h=>eg fun cs=>ub fun cs'=>h _
theorem ED {op:Op} (h:aq op=.N) (vs:List AV):(opL E id look op vs).All jo:=by
 cases op with
 | move x=>rcases vs with _ | ⟨v,_ | ⟨v',r⟩⟩ <;> first | exact trivial | exact ⟨_,rfl⟩
 | assign x=>rcases vs with _ | ⟨v,_ | ⟨v',r⟩⟩ <;> first | exact trivial | exact ⟨_,rfl⟩
 | pick c x y =>
  rcases vs with _ | ⟨v,_ | ⟨v',_ | ⟨v'',_ | ⟨v3,r⟩⟩⟩⟩ <;> first | exact trivial | skip
  simp only [opL]
  split <;> first | exact trivial | exact ⟨_,rfl⟩
 | build t parts =>
  simp only [opL]
  split
  ·refine aU ?_ trivial
   refine rJ ?_ _ _ _
   exact fun cs=>⟨_,rfl⟩
  ·exact trivial
 | nilCheck x =>
  rcases vs with _ | ⟨v,_ | ⟨v',r⟩⟩ <;> first | exact trivial | skip
  simp only [opL]
  split <;> first | exact trivial | exact ⟨_,rfl⟩
 | unOp op xt x =>
  rcases vs with _ | ⟨v,_ | ⟨v',r⟩⟩ <;> first | exact trivial | skip
  simp only [opL]
  split
  ·exact ⟨_,rfl⟩
  ·split
   ·exact fun v=>⟨_,rfl⟩
   ·exact trivial
 | fieldAddr t x f =>
  rcases vs with _ | ⟨v,_ | ⟨v',r⟩⟩ <;> first | exact trivial | skip
  simp only [opL]
  split
  ·split
   ·refine aU ?_ trivial
    split <;> first | exact trivial | exact ⟨_,rfl⟩
   ·exact trivial
  ·exact trivial
 | field t x f =>
  rcases vs with _ | ⟨v,_ | ⟨v',r⟩⟩ <;> first | exact trivial | skip
  simp only [opL]
  split
  ·split
   ·unfold vS
    split
    ·split
     ·split <;> first | exact trivial | exact ⟨_,rfl⟩
     ·exact trivial
    ·exact ⟨_,rfl⟩
    ·exact trivial
   ·exact trivial
  ·exact trivial
 | index t x y =>
  rcases vs with _ | ⟨v,_ | ⟨v',_ | ⟨v'',r⟩⟩⟩ <;> first | exact trivial | skip
  simp only [opL]
  split <;> first | exact trivial | exact fun v=>⟨_,rfl⟩
 | extract x j =>
  rcases vs with _ | ⟨v,_ | ⟨v',r⟩⟩ <;> first | exact trivial | skip
  simp only [opL]
  split
  ·split
   ·split <;> first | exact trivial | exact ⟨_,rfl⟩
   ·exact trivial
  ·exact trivial
 | makeFunc fn first cap =>
  cases fn with
  | func f =>
   simp only [opL]
   exact aU (ub fun cs=>⟨_,rfl⟩) trivial
  | _=>exact trivial
 | call c =>
  obtain ⟨callee,args,tys⟩:=c
  cases callee with
  | builtin b=>cases b <;> simp [aq] at h
  | value f=>cases f <;> simp [aq] at h
  | invoke r m=>simp [aq] at h
 | _=>simp [aq] at h
theorem Ey {op:Op} (h:aq op=.R) (vs:List AV):(opL E id look op vs).All jo:=by
 cases op with
 | load t x =>
  rcases vs with _ | ⟨v,_ | ⟨v',r⟩⟩ <;> first | exact trivial | skip
  simp only [opL]
  split
  ·unfold B6
   split
   ·refine aU trivial ?_
    split
    ·exact fun v=>⟨_,rfl⟩
    ·exact trivial
   ·split
    ·split
     ·split
      ·exact ⟨_,rfl⟩
      ·exact trivial
     ·exact trivial
    ·exact trivial
   ·exact xp
   ·split
    ·refine lq (fun s e=>?_)
     simp only [Prg.All]
     split
     ·exact ⟨_,rfl⟩
     ·exact trivial
    ·exact trivial
   ·exact trivial
  ·exact trivial
 | convert xt dt x =>
  rcases vs with _ | ⟨v,_ | ⟨v',r⟩⟩ <;> first | exact trivial | skip
  simp only [opL]
  split
  ·unfold zH
   split
   ·exact trivial
   ·split
    ·exact fun v=>⟨_,rfl⟩
    ·exact trivial
  ·exact trivial
 | binOp op xt x y yt =>
  rcases vs with _ | ⟨v,_ | ⟨v',_ | ⟨v'',r⟩⟩⟩ <;> first | exact trivial | skip
  simp only [opL]
  split
  ·unfold DV
   split
   ·split
    ·refine eg fun cs=>eg fun cs'=>?_
     split
     ·exact fun v=>⟨_,rfl⟩
     ·exact trivial
    ·exact trivial
   ·unfold D6
    split
    ·exact ⟨_,rfl⟩
    ·exact ⟨_,rfl⟩
    ·exact trivial
   unfold Em
   refine aU (rD fun x=>rD fun y=>fun v=>⟨_,rfl⟩) ?_
   split
   ·exact fun v=>⟨_,rfl⟩
   ·exact trivial
  ·exact trivial
 | slice t x lo hi mx =>
  have sl:∀ {kd:Kd} {sz:Nat} {x:AV} {lo hi:Option AV},(iY look kd sz x lo hi).All jo:=by
   intro kd sz x lo hi
   unfold iY
   split
   ·exact iT fun lo=>iT fun hi=>fun v=>⟨_,rfl⟩
   ·split
    ·exact gH fun s n=>iT fun lo=>iT fun hi=>⟨_,rfl⟩
    ·split
     ·exact gH fun s=>iT fun hi=>⟨_,rfl⟩
     ·exact trivial
    ·exact trivial
  cases mx with
  | some m=>rcases vs with _ | ⟨v,r⟩ <;> exact trivial
  | none =>
   rcases vs with _ | ⟨v,r⟩
   ·exact trivial
   ·simp only [opL]
    split
    ·split
     ·split <;> first | exact trivial | exact sl
     ·exact trivial
    ·exact trivial
 | indexAddr t x y =>
  rcases vs with _ | ⟨v,_ | ⟨v',_ | ⟨v'',r⟩⟩⟩ <;> first | exact trivial | skip
  simp only [opL]
  split
  ·unfold pr
   split
   ·split
    ·exact fun v=>⟨_,rfl⟩
    ·split
     ·exact gH fun s n k=>⟨_,rfl⟩
     ·exact gH fun s k=>⟨_,rfl⟩
     ·exact trivial
   ·exact trivial
  ·unfold rf
   split
   ·split
    ·exact aU (fun k=>⟨_,rfl⟩) trivial
    ·exact trivial
   ·exact trivial
 | call c =>
  obtain ⟨callee,args,tys⟩:=c
  cases callee with
  | builtin b =>
   have mn:∀ {mx:Bool} {x y:AV},(wS mx x y).All jo:=by
    intro mx x y
    unfold wS
    split
    ·exact fun v=>⟨_,rfl⟩
    ·exact trivial
   cases b <;> simp [aq] at h
   all_goals simp only [opL]
   all_goals unfold dZ
   all_goals split <;> first | exact trivial | exact mn | contradiction | skip
   split
   ·unfold x6
    split
    ·exact ⟨_,rfl⟩
    ·exact rD fun s v=>⟨_,rfl⟩
   ·exact trivial
  | value f=>cases f <;> simp [aq] at h
  | invoke r m=>simp [aq] at h
 | _=>simp [aq] at h
theorem cls_A {op:Op} (h:aq op=.A) (vs:List AV):(opL E id look op vs).All mF:=by
 cases op with
 | alloc t =>
  rcases vs with _ | ⟨v,r⟩ <;> first | exact trivial | skip
  simp only [opL]
  split
  ·exact ⟨_,_,rfl⟩
  ·exact trivial
 | box t x =>
  rcases vs with _ | ⟨v,_ | ⟨v',r⟩⟩ <;> first | exact trivial | skip
  simp only [opL]
  split
  ·exact eg (fun cs=>⟨_,_,rfl⟩)
  ·exact trivial
 | makeSlice t x y =>
  rcases vs with _ | ⟨v,_ | ⟨v',_ | ⟨v'',r⟩⟩⟩ <;> first | exact trivial | skip
  simp only [opL]
  split
  ·refine aU ?_ trivial
   exact fun n m=>⟨_,_,rfl⟩
  ·exact trivial
 | call c =>
  obtain ⟨callee,args,tys⟩:=c
  cases callee with
  | builtin b=>cases b <;> simp [aq] at h
  | value f=>cases f <;> simp [aq] at h
  | invoke r m=>simp [aq] at h
 | _=>simp [aq] at h
theorem jk {ps:List Prim} {b:BC} {v:AV}:(cV ps b v).plain=true→jo (cV ps b v)∨mF (cV ps b v):=by
 cases ps with
 | nil=>exact fun _=>.inr ⟨_,_,rfl⟩
 | cons q l=>exact fun h=>by cases h
theorem ue {ps:List Prim} {v:AV}:(match ps with | []=>Eff.val v | _=>.gen ps v).plain=true→jo (match ps with | []=>Eff.val v | _=>.gen ps v)∨mF (match ps with | []=>Eff.val v | _=>.gen ps v):=by
 cases ps with
 | nil=>exact fun _=>.inl ⟨_,rfl⟩
 | cons q l=>exact fun h=>by cases h
theorem ky {d:TyD} {x:TV} {k:Out} (h:k.All p):(jE d x k).All p:=by
 unfold jE
 exact aU h h
theorem qf {x:TV} {k:Out} (h:k.All p):∀ (ds:List TyD) (j:Nat),(gD x ds j k).All p
 | [],j=>h
 | d :: ds,j=>ky (qf h ds (j + 1))
theorem wY {ds:List TyD} {v:TV} {ps:List Prim}:(vx id ds v ps).All fun e=>e.plain=true→jo e∨mF e:=by
 have many:∀ ds:List TyD,(Prg.chk (v.isTup ds.length) (gD v ds 0 (bif gS ds then .ret (cV ps (.tree (bn v ds 0)) (.tups (dN id v ds 0 0)))
   else .ret (match ps with | []=>.val (.tups (dN id v ds 0 0)) | _=>.gen ps (.tups (dN id v ds 0 0)))))).All fun e=>e.plain=true→jo e∨mF e:=by
  intro ds
  refine qf ?_ ds 0
  exact aU jk ue
 match ds with
 | []=>exact many []
 | [d] =>
  simp only [vx]
  refine ky ?_
  split
  ·exact aU jk ue
  ·exact trivial
 | d :: d' :: l=>exact many _
theorem Cp {ds:List TyD} {v:TV} {k:AV→Out} {p:Eff→Prop} (h:∀ av,(k av).All p):(BA id ds v k).All p:=by
 have some:∀ (ds:List TyD) (j:Nat) (k:Out),k.All p→(gD v ds j k).All p:=by
  intro ds
  induction ds with
  | nil=>intro j k h; exact h
  | cons d ds ih=>intro j k h; exact ky (ih (j + 1) k h)
 unfold BA
 split
 ·refine ky ?_
  split
  ·exact h _
  ·exact trivial
 ·exact some _ 0 _ (h _)
theorem A0 {f:FuncId} {ld:fd} {vs:List AV}:(nH E id look f ld vs).All fun e=>e.plain=true→jo e∨mF e:=by
 unfold nH
 split
 ·split
  ·refine aU trivial ?_
   exact pG fun xs rs=>dC fun ys qs ts=>aU (fun v=>Cp fun av=>fun h=>by simp [Eff.plain] at h) trivial
  ·exact trivial
 ·exact trivial
theorem Ap {f:FuncId} {c:Nat × Nat} {vs:List AV}:(nW look f c vs).All fun e=>e.plain=true→jo e∨mF e:=by
 unfold nW
 split
 ·split
  ·split
   ·exact aU (o9 fun xs=>fun v=>fun _=>.inl ⟨_,rfl⟩) trivial
   ·exact trivial
  ·exact trivial
 ·exact trivial
theorem cls_B {op:Op} (h:aq op=.B) (vs:List AV):(opL E id look op vs).All fun e=>e.plain=true→jo e∨mF e:=by
 cases op with
 | buildSlice t len parts =>
  simp only [opL]
  split
  ·refine rJ (fun cs=>?_) _ _ _
   refine dC fun ys qs ts=>?_
   exact aU jk trivial
  ·exact trivial
 | call c =>
  obtain ⟨callee,args,tys⟩:=c
  cases callee with
  | builtin b=>cases b <;> simp [aq] at h
  | value f =>
   cases f with
   | func f =>
    rcases vs with _ | ⟨v,r⟩
    ·exact trivial
    ·simp only [opL,mI]
     split
     ·exact Ap
     split
     ·exact A0
     ·split
      ·refine aU ?_ ?_
       ·exact o9 fun xs=>fun v=>wY
       ·exact pG fun xs rs=>aU (fun v=>wY) trivial
      ·exact trivial
   | tmp t =>
    rcases vs with _ | ⟨v,r⟩
    ·exact trivial
    ·exact trivial
   | _=>simp [aq] at h
  | invoke r m=>simp [aq] at h
 | _=>simp [aq] at h
abbrev isUpd (look:Look) (e:Eff):Prop:=∃ i b v,e=.upd i b v∧(look i).isSome=true
theorem BR {op : Op} (h : aq op = .W) (vs : List AV) : (opL E id look op vs).All fun e => e.plain = true → isUpd look e := by
 cases op with
 | store t x y =>
  rcases vs with _ | ⟨v,_ | ⟨v',_ | ⟨v'',r⟩⟩⟩ <;> first | exact trivial | skip
  simp only [opL]
  split
  ·unfold vR
   split
   ·refine aU trivial ?_
    split
    ·rename_i cs xs hrow
     refine eg (fun ps=>?_)
     split
     ·exact fun _=>⟨_,_,_,rfl,by simp [(ln hrow).1]⟩
     ·exact trivial
    ·exact trivial
   ·refine eg (fun ps=>?_)
    split
    ·rename_i cs hl
     exact aU (fun _=>⟨_,_,_,rfl,by simp [hl]⟩) trivial
    ·exact trivial
   ·refine eg (fun ps=>?_)
    split
    ·refine aU trivial (aU ?_ ?_)
     ·refine dC fun ys qs ts=>aU ?_ trivial
      exact lq fun s e=>fun x' hp=>by cases hp
     ·refine dC fun ys qs ts=>?_
      split
      ·refine aU ?_ trivial
       refine lq fun s e=>?_
       simp only [Prg.All]
       intro x'
       split
       ·rename_i b hb
        refine fun _=>⟨_,_,_,rfl,?_⟩
        unfold ct at hb
        split at hb
        ·rename_i hl; simp [hl]
        ·cases hb
       ·exact trivial
      ·exact trivial
    ·exact trivial
   ·exact trivial
  ·exact trivial
 | call c =>
  obtain ⟨callee,args,tys⟩:=c
  cases callee with
  | builtin b=>cases b <;> simp [aq] at h
  | value f=>cases f <;> simp [aq] at h
  | invoke r m=>simp [aq] at h
 | _=>simp [aq] at h
theorem xk {d:TyD} {s:AV} {news:List (List TV)} {ps:List Prim}:(oj id look d s news ps).All fun e=>e.plain=true→jo e∨mF e:=by
 unfold oj
 split
 ·exact aU (fun y=>jk) trivial
 ·split
  ·split
   ·split
    ·exact fun y h=>by cases h
    ·exact fun z y x' h=>by cases h
   ·exact trivial
  ·split
   ·split
    ·exact fun z y h=>by cases h
    ·exact fun z0 z y x' h=>by cases h
   ·exact trivial
  ·exact trivial
theorem Da {d:TyD} {dest:Option Nat} {x:AV} {k:List (List TV)→List Prim→Out} (h:∀ xs ps,(k xs ps).All p):(xE look d dest x k).All p:=by
 unfold xE
 split
 ·exact fun xs=>h _ _
 ·split
  ·refine aU ?_ ?_
   ·split
    ·split
     ·split
      ·exact aU trivial (fun xs=>h _ _)
      ·exact fun y=>fun xs=>h _ _
     ·exact trivial
    ·split
     ·split
      ·exact aU trivial (fun y xs=>h _ _)
      ·exact fun z y=>fun xs=>h _ _
     ·exact trivial
    ·exact trivial
   ·exact gH (fun s xs=>h _ _)
  ·exact trivial
theorem cls_P {op:Op} (h:aq op=.P) (vs:List AV):(opL E id look op vs).All fun e=>e.plain=true→jo e∨mF e:=by
 cases op with
 | call c =>
  obtain ⟨callee,args,tys⟩:=c
  cases callee with
  | builtin b =>
   cases b <;> simp [aq] at h
   simp only [opL]
   unfold dZ
   split <;> try (first | exact trivial | contradiction)
   split
   ·refine aU ?_ ?_
    ·unfold oI
     exact aU (Da (fun xs ps=>xk)) trivial
    ·split
     ·exact trivial
     ·exact trivial
   ·exact trivial
  | value f=>cases f <;> simp [aq] at h
  | invoke r m=>simp [aq] at h
 | _=>simp [aq] at h
theorem vc {op:Op} (h:aq op=.N∨aq op=.A) (vs:List AV):opL E id look op vs=opL E id look' op vs:=by
 cases op <;> first
  | (rcases vs with _ | ⟨a,_ | ⟨b,_ | ⟨c,_ | ⟨d,r⟩⟩⟩⟩ <;> rfl)
  | (simp [aq] at h; done)
  | (rename_i fn _ _; cases fn <;> rfl)
  | skip
 all_goals
  rename_i c
  obtain ⟨callee,args,tys⟩:=c
  cases callee with
  | builtin b=>cases b <;> simp [aq] at h
  | value f=>cases f <;> simp [aq] at h
  | invoke r m=>simp [aq] at h
end
end Go.Ab
end

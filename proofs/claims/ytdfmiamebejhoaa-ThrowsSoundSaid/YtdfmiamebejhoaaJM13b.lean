import Derived.Test.YtdfmiamebejhoaaJM12b
set_option linter.all false
section
namespace Go.Ab
open Go.RowKit
structure gP (P:Program) (G:Laid) (E:Env) (C:Cal):Prop where
 ty:∀ t d,E.T t=some d->aR P t d
 call:ws P G E C
section
variable {P:Program} {E:Env} {C:Cal} {w0:Bs} {w w':World} {I0 I R:Nat->Prop} {g g':Gh} {st st':ASt} {a:Act} {ov:List Value} {look:Look} {Q:Exit->Act->World->Prop} {id:Nat}
theorem BZ (hE:gP P w0.G E C) (hlk:∀ i b,look i=some b->st.look i=some b) (hs:ak w0 I0 NoR g st a ov w) {o:Oper} {e:Eff} (hh:(opL E (st.nid o.dst) look o.op (o.op.operands.toList.map st.ev)).hits C e) (ha:e.app st o.dst=some st') :
  Good P w0 I0 ov o st' a w Q:=by
 obtain ⟨dst,op,type,pos,after,guard⟩:=o
 cases op with
 | move x=>exact Ed hs hh ha
 | assign x=>exact zY hs hh ha
 | pick c x y=>exact DL hs hh ha
 | alloc t=>exact C9 hE.ty hs hh ha
 | box t x=>exact op_box hE.ty hs hh ha
 | build t parts=>exact Cn hE.ty hs hh ha
 | makeFunc fn first cap=>exact vV hs hh ha
 | buildSlice t len parts =>
  simp only [opL] at hh
  cases hc:E.cold t && !(len.beq 0) with
  | true=>rw [hc] at hh; exact Dw hE.ty hlk hs hh ha
  | false=>rw [hc] at hh; exact tq hE.ty hlk hs hh ha
 | load t x=>exact Dm hE.ty hlk hs hh ha
 | store t x y=>exact Bg hE.ty hlk hs hh ha
 | nilCheck x=>exact xw hs hh ha
 | binOp op xt x y yt=>exact op_bin hE.ty hlk hs hh ha
 | unOp op xt x=>exact op_un hs hh ha
 | convert xt dt x=>exact xI hE.ty hlk hs hh ha
 | makeSlice t x y=>exact vp hE.ty hs hh ha
 | makeInterface t x=>exact op_ifc hE.ty hs hh ha
 | typeAssert x xt t ok=>exact Dn hE.ty hs hh ha
 | slice t x lo hi mx=>exact CJ hE.ty hlk hs hh ha
 | fieldAddr t x f=>exact vk hE.ty hs hh ha
 | field t x f=>exact CK hE.ty hs hh ha
 | indexAddr t x y=>exact vB hE.ty hlk hs hh ha
 | index t x y=>exact Bx hE.ty hs hh ha
 | extract x j=>exact xX hs hh ha
 | call c =>
  obtain ⟨callee,args,tys⟩:=c
  cases callee with
  | builtin b =>
   have hops:(Op.call ⟨.builtin b,args,tys⟩).operands.toList=args.toList:=by simp [Op.operands,Call.operands]
   simp only [hops] at hh
   simp only [opL] at hh
   unfold eg at hh
   split at hh
   ·rename_i x ty hargs htys
    obtain ⟨ox,rfl,hox⟩:=list1 hargs
    have:=arr1 htys
    subst this
    split at hh
    ·rename_i d hT
     rw [<- hox] at hh
     exact xL hlk hs (hE.ty _ _ hT) hh ha
    ·exact hh.elim
   ·rename_i s x ty ty' hargs htys
    obtain ⟨os,ox,rfl,hos,hox⟩:=list2 hargs
    have:=arr2 htys
    subst this
    split at hh
    ·rename_i e1 d hel
     cases hb:Nat.beq ty ty' with
     | false =>
      simp only [hb,cond_false] at hh
      split at hh
      ·rename_i hu
       exact hh.elim
      ·exact hh.elim
     | true =>
      simp only [hb,cond_true] at hh
      have:=(aB _ _).1 hb
      subst this
      rw [<- hos,<- hox] at hh
      exact tn hE.ty hlk hs hel hh ha
    ·exact hh.elim
   ·rename_i s x ty ty' hargs htys
    obtain ⟨os,ox,rfl,hos,hox⟩:=list2 hargs
    have:=arr2 htys
    subst this
    split at hh
    ·rename_i e1 d hel
     cases hb:Nat.beq ty ty' with
     | false=>simp [hb,Prg.hits] at hh
     | true =>
      simp only [hb,cond_true] at hh
      have:=(aB _ _).1 hb
      subst this
      rw [<- hos,<- hox] at hh
      exact wJ hE.ty hlk hs hel hh ha
    ·exact hh.elim
   ·rename_i s ty hargs htys
    obtain ⟨os,rfl,hos⟩:=list1 hargs
    have:=arr1 htys
    subst this
    split at hh
    ·rename_i e1 d hel
     exact hh.elim
    ·exact hh.elim
   ·rename_i x y hargs
    obtain ⟨ox,oy,rfl,hox,hoy⟩:=list2 hargs
    rw [<- hox,<- hoy] at hh
    exact sO hs hh ha
   ·rename_i x y hargs
    obtain ⟨ox,oy,rfl,hox,hoy⟩:=list2 hargs
    rw [<- hox,<- hoy] at hh
    exact sO hs hh ha
   ·exact hh.elim
  | value f =>
   cases f with
   | func f =>
    have hops:(Op.call ⟨.value (.func f),args,tys⟩).operands.toList=.func f :: args.toList:=by simp [Op.operands,Call.operands]
    simp only [hops,List.map_cons] at hh
    exact DH hE.call hE.ty hlk hs hh ha
   | tmp t =>
    have hops:(Op.call ⟨.value (.tmp t),args,tys⟩).operands.toList=.tmp t :: args.toList:=by simp [Op.operands,Call.operands]
    simp only [hops,List.map_cons] at hh
    exact op_dyn hE.call hE.ty hlk hs hh ha
   | _=>simp [opL,Prg.hits] at hh
  | invoke r m=>simp [opL,Prg.hits] at hh
 | _=>simp [opL,Prg.hits] at hh
def AV.nf:AV->AV
 | .one (.t (.lit (.bool b)))=>.bl b
 | .tv (.lit (.bool b))=>.bl b
 | v=>v
def Eff.nfE:Eff->Eff
 | .val v=>.val v.nf
 | .new b v=>.new b v.nf
 | .upd i b v=>.upd i b v.nf
 | .gen ps v=>.gen ps v.nf
def ASt.nfS (st:ASt):ASt:=⟨st.slots.map AV.nf,st.boxes,st.out⟩
theorem aF (v:AV):v.nf=v\/∃ b,v.nf=.bl b/\(v=.one (.t (.lit (.bool b)))\/v=.tv (.lit (.bool b))):=by
 unfold AV.nf
 split
 ·exact .inr ⟨_,rfl,.inl rfl⟩
 ·exact .inr ⟨_,rfl,.inr rfl⟩
 ·exact .inl rfl
theorem ux (v:AV):v.nf.nf=v.nf:=by
 rcases aF v with h | ⟨b,h,_⟩
 ·rw [h,h]
 ·rw [h]; rfl
theorem ie (v:AV):v.nf.tv? = v.tv? := by
 rcases aF v with h | ⟨b,h,rfl | rfl⟩
 ·rw [h]
 ·rfl
 ·rfl
theorem BX {v:AV} {u:Value}:bL w g look v.nf u ↔ bL w g look v u:=by
 rcases aF v with h | ⟨b,h,rfl | rfl⟩
 ·rw [h]
 ·rw [h]
  constructor
  ·intro h'
   have:u=.bool b:=h'
   subst this
   exact ⟨.lit _,rfl⟩
  ·intro h'
   exact bJ h'.1
 ·rw [h]
  constructor
  ·intro h'
   have:u=.bool b:=h'
   subst this
   exact .lit _
  ·intro h'
   exact bJ h'
theorem nZ (v:AV):v.nf.ic=v.ic:=by
 rcases aF v with h | ⟨b,h,rfl | rfl⟩
 ·rw [h]
 ·rw [h]; rfl
 ·rw [h]; rfl
theorem cB (e:Eff):eP e.nfE=eP e:=by cases e <;> simp only [Eff.nfE,eP,nZ]
theorem nU (e:Eff):e.nfE.plain=e.plain:=by cases e <;> rfl
theorem xq (base:Nat) (own:List (List Nat × List Nat)) (e:Eff):e.nfE.qo base own=e.qo base own:=by cases e <;> rfl
theorem vP {S:Type} {agg:Bool} {n:Nat} {v:AV} {k k':List CA->Prg S} {e:S} (hk:∀ cs,(k cs).hits C e->(k' cs).hits C e) (h:(v.aT agg n k).hits C e):(v.aT agg n k').hits C e:=by
 unfold AV.aT at h ⊢
 split at h
 ·rename_i c
  cases hc:c.kept with
  | true=>rw [hc] at h; exact hk _ h
  | false=>rw [hc] at h; exact h.elim
 ·exact ⟨h.1,hk _ h.2⟩
 ·exact hk _ h
 ·exact hk _ h
 ·rename_i cs
  cases hc:cs.length.beq n with
  | true=>rw [hc] at h; exact hk _ h
  | false=>rw [hc] at h; exact h.elim
 ·exact ⟨h.1,hk _ h.2⟩
 ·exact h.elim
theorem fk {S:Type} {agg:Bool} {n:Nat} {v:AV} {k:List CA->Prg S} {e:S} (h:(v.aT agg n k).hits C e):(v.nf.aT agg n k).hits C e:=by
 rcases aF v with h1 | ⟨b,h1,rfl | rfl⟩
 ·rwa [h1]
 ·rw [h1]
  cases agg with
  | false=>exact h
  | true=>exact h.elim
 ·rw [h1]
  cases agg with
  | false=>exact h.2
  | true=>exact (by simp [AV.aT,TV.isAgg,Prg.hits] at h)
theorem kZ {S:Type} {e:S}:∀ {vs:List AV} {k:List CA->Prg S},(ko vs k).hits C e->(ko (vs.map AV.nf) k).hits C e
 | [],k,h=>h
 | x :: vs, k, h => by
  simp only [ko,List.map_cons] at h ⊢
  refine fk ?_
  unfold AV.aT at h ⊢
  split at h
  ·rename_i c _
   cases hc:c.kept with
   | false=>simp [hc,Prg.hits] at h
   | true=>simp only [hc,cond_true] at h ⊢; exact kZ h
  ·exact ⟨h.1,kZ h.2⟩
  ·exact kZ h
  ·exact kZ h
  ·rename_i cs' hb; cases hb
  ·rename_i cs' hb; cases hb
  ·exact h.elim
theorem jw {f:FuncId} {e:Eff}:∀ {vs:List AV} {k:List CA->List CA},(ko vs fun cs=>(.ret (.val (.clo f (k cs))):Out)).hits C e->∃ cs,e=.val (.clo f cs)
 | [],k,h=>⟨_,h.symm⟩
 | x :: vs, k, h => by
  simp only [ko] at h
  unfold AV.aT at h
  split at h
  ·rename_i c _
   cases hc:c.kept with
   | false=>simp [hc,Prg.hits] at h
   | true=>simp only [hc,cond_true] at h; exact jw (k:=fun cs=>k (_ ++ cs)) h
  ·exact jw (k:=fun cs=>k (_ ++ cs)) h.2
  ·exact jw (k:=fun cs=>k (_ ++ cs)) h
  ·exact jw (k:=fun cs=>k (_ ++ cs)) h
  ·rename_i hb; cases hb
  ·rename_i hb; cases hb
  ·exact h.elim
theorem vF {S:Type} {at_:Nat->Option (Nat × Bool × Nat)} {k:List CA->Prg S} {e:S}:∀ {is:List Nat} {vs:List AV} {cs:List CA},(cf at_ is vs cs k).hits C e->(cf at_ is (vs.map AV.nf) cs k).hits C e
 | [],[],cs,h=>h
 | i :: is, x :: vs, cs, h => by
  simp only [cf,List.map_cons] at h ⊢
  split at h
  ·rename_i off agg n hat
   have key:∀ ps,((bif (off + ps.length).ble cs.length && ps.length.beq n then cf at_ is vs (bi cs off ps) k else .fail):Prg S).hits C e->((bif (off + ps.length).ble cs.length && ps.length.beq n then cf at_ is (vs.map AV.nf) (bi cs off ps) k else .fail):Prg S).hits C e:=by
    intro ps hp
    cases hb:(off + ps.length).ble cs.length && ps.length.beq n with
    | false=>simp [hb,Prg.hits] at hp
    | true=>simp only [hb,cond_true] at hp ⊢; exact vF hp
   refine fk ?_
   unfold AV.aT at h ⊢
   split at h
   ·rename_i c
    cases hc:c.kept with
    | false=>simp [hc,Prg.hits] at h
    | true=>simp only [hc,cond_true] at h ⊢; exact key _ h
   ·exact ⟨h.1,key _ h.2⟩
   ·exact key _ h
   ·exact key _ h
   ·rename_i cs'
    have:=key cs'
    cases hc:cs'.length.beq n with
    | false=>simp [hc,Prg.hits] at h
    | true=>simp only [hc,cond_true] at h this ⊢; exact this h
   ·exact ⟨h.1,key _ h.2⟩
   ·exact h.elim
  ·exact h.elim
 | [],_ :: _,cs,h=>h.elim
 | _ :: _,[],cs,h=>h.elim
theorem vi {S:Type} {v:AV} {k:TV->Prg S}:uS look v.nf k=uS look v k:=by
 rcases aF v with h | ⟨b,h,rfl | rfl⟩
 ·rw [h]
 ·rfl
 ·rfl
theorem Bm {S:Type} {v:AV} {k:TV->Prg S}:qV look v.nf k=qV look v k:=by
 rcases aF v with h | ⟨b,h,rfl | rfl⟩
 ·rw [h]
 ·rfl
 ·rfl
theorem BL {S:Type} {v:AV} {k:TV->List (Nat × Nat)->Prg S}:ss look v.nf k=ss look v k:=by
 rcases aF v with h | ⟨b,h,rfl | rfl⟩
 ·rw [h]
 ·rfl
 ·rfl
theorem nx {S:Type}:∀ {vs:List AV} {k:List TV->Prg S},lends look (vs.map AV.nf) k=lends look vs k
 | [],k=>rfl
 | v :: vs,k=>by simp only [List.map_cons,lends,Bm,nx]
theorem rf {S:Type}:∀ {vs:List AV} {k:List TV->List (Nat × Nat)->Prg S},hands look (vs.map AV.nf) k=hands look vs k
 | [],k=>rfl
 | v :: vs,k=>by simp only [List.map_cons,hands,BL,rf]
theorem Bf {E:Env} {id:Nat} {look:Look} {f:FuncId} {ld:fo} (vs:List AV):nu E id look f ld (vs.map AV.nf)=nu E id look f ld vs:=by
 cases vs with
 | nil=>rfl
 | cons v l =>
  rcases aF v with h | ⟨b,h,rfl | rfl⟩
  ·simp only [List.map_cons,h]
   cases v with
   | one c =>
    cases c with
    | ptr i off =>
     cases off with
     | zero=>simp only [nu,rf]
     | succ n=>rfl
    | _=>rfl
   | _=>rfl
  ·simp only [List.map_cons,h]; rfl
  ·simp only [List.map_cons,h]; rfl
theorem C8 {look:Look} {f:FuncId} {c:Nat × Nat} (vs:List AV):nL look f c (vs.map AV.nf)=nL look f c vs:=by
 cases vs with
 | nil=>rfl
 | cons v l =>
  rcases aF v with h | ⟨b,h,rfl | rfl⟩
  ·simp only [List.map_cons,h]
   cases v with
   | one c =>
    cases c with
    | ptr i off =>
     cases off with
     | zero=>simp only [nL,nx]
     | succ n=>rfl
    | _=>rfl
   | _=>rfl
  ·simp only [List.map_cons,h]; rfl
  ·simp only [List.map_cons,h]; rfl
theorem Cp {look:Look} {f:FuncId} (vs:List AV):rI look f (vs.map AV.nf)=rI look f vs:=by
 rfl
theorem D0 {E:Env} {id:Nat} {look:Look} {f:FuncId} {i:Nat} (vs:List AV):C5 E id look f i (vs.map AV.nf)=C5 E id look f i vs:=by
 rfl
theorem Ea (d:TyD) (t:TypeId) (v:AV):Cd d t v.nf=Cd d t v:=by
 rcases aF v with h | ⟨b,h,rfl | rfl⟩
 ·rw [h]
 ·rfl
 ·rfl
theorem C1 (d:TyD) (t:TypeId) (v:AV):uE d t v.nf=uE d t v:=by
 simp only [uE,ie]
theorem Aj {S:Type} {v:Option AV} {k:Option Nat->Prg S}:fP (v.map AV.nf) k=fP v k:=by
 cases v with
 | none=>rfl
 | some v=>simp only [fP,ET,ie]
theorem uB (v:AV):rN v.nf=rN v:=by
 rcases aF v with h | ⟨b,h,rfl | rfl⟩
 ·rw [h]
 ·rfl
 ·rfl
theorem zB {S:Type} {d:TyD} {dest:Option Nat} {v:AV} {k:List (List TV)->List Prim->Prg S}:vX look d dest v.nf k=vX look d dest v k:=by
 rcases aF v with h | ⟨b,h,rfl | rfl⟩
 ·rw [h]
 ·rfl
 ·rfl
theorem lQ {kd:Kd} {sz:Nat} {x:AV} {lo hi:Option AV}:iJ look kd sz x.nf (lo.map AV.nf) (hi.map AV.nf)=iJ look kd sz x lo hi:=by
 simp only [iJ,ie,Aj]
 rcases aF x with h | ⟨b,h,rfl | rfl⟩
 ·rw [h]
  cases lo <;> rfl
 ·rfl
 ·rfl
theorem CP (v:AV):tC v.nf=tC v:=by
 rcases aF v with h | ⟨b,h,rfl | rfl⟩
 ·rw [h]
 ·rfl
 ·rfl
theorem opL_nf {op : Op} {vs : List AV} {e : Eff} (h : (opL E id look op vs).hits C e) : ∃ e', (opL E id look op (vs.map AV.nf)).hits C e' ∧ e'.nfE = e.nfE := by
 cases op with
 | move x =>
  rcases vs with _ | ⟨v,_ | ⟨v',r⟩⟩ <;> first | exact h.elim | skip
  cases h
  exact ⟨_,rfl,by simp [Eff.nfE,ux]⟩
 | assign x =>
  rcases vs with _ | ⟨v,_ | ⟨v',r⟩⟩ <;> first | exact h.elim | skip
  cases h
  exact ⟨_,rfl,by simp [Eff.nfE,ux]⟩
 | pick c x y =>
  rcases vs with _ | ⟨v,_ | ⟨v',_ | ⟨v'',_ | ⟨v3,r⟩⟩⟩⟩ <;> first | exact h.elim | skip
  simp only [opL] at h
  split at h
  ·rename_i b
   cases h
   refine ⟨_,rfl,?_⟩
   cases b <;> simp [Eff.nfE,ux]
  ·rename_i v
   obtain ⟨b,hb,h⟩:=h
   have hv:v=.lit (.bool b):=by
    unfold asBool at hb
    split at hb
    ·cases hb; rfl
    ·cases hb
   subst hv
   rcases h with ⟨rfl,h⟩ | ⟨rfl,h⟩ <;> (cases h; exact ⟨_,rfl,by simp [Eff.nfE,ux]⟩)
  ·rename_i v
   obtain ⟨b,hb,h⟩:=h
   have hv:v=.lit (.bool b):=by
    unfold asBool at hb
    split at hb
    ·cases hb; rfl
    ·cases hb
   subst hv
   rcases h with ⟨rfl,h⟩ | ⟨rfl,h⟩ <;> (cases h; exact ⟨_,rfl,by simp [Eff.nfE,ux]⟩)
  ·exact h.elim
 | alloc t =>
  rcases vs with _ | ⟨v,r⟩ <;> first | exact h.elim | exact ⟨e,h,rfl⟩
 | box t x =>
  rcases vs with _ | ⟨v,_ | ⟨v',r⟩⟩ <;> first | exact h.elim | skip
  refine ⟨e,?_,rfl⟩
  simp only [opL,List.map_cons,List.map_nil] at h ⊢
  split at h
  ·exact fk h
  ·exact h.elim
 | makeFunc fn first cap =>
  cases fn with
  | func f =>
   have:∃ cs,e=.val (.clo f cs):=by
    simp only [opL] at h
    cases hb:first.size.beq 0 with
    | false=>simp [hb,Prg.hits] at h
    | true =>
     simp only [hb,cond_true] at h
     exact jw (k:=fun l=>l) h
   obtain ⟨cs,rfl⟩:=this
   refine ⟨_,?_,rfl⟩
   simp only [opL] at h ⊢
   cases hb:first.size.beq 0 with
   | false=>simp [hb,Prg.hits] at h
   | true=>simp only [hb,cond_true] at h ⊢; exact kZ h
  | _=>exact h.elim
 | build t parts =>
  refine ⟨e,?_,rfl⟩
  simp only [opL] at h ⊢
  split at h
  ·rename_i d hd
   cases hb:lx E.T d.kd with
   | false=>simp [hb,Prg.hits] at h
   | true=>simp only [hb,cond_true] at h ⊢; exact vF h
  ·exact h.elim
 | buildSlice t len parts =>
  refine ⟨e,?_,rfl⟩
  simp only [opL] at h ⊢
  cases hc:E.cold t && !(len.beq 0) with
  | true =>
   rw [hc] at h
   simp only [cond_true] at h ⊢
   exact h.elim
  | false =>
   rw [hc] at h
   simp only [cond_false] at h ⊢
   unfold iR at h ⊢
   split at h
   ·exact vF h
   ·exact h.elim
 | load t x =>
  rcases vs with _ | ⟨v,_ | ⟨v',r⟩⟩ <;> first | exact h.elim | skip
  refine ⟨e,?_,rfl⟩
  rcases aF v with h1 | ⟨b,h1,rfl | rfl⟩
  ·simpa only [List.map_cons,List.map_nil,h1] using h
  ·simp only [opL] at h; split at h <;> exact h.elim
  ·simp only [opL] at h; split at h <;> exact h.elim
 | store t x y =>
  rcases vs with _ | ⟨v,_ | ⟨v',_ | ⟨v'',r⟩⟩⟩ <;> first | exact h.elim | skip
  refine ⟨e,?_,rfl⟩
  simp only [opL,List.map_cons,List.map_nil] at h ⊢
  split at h
  ·rcases aF v with h1 | ⟨b,h1,rfl | rfl⟩
   ·rw [h1]
    unfold uZ at h ⊢
    split at h
    ·rename_i e0 _ _ i0 off0 len0 n0
     cases hk0:e0.kd.isAgg with
     | true=>rw [hk0] at h; exact h.elim
     | false =>
      rw [hk0] at h
      simp only [cond_false] at h ⊢
      split at h
      ·exact fk h
      ·exact h.elim
    ·exact fk h
    ·exact fk h
    ·exact h.elim
   ·exact h.elim
   ·exact h.elim
  ·exact h.elim
 | nilCheck x =>
  rcases vs with _ | ⟨v,_ | ⟨v',r⟩⟩ <;> first | exact h.elim | skip
  refine ⟨e,?_,rfl⟩
  rcases aF v with h1 | ⟨b,h1,rfl | rfl⟩
  ·simpa only [List.map_cons,List.map_nil,h1] using h
  ·exact h.elim
  ·exact h.elim
 | binOp op xt x y yt =>
  rcases vs with _ | ⟨v,_ | ⟨v',_ | ⟨v'',r⟩⟩⟩ <;> first | exact h.elim | skip
  refine ⟨e,?_,rfl⟩
  simp only [opL,List.map_cons,List.map_nil] at h ⊢
  split at h
  ·unfold Ee at h ⊢
   split at h
   ·split at h
    ·exact fk (vP (fun cs h=>fk h) h)
    ·exact h.elim
   ·simp only [DN,CP] at h ⊢
    exact h
   ·simp only [Eb,vi,ie] at h ⊢
    exact h
  ·exact h.elim
 | unOp op xt x =>
  rcases vs with _ | ⟨v,_ | ⟨v',r⟩⟩ <;> first | exact h.elim | skip
  rcases aF v with h1 | ⟨b,h1,h2⟩
  ·refine ⟨e,?_,rfl⟩
   simpa only [List.map_cons,List.map_nil,h1] using h
  ·have hv:∃ t,(opL E id look (.unOp op xt x) [v]).hits C e->(Prg.tv (pun op (.lit (.bool b))) vt).hits C e:=⟨(),by rcases h2 with rfl | rfl <;> intro h <;> cases op <;> exact h⟩
   obtain ⟨_,hv⟩:=hv
   obtain ⟨z,hz,hh⟩:=hv h
   cases op with
   | not =>
    simp only [pun,EI] at hz
    subst hz
    cases hh
    refine ⟨.val (.bl !b),?_,rfl⟩
    simp only [List.map_cons,List.map_nil,h1]
    rfl
   | _=>simp [pun] at hz
 | convert xt dt x =>
  rcases vs with _ | ⟨v,_ | ⟨v',r⟩⟩ <;> first | exact h.elim | skip
  refine ⟨e,?_,rfl⟩
  simp only [opL,List.map_cons,List.map_nil,zF,ie,vi] at h ⊢
  exact h
 | makeSlice t x y =>
  rcases vs with _ | ⟨v,_ | ⟨v',_ | ⟨v'',r⟩⟩⟩ <;> first | exact h.elim | skip
  refine ⟨e,?_,rfl⟩
  simp only [opL,List.map_cons,List.map_nil,ie] at h ⊢
  exact h
 | slice t x lo hi mx =>
  refine ⟨e,?_,rfl⟩
  cases mx with
  | some m=>rcases vs with _ | ⟨v,r⟩ <;> exact h.elim
  | none =>
   rcases vs with _ | ⟨v,r⟩
   ·exact h.elim
   ·simp only [opL, List.map_cons] at h ⊢
    split at h
    ·rename_i d hT
     split at h
     ·rename_i sz hsz
      cases lo with
      | none =>
       cases hi with
       | none =>
        rcases r with _ | ⟨l,r⟩
        ·have:=lQ (look:=look) (kd:=d.kd) (sz:=sz) (x:=v) (lo:=none) (hi:=none)
         simp only [Option.map_none] at this
         simp only [List.map_nil]
         rw [this]; exact h
        ·exact h.elim
       | some hh =>
        rcases r with _ | ⟨l,_ | ⟨l',r⟩⟩
        ·exact h.elim
        ·have:=lQ (look:=look) (kd:=d.kd) (sz:=sz) (x:=v) (lo:=none) (hi:=some l)
         simp only [Option.map_none,ET] at this
         simp only [List.map_cons,List.map_nil]
         rw [this]; exact h
        ·exact h.elim
      | some ll =>
       cases hi with
       | none =>
        rcases r with _ | ⟨l,_ | ⟨l',r⟩⟩
        ·exact h.elim
        ·have:=lQ (look:=look) (kd:=d.kd) (sz:=sz) (x:=v) (lo:=some l) (hi:=none)
         simp only [Option.map_none,ET] at this
         simp only [List.map_cons,List.map_nil]
         rw [this]; exact h
        ·exact h.elim
       | some hh =>
        rcases r with _ | ⟨l,_ | ⟨l',_ | ⟨l'',r⟩⟩⟩
        ·exact h.elim
        ·exact h.elim
        ·have:=lQ (look:=look) (kd:=d.kd) (sz:=sz) (x:=v) (lo:=some l) (hi:=some l')
         simp only [ET] at this
         simp only [List.map_cons,List.map_nil]
         rw [this]; exact h
        ·exact h.elim
     ·exact h.elim
    ·exact h.elim
 | fieldAddr t x f =>
  rcases vs with _ | ⟨v,_ | ⟨v',r⟩⟩ <;> first | exact h.elim | skip
  refine ⟨e,?_,rfl⟩
  rcases aF v with h1 | ⟨b,h1,rfl | rfl⟩
  ·simpa only [List.map_cons,List.map_nil,h1] using h
  ·simp only [opL] at h
   split at h
   ·rename_i hv
    cases hv
    split at h
    ·rename_i n _ _
     cases hb:Nat.blt 0 n <;> simp [hb,CA.add,Prg.hits] at h
    ·exact h.elim
   ·exact h.elim
  ·simp only [opL] at h
   split at h
   ·rename_i hv; cases hv
   ·exact h.elim
 | field t x f =>
  rcases vs with _ | ⟨v,_ | ⟨v',r⟩⟩ <;> first | exact h.elim | skip
  refine ⟨e,?_,rfl⟩
  rcases aF v with h1 | ⟨b,h1,rfl | rfl⟩
  ·simpa only [List.map_cons,List.map_nil,h1] using h
  ·simp only [opL] at h
   split at h
   ·split at h <;> exact h.elim
   ·exact h.elim
  ·simp only [opL] at h
   split at h
   ·split at h
    ·simp [vD,TV.isAgg,Prg.hits] at h
    ·exact h.elim
   ·exact h.elim
 | indexAddr t x y =>
  rcases vs with _ | ⟨v,_ | ⟨v',_ | ⟨v'',r⟩⟩⟩ <;> first | exact h.elim | skip
  refine ⟨e,?_,rfl⟩
  simp only [opL,List.map_cons,List.map_nil] at h ⊢
  split at h
  ·rcases aF v with h1 | ⟨b,h1,rfl | rfl⟩
   ·simp only [h1,pg,ie] at h ⊢; exact h
   ·simp only [pg,ie] at h ⊢; exact h
   ·simp only [pg,ie] at h ⊢; exact h
  ·unfold qE at h ⊢
   rw [ie]
   rcases aF v with h1 | ⟨b,h1,rfl | rfl⟩
   ·rw [h1]; exact h
   ·split at h
    ·split at h <;> first | exact h.elim | (rename_i hx _; cases hx)
    ·exact h.elim
   ·split at h
    ·split at h <;> first | exact h.elim | (rename_i hx _; cases hx)
    ·exact h.elim
 | index t x y =>
  rcases vs with _ | ⟨v,_ | ⟨v',_ | ⟨v'',r⟩⟩⟩ <;> first | exact h.elim | skip
  refine ⟨e,?_,rfl⟩
  simp only [opL,List.map_cons,List.map_nil,ie] at h ⊢
  split at h
  ·exact h
  ·unfold qM at h ⊢
   rw [ie]
   rcases aF v with h1 | ⟨b,h1,rfl | rfl⟩
   ·rw [h1]; exact h
   ·split at h
    ·split at h <;> first | exact h.elim | (rename_i hx _; cases hx)
    ·exact h.elim
   ·split at h
    ·split at h <;> first | exact h.elim | (rename_i hx _; cases hx)
    ·exact h.elim
 | extract x j =>
  rcases vs with _ | ⟨v,_ | ⟨v',r⟩⟩ <;> first | exact h.elim | skip
  refine ⟨e,?_,rfl⟩
  rcases aF v with h1 | ⟨b,h1,rfl | rfl⟩
  ·simpa only [List.map_cons,List.map_nil,h1] using h
  ·exact h.elim
  ·exact h.elim
 | call c =>
  refine ⟨e,?_,rfl⟩
  obtain ⟨callee,args,tys⟩:=c
  cases callee with
  | builtin b =>
   simp only [opL] at h ⊢
   unfold eg at h
   split at h
   ·rename_i x ty htys
    simp only [htys,eg,List.map_cons,List.map_nil]
    split at h
    ·rename_i d hd
     have key:∀ kd,(xK look kd x).hits C e->(xK look kd x.nf).hits C e:=by intro kd; cases kd <;> simp only [xK,vi] <;> exact fun h=>h
     exact key _ h
    ·exact h.elim
   ·rename_i s x ty ty' htys
    simp only [htys,eg,List.map_cons,List.map_nil]
    split at h
    ·rename_i _ d hel
     cases hb:Nat.beq ty ty' with
     | false =>
      simp only [hb,cond_false] at h ⊢
      split at h
      ·rename_i hu
       exact h.elim
      ·exact h.elim
     | true =>
      simp only [hb,cond_true] at h ⊢
      unfold nw at h ⊢
      rw [zB,uB]
      rcases aF s with h1 | ⟨b,h1,rfl | rfl⟩
      ·rw [h1]; exact h
      ·exact h
      ·exact h
    ·exact h.elim
   ·rename_i s x ty ty' htys
    simp only [htys,eg,List.map_cons,List.map_nil]
    split at h
    ·rename_i _ d hel
     cases hb:Nat.beq ty ty' with
     | false=>simp [hb,Prg.hits] at h
     | true =>
      simp only [hb,cond_true] at h ⊢
      unfold yO at h ⊢
      rw [zB,uB]
      rcases aF s with h1 | ⟨b,h1,rfl | rfl⟩
      ·rw [h1]; exact h
      ·exact h
      ·exact h
    ·exact h.elim
   ·rename_i s ty htys
    simp only [htys,eg,List.map_cons,List.map_nil]
    split at h
    ·exact h.elim
    ·exact h.elim
   ·simp only [eg,List.map_cons,List.map_nil,wa,ie] at h ⊢
    exact h
   ·simp only [eg,List.map_cons,List.map_nil,wa,ie] at h ⊢
    exact h
   ·exact h.elim
  | value f =>
   cases f with
   | func f =>
    rcases vs with _ | ⟨v,r⟩
    ·exact h.elim
    ·simp only [opL,List.map_cons,mj,nx,rf,Bf,C8,Cp] at h ⊢
     exact h
   | tmp t =>
    rcases vs with _ | ⟨v,r⟩
    ·exact h.elim
    ·simp only [opL,List.map_cons,ie,nx,D0] at h ⊢
     rcases aF v with h1 | ⟨b,h1,rfl | rfl⟩
     ·rw [h1]; exact h
     ·exact h
     ·exact h
   | _=>exact h.elim
  | invoke r m=>exact h.elim
 | makeInterface t x =>
  rcases vs with _ | ⟨v,_ | ⟨v',r⟩⟩ <;> first | exact h.elim | skip
  refine ⟨e,?_,rfl⟩
  simp only [opL,List.map_cons,List.map_nil,Ea] at h ⊢
  exact h
 | typeAssert x xt t ok =>
  rcases vs with _ | ⟨v,_ | ⟨v',r⟩⟩ <;> cases ok <;> first | exact h.elim | skip
  refine ⟨e,?_,rfl⟩
  simp only [opL,List.map_cons,List.map_nil,C1] at h ⊢
  exact h
 | _=>exact h.elim
theorem kX (st:ASt):st.nfS.look=st.look:=rfl
theorem oq (st:ASt):st.nfS.base=st.base:=rfl
theorem u7 (st:ASt) (d:Option Tmp):st.nfS.nid d=st.nid d:=by cases d <;> rfl
theorem i6 (st:ASt) (d:Option Tmp) (v:AV):(st.put d v).nfS=st.nfS.put d v.nf:=by
 cases d with
 | none=>rfl
 | some d=>simp [ASt.nfS,ASt.put,ai,List.map_set]
theorem rK (st:ASt) (i:Nat) (b:Option BC):(st.ac i b).nfS=st.nfS.ac i b:=rfl
theorem li (st:ASt) (t:Nat):nth (.one .junk) st.nfS.slots t=(nth (.one .junk) st.slots t).nf:=by
 simp only [ASt.nfS,aO,EM]
 cases st.slots[t]? <;> rfl
theorem Au (ps:List Nat) (st:ASt) (d:Option Nat) (e:Eff):cI ps st.nfS d e.nfE=cI ps st d e:=by
 unfold cI
 congr 1
 funext k
 cases d with
 | none=>rw [oq,cB]
 | some d=>simp only [oq,cB,li,nZ]
theorem AO {o:Item} {st:ASt} {e:Eff} (h:jX o st e=true):jX o st.nfS e.nfE=true:=nomatch h
theorem sL (st:ASt) (x:Operand):st.nfS.ev x=(st.ev x).nf:=by
 cases x with
 | tmp t=>exact li st t
 | const v =>
  cases v with
  | bool b=>rfl
  | _=>first | rfl | (simp only [ASt.ev]; cases Value.oneCell' _ <;> rfl)
 | global g=>rfl
 | func f=>rfl
theorem rS:∀ (l:List AV),cM (l.map AV.nf)=cM l
 | []=>rfl
 | v :: l=>by simp only [List.map_cons,cM,ie,rS l]
theorem kB (e:Eff):iy e.nfE=iy e:=by
 cases e with
 | new b v=>cases b <;> rfl
 | _=>rfl
theorem A3 {i:Item} {st:ASt} {e:Eff}:ia i st.nfS e.nfE=ia i st e:=by
 unfold ia
 have:i.o.op.operands.toList.map st.nfS.ev=(i.o.op.operands.toList.map st.ev).map AV.nf:=by
  rw [List.map_map]
  exact List.map_congr_left fun x _=>sL st x
 rw [this,rS,kB,cB]
 rfl
theorem wH:∀ (l:List AV),i5 (l.map AV.nf)=i5 l
 | []=>rfl
 | v :: l=>by simp only [List.map_cons,i5,nZ,wH l]
theorem po (e:Eff):m0 e.nfE=m0 e:=by cases e <;> rfl
theorem yH (e:Eff):drE e.nfE=drE e:=by cases e <;> rfl
theorem sD (k:Nat) (e:Eff):ur k e.nfE=ur k e:=by cases e <;> rfl
theorem qG (v:AV):(v.nf.b8 CA.deep).ic=(v.b8 CA.deep).ic:=by
 rcases aF v with h | ⟨b,h,rfl | rfl⟩
 ·rw [h]
 ·rw [h]; rfl
 ·rw [h]; rfl
theorem wO:∀ (l:List AV),i5 (cD CA.deep (l.map AV.nf))=i5 (cD CA.deep l)
 | []=>rfl
 | v :: l=>by simp only [List.map_cons,cD,i5,qG,wO l]
theorem p9 (e:Eff):ng e.nfE=ng e:=by
 cases e with
 | val v=>exact qG v
 | new b v=>exact cB (.new b v)
 | upd i b v=>exact cB (.upd i b v)
 | gen ps v=>exact cB (.gen ps v)
theorem Ad {i:Item} {st:ASt} {e:Eff}:cC i st.nfS e.nfE=cC i st e:=by
 unfold cC
 simp only [po,yH,sD]
 rfl
theorem AD {i:Item} {st:ASt} {e:Eff}:du i st.nfS e.nfE=du i st e:=by
 unfold du
 have hd:∀ d b,ja st.nfS d b=ja st d b:=fun d b=>by
  cases d with
  | none=>rfl
  | some d =>
   have:=sL st (.tmp d)
   simp only [ASt.ev] at this
   simp only [ja,this,nZ]
 have hd2:∀ d b,gC st.nfS d b=gC st d b:=fun d b=>by
  cases d with
  | none=>rfl
  | some d =>
   have:=sL st (.tmp d)
   simp only [ASt.ev] at this
   simp only [gC,this,qG]
 simp only [hd,hd2,cB,p9]
 have:i.o.op.operands.toList.map st.nfS.ev=(i.o.op.operands.toList.map st.ev).map AV.nf:=by
  rw [List.map_map]
  exact List.map_congr_left fun x _=>sL st x
 rw [this,wH,wO]
 rfl
theorem okE_nf {i:Item} {st:ASt} {e:Eff} (h:okE i st e=true):okE i st.nfS e.nfE=true:=by
 unfold okE at h ⊢
 rw [Bool.or_eq_true] at h ⊢
 rcases h with h | h
 ·rw [Ad]; exact .inl h
 refine .inr ?_
 rw [Bool.or_eq_true] at h ⊢
 rcases h with h | h
 ·rw [nU,xq,oq,Au,A3,AD]; exact .inl h
 ·exact .inr (AO h)
theorem vm (hs:Sim w0 I0 st a ov w):Sim w0 I0 st.nfS a ov w:=by
 obtain ⟨g,hs⟩:=hs
 refine ⟨g,hs.below,hs.sub,hs.lt,hs.old,by simp [ASt.nfS,hs.len],hs.defers,fun t v hv=>?_,hs.olen,hs.outs,hs.cells,hs.trees,hs.foot,hs.apart,hs.apartR,hs.res,hs.base,hs.out⟩
 simp only [ASt.nfS,EM] at hv
 cases hsl:st.slots[t]? with
 | none=>simp [hsl] at hv
 | some u =>
  simp only [hsl,ET,EI] at hv
  subst hv
  exact BX.2 (hs.slots t u hsl)
theorem ek (hs:Sim w0 I0 st.nfS a ov w):Sim w0 I0 st a ov w:=by
 obtain ⟨g,hs⟩:=hs
 refine ⟨g,hs.below,hs.sub,hs.lt,hs.old,by have:=hs.len; simpa [ASt.nfS] using this,hs.defers,fun t v hv=>?_,hs.olen,hs.outs,hs.cells,hs.trees,hs.foot,hs.apart,hs.apartR,hs.res,hs.base,hs.out⟩
 exact BX.1 (hs.slots t v.nf (by simp [ASt.nfS,hv]))
theorem nE (i r:Nat) (js:List Nat) (b:Bool) (v:AV):(v.b8 (CA.drop i r js b)).nf=v.nf.b8 (CA.drop i r js b):=by
 rcases aF v with h | ⟨b,h,rfl | rfl⟩
 ·rw [h]
  cases v with
  | one c =>
   have key:∀ c:CA,c.drop i r js b=c\/c.drop i r js b=.junk:=fun c=>by
    rcases gx i r js b c with ⟨h,_⟩ | h
    ·exact .inl h
    ·exact .inr h
   simp only [AV.b8]
   rcases key c with h' | h'
   ·rw [h',h]
   ·rw [h']; rfl
  | tv x=>exact h
  | _=>rfl
 ·rfl
 ·rfl
theorem Bn (st:ASt) (i r:Nat) (js:List Nat) (b:Bool):(st.ar (CA.drop i r js b)).nfS=st.nfS.ar (CA.drop i r js b):=by
 simp only [ASt.nfS,ASt.ar]
 congr 1
 apply List.ext_getElem?
 intro t
 simp only [EM,l8]
 cases st.slots[t]? with
 | none=>rfl
 | some v=>simp [nE]
theorem pK (i:Nat) (v:AV):(v.b8 (CA.unM i)).nf=v.nf.b8 (CA.unM i):=by
 cases v with
 | one c =>
  cases c with
  | t x =>
   cases x with
   | lit u=>cases u <;> rfl
   | _=>rfl
  | may j ty =>
   simp only [AV.b8,CA.unM,AV.nf]
   cases j.beq i <;> rfl
  | _=>rfl
 | tv x =>
  cases x with
  | lit u=>cases u <;> rfl
  | _=>rfl
 | _=>rfl
theorem Du (st:ASt) (i:Nat):(st.ar (CA.unM i)).nfS=st.nfS.ar (CA.unM i):=by
 simp only [ASt.ar,ASt.nfS]
 congr 1
 induction st.slots with
 | nil=>rfl
 | cons v l ih=>simp only [cD,List.map_cons,pK,ih]
theorem tJ {i:Nat} {b:BC} (h:st.bz i b=some st'):st.nfS.bz i b=some st'.nfS:=by
 obtain ⟨h1,h2,rfl⟩:=bd h
 have h2':i.blt st.nfS.boxes.length=true:=by simpa [ASt.nfS] using h2
 simp only [ASt.bz,kX,h1,h2',cond_true,rK]
theorem qm {d:Option Tmp}:∀ {ps:List Prim} {st st':ASt},ae d ps st=some st'->ae d ps st.nfS=some st'.nfS
 | [],st,st',h=>by simp only [ae,EI] at h; subst h; rfl
 | p :: ps, st, st', h => by
  simp only [ae] at h ⊢
  cases h1:p.app st d with
  | none=>simp [h1] at h
  | some s1 =>
   simp only [h1] at h
   have:p.app st.nfS d=some s1.nfS:=by
    cases p with
    | drop i r js b =>
     simp only [Prim.app,EI] at h1 ⊢
     subst h1
     rw [Bn]
    | root i r x =>
     simp only [Prim.app,kX] at h1 ⊢
     split at h1
     ·rename_i b hb
      simp only [EI] at h1
      subst h1
      rfl
     ·cases h1
    | frz i r =>
     simp only [Prim.app,kX] at h1 ⊢
     split at h1
     ·rename_i x hx
      split at h1
      ·rename_i b hb
       simp only [EI] at h1
       subst h1
       rfl
      ·cases h1
     ·cases h1
    | unmay i =>
     simp only [Prim.app,EI] at h1 ⊢
     subst h1
     rw [Du]
    | newB b =>
     cases d with
     | none=>simp [Prim.app] at h1
     | some d =>
      simp only [Prim.app] at h1 ⊢
      rw [u7]
      exact tJ h1
    | setB i cs =>
     simp only [Prim.app,kX] at h1 ⊢
     split at h1
     ·simp only [EI] at h1
      subst h1
      rfl
     ·cases h1
   rw [this]
   exact qm h
theorem app_nf {e:Eff} {d:Option Tmp} (h:e.app st d=some st'):e.nfE.app st.nfS d=some st'.nfS:=by
 cases e with
 | val v =>
  simp only [Eff.app,Eff.nfE,EI] at h ⊢
  subst h
  rw [i6]
 | new b v =>
  cases d with
  | none=>simp [Eff.app] at h
  | some d =>
   simp only [Eff.app,Eff.nfE] at h ⊢
   rw [u7]
   split at h
   ·rename_i s1 hs1
    simp only [EI] at h
    subst h
    rw [tJ hs1]
    simp only [i6]
   ·cases h
 | upd i b v =>
  simp only [Eff.app,Eff.nfE,EI] at h ⊢
  subst h
  rw [i6,rK]
 | gen ps v =>
  simp only [Eff.app,Eff.nfE] at h ⊢
  split at h
  ·rename_i s1 hs1
   simp only [EI] at h
   subst h
   rw [qm hs1]
   simp only [i6]
  ·cases h
theorem ki {d:Option Tmp} {v:AV} (hs:Sim w0 I0 (st.put d v) a ov w):Sim w0 I0 (st.put d v.nf) a ov w:=by
 apply ek
 have:=vm hs
 rw [i6] at this ⊢
 rwa [ux]
theorem zT {e:Eff} {d:Option Tmp} (h:e.nfE.app st d=some st'):∃ st1,e.app st d=some st1/\∀ w0 I0 a ov w,Sim w0 I0 st1 a ov w->Sim w0 I0 st' a ov w:=by
 cases e with
 | val v =>
  simp only [Eff.app,Eff.nfE,EI] at h ⊢
  subst h
  exact ⟨_,rfl,fun w0 I0 a ov w hs=>ki hs⟩
 | new b v =>
  cases d with
  | none=>simp [Eff.app,Eff.nfE] at h
  | some d =>
   simp only [Eff.app,Eff.nfE] at h ⊢
   split at h
   ·rename_i s1 hs1
    simp only [EI] at h
    subst h
    exact ⟨_,rfl,fun w0 I0 a ov w hs=>ki hs⟩
   ·cases h
 | upd i b v =>
  simp only [Eff.app,Eff.nfE,EI] at h ⊢
  subst h
  exact ⟨_,rfl,fun w0 I0 a ov w hs=>ki hs⟩
 | gen ps v =>
  simp only [Eff.app,Eff.nfE] at h ⊢
  split at h
  ·rename_i s1 hs1
   simp only [EI] at h
   subst h
   exact ⟨_,rfl,fun w0 I0 a ov w hs=>ki hs⟩
  ·cases h
end
end Go.Ab
end
section
namespace Go.Ab
open Go.RowKit
def Prg.All {R:Type} (p:R->Prop):Prg R->Prop
 | .fail=>True
 | .ret e=>p e
 | .tv _ k=>∀ v,(k v).All p
 | .tvs _ k=>∀ v,(k v).All p
 | .rws _ k=>∀ v,(k v).All p
 | .nat _ k=>∀ v,(k v).All p
 | .chk _ k=>k.All p
 | .ite _ t e=>t.All p/\e.All p
 | .call _ _ k=>∀ v,(k v).All p
 | .jmp _ _=>True
theorem Prg.All.hits {R:Type} {C:Cal} {p:R->Prop} {e:R}:∀ {o:Prg R},o.All p->o.hits C e->p e
 | .ret e',h,h'=>by cases h'; exact h
 | .tv _ k,h,⟨v,_,h'⟩=>(h v).hits h'
 | .tvs _ k,h,⟨v,_,h'⟩=>(h v).hits h'
 | .rws _ k,h,⟨v,_,h'⟩=>(h v).hits h'
 | .nat _ k,h,⟨v,_,h'⟩=>(h v).hits h'
 | .chk _ k,h,⟨_,h'⟩=>Prg.All.hits (o:=k) h h'
 | .ite _ t e,h,⟨v,_,.inl ⟨_,h'⟩⟩=>Prg.All.hits (o:=t) h.1 h'
 | .ite _ t e,h,⟨v,_,.inr ⟨_,h'⟩⟩=>Prg.All.hits (o:=e) h.2 h'
 | .call _ _ k,h,⟨v,_,h'⟩=>(h v).hits h'
section
variable {E:Env} {look look':Look} {p:Eff->Prop} {id:Nat}
theorem aH {b:Bool} {x y:Out} (hx:x.All p) (hy:y.All p):(bif b then x else y).All p:=by cases b <;> assumption
theorem lc {q:Way} {x:TV} {k:TV->Out} (h:∀ y,(k y).All p):(qt q x k).All p:=by
 unfold qt
 split
 ·exact h _
 ·exact h
theorem fD {c:CA} {k:TV->Out} (h:∀ y,(k y).All p):(iN look c k).All p:=by
 unfold iN
 split
 ·exact h _
 ·split
  ·exact lc h
  ·exact trivial
 ·split
  ·exact lc fun y z=>h z
  ·exact trivial
 ·exact trivial
theorem rT {v:AV} {k:TV->Out} (h:∀ y,(k y).All p):(uS look v k).All p:=by
 unfold uS
 split
 ·exact fD h
 ·exact h _
 ·exact h _
 ·exact trivial
theorem um {c:CA} {k:TV->Out} (h:∀ y,(k y).All p):(sK look c k).All p:=by
 unfold sK
 split
 ·exact h _
 ·exact fD fun y=>h _
 ·exact fD fun y=>h _
 ·exact trivial
theorem uA {k:List TV->Out}:∀ {cs:List CA} {k:List TV->Out},(∀ y,(k y).All p)->(zJ look cs k).All p
 | [],k,h=>h _
 | c :: cs,k,h=>um fun y=>uA (k:=fun _=>.fail) fun ys=>h _
theorem Af {v:AV} {k:TV->Out} (h:∀ y,(k y).All p):(qV look v k).All p:=by
 unfold qV
 split
 ·exact um h
 ·exact h _
 ·exact uA (k:=fun _=>.fail) fun ys=>h _
 ·exact trivial
 ·exact trivial
 ·exact h _
theorem lI:∀ {vs:List AV} {k:List TV->Out},(∀ y,(k y).All p)->(lends look vs k).All p
 | [],k,h=>h _
 | v :: vs,k,h=>Af fun y=>lI fun ys=>h _
theorem ul {c:CA} {k:TV->List (Nat × Nat)->Out} (h:∀ y r,(k y r).All p):(rn look c k).All p:=by
 unfold rn
 split
 ·exact h _ _
 ·split
  ·split
   ·exact h _ _
   ·exact fun y=>h _ _
  ·exact trivial
 ·split
  ·split
   ·exact fun y=>h _ _
   ·exact fun z y=>h _ _
  ·exact trivial
 ·exact trivial
theorem uy:∀ {cs:List CA} {k:List TV->List (Nat × Nat)->Out},(∀ y r,(k y r).All p)->(zp look cs k).All p
 | [],k,h=>h _ _
 | c :: cs,k,h=>ul fun y r=>uy fun ys rs=>h _ _
theorem Ah {v:AV} {k:TV->List (Nat × Nat)->Out} (h:∀ y r,(k y r).All p):(ss look v k).All p:=by
 unfold ss
 split
 ·exact ul h
 ·exact h _ _
 ·exact uy fun ys rs=>h _ _
 ·exact trivial
 ·exact trivial
 ·exact h _ _
theorem pm:∀ {vs:List AV} {k:List TV->List (Nat × Nat)->Out},(∀ y r,(k y r).All p)->(hands look vs k).All p
 | [],k,h=>h _ _
 | v :: vs,k,h=>Ah fun y r=>pm fun ys rs=>h _ _
theorem d8:∀ {cs:List CA} {k:List TV->List Prim->List (Nat × Nat)->Out},(∀ y q r,(k y q r).All p)->(cG look cs k).All p
 | [],k,h=>h _ _ _
 | .t x :: l,k,h=>by
  simp only [cG]
  exact d8 (cs:=l) fun xs ps ts=>h _ _ _
 | .sref i r q :: l, k, h => by
  simp only [cG]
  split
  ·split
   ·exact d8 (cs:=l) fun xs ps ts=>h _ _ _
   ·exact fun y=>d8 (cs:=l) fun xs ps ts=>h _ _ _
  ·exact trivial
 | .swin i r q lo len :: l, k, h => by
  simp only [cG]
  split
  ·split
   ·exact fun y=>d8 (cs:=l) fun xs ps ts=>h _ _ _
   ·exact fun z y=>d8 (cs:=l) fun xs ps ts=>h _ _ _
  ·exact trivial
 | .ptr _ _ :: l,k,h=>trivial
 | .ref _ _ :: l,k,h=>trivial
 | .tptr _ _ _ _ _ :: l,k,h=>trivial
 | .may _ _ :: l,k,h=>trivial
 | .aptr _ _ _ _ :: l,k,h=>trivial
 | .ifp _ _ :: l,k,h=>trivial
 | .fn1 _ _ :: l,k,h=>trivial
 | .yl _ :: l,k,h=>trivial
 | .undef :: l,k,h=>trivial
 | .junk :: l,k,h=>trivial
theorem d9:∀ {cs:List CA} {k:List TV->List Prim->List (Nat × Nat)->Out},(∀ y q r,(k y q r).All p)->(ce look cs k).All p
 | [],k,h=>h _ _ _
 | .t x :: l,k,h=>by
  simp only [ce]
  exact d9 (cs:=l) fun xs ps ts=>h _ _ _
 | .sref i r q :: l, k, h => by
  simp only [ce]
  split
  ·split
   ·exact d9 (cs:=l) fun xs ps ts=>h _ _ _
   ·exact fun y=>⟨d9 (cs:=l) fun xs ps ts=>h _ _ _,fun x'=>d9 (cs:=l) fun xs ps ts=>h _ _ _⟩
  ·exact trivial
 | .swin i r q lo len :: l, k, h => by
  simp only [ce]
  split
  ·split
   ·exact fun y=>d9 (cs:=l) fun xs ps ts=>h _ _ _
   ·exact fun z y=>d9 (cs:=l) fun xs ps ts=>h _ _ _
  ·exact trivial
 | .ptr _ _ :: l,k,h=>trivial
 | .ref _ _ :: l,k,h=>trivial
 | .tptr _ _ _ _ _ :: l,k,h=>trivial
 | .may _ _ :: l,k,h=>trivial
 | .aptr _ _ _ _ :: l,k,h=>trivial
 | .ifp _ _ :: l,k,h=>trivial
 | .fn1 _ _ :: l,k,h=>trivial
 | .yl _ :: l,k,h=>trivial
 | .undef :: l,k,h=>trivial
 | .junk :: l,k,h=>trivial
theorem dW {agg:Bool} {n:Nat} {x:AV} {k:List CA->Out} (h:∀ cs,(k cs).All p):(x.aT agg n k).All p:=by
 unfold AV.aT
 split
 ·rename_i c; cases c.kept <;> first | exact trivial | exact h _
 ·exact h _
 ·exact h _
 ·exact h _
 ·rename_i cs; cases cs.length.beq n <;> first | exact trivial | exact h _
 ·exact h _
 ·exact trivial
theorem qY {at_:Nat->Option (Nat × Bool × Nat)} {k:List CA->Out} (h:∀ cs,(k cs).All p):∀ (is:List Nat) (vs:List AV) (cs:List CA),(cf at_ is vs cs k).All p
 | [],[],cs=>h cs
 | i :: is, x :: vs, cs => by
  simp only [cf]
  split
  ·refine dW (fun ps=>?_)
   exact aH (qY h is vs _) trivial
  ·exact trivial
 | [],_ :: _,cs=>trivial
 | _ :: _,[],cs=>trivial
theorem eW {v:Option AV} {k:Option Nat->Out} (h:∀ n,(k n).All p):(fP v k).All p:=by
 unfold fP
 split
 ·exact h _
 ·split
  ·exact fun v=>h _
  ·exact trivial
abbrev ii (e:Eff):Prop:=∃ v,e=.val v
abbrev kM (e:Eff):Prop:=∃ b v,e=.new b v
theorem xj {d:TyD} {x:List TV} {off:Nat}:(j8 d x off).All ii:=by
 unfold j8
 cases d.kd.isAgg
 ·exact ⟨_,rfl⟩
 ·exact ⟨_,rfl⟩
theorem tV:∀ {vs:List AV} {k:List CA->Out},(∀ cs,(k cs).All p)->(ko vs k).All p
 | [],k,h=>h _
 | v :: vs,k,h=>dW fun cs=>tV fun cs'=>h _
theorem Em {op:Op} (h:aq op=.N) (vs:List AV):(opL E id look op vs).All ii:=by
 cases op with
 | move x=>rcases vs with _ | ⟨v,_ | ⟨v',r⟩⟩ <;> first | exact trivial | exact ⟨_,rfl⟩
 | assign x=>rcases vs with _ | ⟨v,_ | ⟨v',r⟩⟩ <;> first | exact trivial | exact ⟨_,rfl⟩
 | pick c x y =>
  rcases vs with _ | ⟨v,_ | ⟨v',_ | ⟨v'',_ | ⟨v3,r⟩⟩⟩⟩ <;> first | exact trivial | skip
  simp only [opL]
  split <;> first | exact trivial | exact ⟨_,rfl⟩ | exact ⟨⟨_,rfl⟩,⟨_,rfl⟩⟩
 | build t parts =>
  simp only [opL]
  split
  ·refine aH ?_ trivial
   refine qY ?_ _ _ _
   exact fun cs=>⟨_,rfl⟩
  ·exact trivial
 | nilCheck x =>
  rcases vs with _ | ⟨v,_ | ⟨v',r⟩⟩ <;> first | exact trivial | skip
  simp only [opL]
  split <;> first | exact trivial | exact ⟨_,rfl⟩
 | unOp op xt x =>
  rcases vs with _ | ⟨v,_ | ⟨v',r⟩⟩ <;> first | exact trivial | skip
  simp only [opL]
  split
  ·exact ⟨_,rfl⟩
  ·split
   ·exact fun v=>⟨_,rfl⟩
   ·exact trivial
 | fieldAddr t x f =>
  rcases vs with _ | ⟨v,_ | ⟨v',r⟩⟩ <;> first | exact trivial | skip
  simp only [opL]
  split
  ·split
   ·refine aH ?_ trivial
    split <;> first | exact trivial | exact ⟨_,rfl⟩
   ·exact trivial
  ·exact trivial
 | field t x f =>
  rcases vs with _ | ⟨v,_ | ⟨v',r⟩⟩ <;> first | exact trivial | skip
  simp only [opL]
  split
  ·split
   ·unfold vD
    split
    ·split
     ·split <;> first | exact trivial | exact ⟨_,rfl⟩
     ·exact trivial
    ·exact ⟨_,rfl⟩
    ·exact trivial
   ·exact trivial
  ·exact trivial
 | index t x y =>
  rcases vs with _ | ⟨v,_ | ⟨v',_ | ⟨v'',r⟩⟩⟩ <;> first | exact trivial | skip
  simp only [opL]
  split
  ·exact fun v=>⟨_,rfl⟩
  ·unfold qM
   split
   ·split
    ·refine aH ?_ trivial
     split
     ·exact fun k v=>⟨_,rfl⟩
     ·exact trivial
    ·exact trivial
   ·exact trivial
 | extract x j =>
  rcases vs with _ | ⟨v,_ | ⟨v',r⟩⟩ <;> first | exact trivial | skip
  simp only [opL]
  split
  ·split
   ·split <;> first | exact trivial | exact ⟨_,rfl⟩
   ·exact trivial
  ·exact trivial
 | makeFunc fn first cap =>
  cases fn with
  | func f =>
   simp only [opL]
   exact aH (tV fun cs=>⟨_,rfl⟩) trivial
  | _=>exact trivial
 | call c =>
  obtain ⟨callee,args,tys⟩:=c
  cases callee with
  | builtin b=>cases b <;> simp [aq] at h
  | value f=>cases f <;> simp [aq] at h
  | invoke r m=>simp [aq] at h
 | makeInterface t x =>
  rcases vs with _ | ⟨v,_ | ⟨v',r⟩⟩ <;> first | exact trivial | skip
  simp only [opL]
  split
  ·unfold Cd
   refine aH ?_ trivial
   split
   ·exact ⟨_,rfl⟩
   ·split
    ·exact fun v=>⟨_,rfl⟩
    ·exact trivial
  ·exact trivial
 | typeAssert x xt t ok =>
  rcases vs with _ | ⟨v,_ | ⟨v',r⟩⟩ <;> cases ok <;> first | exact trivial | skip
  simp only [opL]
  split
  ·unfold uE
   refine aH ?_ trivial
   split
   ·exact fun v=>⟨_,rfl⟩
   ·exact trivial
  ·exact trivial
 | _=>simp [aq] at h
theorem Da {op:Op} (h:aq op=.R) (vs:List AV):(opL E id look op vs).All ii:=by
 cases op with
 | load t x =>
  rcases vs with _ | ⟨v,_ | ⟨v',r⟩⟩ <;> first | exact trivial | skip
  simp only [opL]
  split
  ·unfold zN
   split
   ·refine aH trivial ?_
    split
    ·exact fun v=>⟨_,rfl⟩
    ·exact trivial
   ·split
    ·split
     ·split
      ·exact ⟨_,rfl⟩
      ·exact trivial
     ·exact trivial
    ·exact trivial
   ·exact xj
   ·split
    ·refine lc (fun s e=>?_)
     simp only [Prg.All]
     split
     ·exact ⟨_,rfl⟩
     ·exact trivial
    ·exact trivial
   ·exact trivial
  ·exact trivial
 | convert xt dt x =>
  rcases vs with _ | ⟨v,_ | ⟨v',r⟩⟩ <;> first | exact trivial | skip
  simp only [opL]
  split
  ·unfold zF
   split
   ·exact trivial
   ·split
    ·exact fun v=>⟨_,rfl⟩
    ·exact trivial
  ·exact trivial
 | binOp op xt x y yt =>
  rcases vs with _ | ⟨v,_ | ⟨v',_ | ⟨v'',r⟩⟩⟩ <;> first | exact trivial | skip
  simp only [opL]
  split
  ·unfold Ee
   split
   ·split
    ·refine dW fun cs=>dW fun cs'=>?_
     split
     ·exact fun v=>⟨_,rfl⟩
     ·exact trivial
    ·exact trivial
   ·unfold DN
    split
    ·exact ⟨_,rfl⟩
    ·exact ⟨_,rfl⟩
    ·exact trivial
   unfold Eb
   refine aH (rT fun x=>rT fun y=>fun v=>⟨_,rfl⟩) ?_
   split
   ·exact fun v=>⟨_,rfl⟩
   ·exact trivial
  ·exact trivial
 | slice t x lo hi mx =>
  have sl:∀ {kd:Kd} {sz:Nat} {x:AV} {lo hi:Option AV},(iJ look kd sz x lo hi).All ii:=by
   intro kd sz x lo hi
   unfold iJ
   split
   ·exact eW fun lo=>eW fun hi=>fun v=>⟨_,rfl⟩
   ·split
    ·exact fD fun s n=>eW fun lo=>eW fun hi=>⟨_,rfl⟩
    ·split
     ·exact fD fun s=>eW fun hi=>⟨_,rfl⟩
     ·exact fD fun s=>eW fun lo=>eW fun hi=>⟨_,rfl⟩
    ·exact trivial
  cases mx with
  | some m=>rcases vs with _ | ⟨v,r⟩ <;> exact trivial
  | none =>
   rcases vs with _ | ⟨v,r⟩
   ·exact trivial
   ·simp only [opL]
    split
    ·split
     ·split <;> first | exact trivial | exact sl
     ·exact trivial
    ·exact trivial
 | indexAddr t x y =>
  rcases vs with _ | ⟨v,_ | ⟨v',_ | ⟨v'',r⟩⟩⟩ <;> first | exact trivial | skip
  simp only [opL]
  split
  ·unfold pg
   split
   ·split
    ·exact fun v=>⟨_,rfl⟩
    ·split
     ·exact fD fun s n k=>⟨_,rfl⟩
     ·exact fD fun s k=>⟨_,rfl⟩
     ·exact trivial
   ·exact trivial
  ·unfold qE
   split
   ·split
    ·exact aH (fun k=>⟨_,rfl⟩) trivial
    ·exact trivial
   ·exact trivial
 | call c =>
  obtain ⟨callee,args,tys⟩:=c
  cases callee with
  | builtin b =>
   have mn:∀ {mx:Bool} {x y:AV},(wa mx x y).All ii:=by
    intro mx x y
    unfold wa
    split
    ·exact fun v=>⟨_,rfl⟩
    ·exact trivial
   cases b <;> simp [aq] at h
   all_goals simp only [opL]
   all_goals unfold eg
   all_goals split <;> first | exact trivial | exact mn | contradiction | skip
   split
   ·unfold xK
    split
    ·exact ⟨_,rfl⟩
    ·exact rT fun s v=>⟨_,rfl⟩
   ·exact trivial
  | value f=>cases f <;> simp [aq] at h
  | invoke r m=>simp [aq] at h
 | _=>simp [aq] at h
theorem cls_A {op:Op} (h:aq op=.A) (vs:List AV):(opL E id look op vs).All kM:=by
 cases op with
 | alloc t =>
  rcases vs with _ | ⟨v,r⟩ <;> first | exact trivial | skip
  simp only [opL]
  split
  ·exact ⟨_,_,rfl⟩
  ·exact trivial
 | box t x =>
  rcases vs with _ | ⟨v,_ | ⟨v',r⟩⟩ <;> first | exact trivial | skip
  simp only [opL]
  split
  ·exact dW (fun cs=>⟨_,_,rfl⟩)
  ·exact trivial
 | makeSlice t x y =>
  rcases vs with _ | ⟨v,_ | ⟨v',_ | ⟨v'',r⟩⟩⟩ <;> first | exact trivial | skip
  simp only [opL]
  split
  ·refine aH ?_ trivial
   exact fun n m=>⟨_,_,rfl⟩
  ·exact trivial
 | call c =>
  obtain ⟨callee,args,tys⟩:=c
  cases callee with
  | builtin b=>cases b <;> simp [aq] at h
  | value f=>cases f <;> simp [aq] at h
  | invoke r m=>simp [aq] at h
 | _=>simp [aq] at h
theorem i9 {ps:List Prim} {b:BC} {v:AV}:(cN ps b v).plain=true->ii (cN ps b v)\/kM (cN ps b v):=by
 cases ps with
 | nil=>exact fun _=>.inr ⟨_,_,rfl⟩
 | cons q l=>exact fun h=>by cases h
theorem uN {ps:List Prim} {v:AV}:(match ps with | []=>Eff.val v | _=>.gen ps v).plain=true->ii (match ps with | []=>Eff.val v | _=>.gen ps v)\/kM (match ps with | []=>Eff.val v | _=>.gen ps v):=by
 cases ps with
 | nil=>exact fun _=>.inl ⟨_,rfl⟩
 | cons q l=>exact fun h=>by cases h
theorem j6 {d:TyD} {x:TV} {k:Out} (h:k.All p):(jj d x k).All p:=by
 unfold jj
 exact aH h h
theorem pT {x:TV} {k:Out} (h:k.All p):∀ (ds:List TyD) (j:Nat),(gq x ds j k).All p
 | [],j=>h
 | d :: ds,j=>j6 (pT h ds (j + 1))
theorem we {ds:List TyD} {v:TV} {ps:List Prim}:(vH id ds v ps).All fun e=>e.plain=true->ii e\/kM e:=by
 have many:∀ ds:List TyD,(Prg.chk (v.isTup ds.length) (gq v ds 0 (bif gG ds then .ret (cN ps (.tree (be v ds 0)) (.tups (dR id v ds 0 0)))
   else .ret (match ps with | []=>.val (.tups (dR id v ds 0 0)) | _=>.gen ps (.tups (dR id v ds 0 0)))))).All fun e=>e.plain=true->ii e\/kM e:=by
  intro ds
  refine pT ?_ ds 0
  exact aH i9 uN
 match ds with
 | []=>exact many []
 | [d] =>
  simp only [vH]
  refine j6 ?_
  split
  ·exact aH i9 uN
  ·exact trivial
 | d :: d' :: l=>exact many _
theorem BK {ds:List TyD} {v:TV} {k:AV->Out} {p:Eff->Prop} (h:∀ av,(k av).All p):(BQ id ds v k).All p:=by
 have some:∀ (ds:List TyD) (j:Nat) (k:Out),k.All p->(gq v ds j k).All p:=by
  intro ds
  induction ds with
  | nil=>intro j k h; exact h
  | cons d ds ih=>intro j k h; exact j6 (ih (j + 1) k h)
 unfold BQ
 split
 ·refine j6 ?_
  split
  ·exact h _
  ·exact trivial
 ·exact some _ 0 _ (h _)
theorem Ay {f:FuncId} {ld:fo} {vs:List AV}:(nu E id look f ld vs).All fun e=>e.plain=true->ii e\/kM e:=by
 unfold nu
 split
 ·split
  ·refine aH trivial ?_
   exact pm fun xs rs=>d8 fun ys qs ts=>aH (fun v=>BK fun av=>fun h=>by simp [Eff.plain] at h) trivial
  ·exact trivial
 ·exact trivial
theorem AP {f:FuncId} {c:Nat × Nat} {vs:List AV}:(nL look f c vs).All fun e=>e.plain=true->ii e\/kM e:=by
 unfold nL
 split
 ·split
  ·split
   ·exact aH (lI fun xs=>fun v=>fun _=>.inl ⟨_,rfl⟩) trivial
   ·exact trivial
  ·exact trivial
 ·exact trivial
theorem A6 {f:FuncId} {vs:List AV}:(rI look f vs).All fun e=>e.plain=true->ii e\/kM e:=by
 exact trivial
theorem CE {f:FuncId} {i:Nat} {vs:List AV}:(C5 E id look f i vs).All fun e=>e.plain=true->ii e\/kM e:=by
 exact trivial
theorem cls_B {op:Op} (h:aq op=.B) (vs:List AV):(opL E id look op vs).All fun e=>e.plain=true->ii e\/kM e:=by
 cases op with
 | buildSlice t len parts =>
  simp only [opL]
  refine aH ?_ ?_
  ·exact trivial
  unfold iR
  split
  ·refine qY (fun cs=>?_) _ _ _
   refine d9 fun ys qs ts=>?_
   exact aH i9 trivial
  ·exact trivial
 | call c =>
  obtain ⟨callee,args,tys⟩:=c
  cases callee with
  | builtin b=>cases b <;> simp [aq] at h
  | value f =>
   cases f with
   | func f =>
    rcases vs with _ | ⟨v,r⟩
    ·exact trivial
    ·simp only [opL,mj]
     refine aH A6 (aH trivial ?_)
     split
     ·exact AP
     split
     ·exact Ay
     ·split
      ·refine aH ?_ ?_
       ·exact lI fun xs=>fun v=>we
       ·exact pm fun xs rs=>aH (fun v=>we) trivial
      ·exact trivial
   | tmp t =>
    rcases vs with _ | ⟨v,r⟩
    ·exact trivial
    ·simp only [opL]
     split
     ·exact fun f=>lI fun xs v=>fun _=>.inl ⟨_,rfl⟩
     ·split
      ·exact CE
      ·exact trivial
   | _=>simp [aq] at h
  | invoke r m=>simp [aq] at h
 | _=>simp [aq] at h
abbrev isUpd (look:Look) (e:Eff):Prop:=∃ i b v,e=.upd i b v/\(look i).isSome=true
theorem BI {op : Op} (h : aq op = .W) (vs : List AV) : (opL E id look op vs).All fun e => e.plain = true → isUpd look e := by
 cases op with
 | store t x y =>
  rcases vs with _ | ⟨v,_ | ⟨v',_ | ⟨v'',r⟩⟩⟩ <;> first | exact trivial | skip
  simp only [opL]
  split
  ·unfold uZ
   split
   ·refine aH trivial ?_
    split
    ·rename_i cs xs hrow
     refine dW (fun ps=>?_)
     split
     ·exact fun _=>⟨_,_,_,rfl,by simp [(i8 hrow).1]⟩
     ·exact trivial
    ·exact trivial
   ·refine dW (fun ps=>?_)
    split
    ·rename_i cs hl
     exact aH (fun _=>⟨_,_,_,rfl,by simp [hl]⟩) trivial
    ·exact trivial
   ·refine dW (fun ps=>?_)
    split
    ·refine aH trivial (aH ?_ ?_)
     ·refine d8 fun ys qs ts=>aH ?_ trivial
      exact lc fun s e=>fun x' hp=>by cases hp
     ·refine d8 fun ys qs ts=>?_
      split
      ·refine aH ?_ trivial
       refine lc fun s e=>?_
       simp only [Prg.All]
       intro x'
       split
       ·rename_i b hb
        refine fun _=>⟨_,_,_,rfl,?_⟩
        unfold cr at hb
        split at hb
        ·rename_i hl; simp [hl]
        ·cases hb
       ·exact trivial
      ·exact trivial
    ·exact trivial
   ·exact trivial
  ·exact trivial
 | call c =>
  obtain ⟨callee,args,tys⟩:=c
  cases callee with
  | builtin b=>cases b <;> simp [aq] at h
  | value f=>cases f <;> simp [aq] at h
  | invoke r m=>simp [aq] at h
 | _=>simp [aq] at h
theorem wF {d:TyD} {s:AV} {news:List (List TV)} {ps:List Prim}:(oc id look d s news ps).All fun e=>e.plain=true->ii e\/kM e:=by
 unfold oc
 split
 ·exact aH (fun y=>i9) trivial
 ·split
  ·split
   ·split
    ·exact fun y h=>by cases h
    ·exact fun z y x' h=>by cases h
   ·exact trivial
  ·split
   ·split
    ·exact fun z y h=>by cases h
    ·exact fun z0 z y x' h=>by cases h
   ·exact trivial
  ·exact trivial
theorem De {d:TyD} {dest:Option Nat} {x:AV} {k:List (List TV)->List Prim->Out} (h:∀ xs ps,(k xs ps).All p):(vX look d dest x k).All p:=by
 unfold vX
 split
 ·exact fun xs=>h _ _
 ·split
  ·refine aH ?_ ?_
   ·split
    ·split
     ·split
      ·exact aH trivial (fun xs=>h _ _)
      ·exact fun y=>fun xs=>h _ _
     ·exact trivial
    ·split
     ·split
      ·exact aH trivial (fun y xs=>h _ _)
      ·exact fun z y=>fun xs=>h _ _
     ·exact trivial
    ·exact trivial
   ·exact fD (fun s xs=>h _ _)
  ·exact trivial
theorem cls_P {op:Op} (h:aq op=.P) (vs:List AV):(opL E id look op vs).All fun e=>e.plain=true->ii e\/kM e:=by
 cases op with
 | call c =>
  obtain ⟨callee,args,tys⟩:=c
  cases callee with
  | builtin b =>
   cases b <;> simp [aq] at h
   simp only [opL]
   unfold eg
   split <;> try (first | exact trivial | contradiction)
   split
   ·refine aH ?_ ?_
    ·unfold nw
     exact aH (De (fun xs ps=>wF)) trivial
    ·split
     ·exact trivial
     ·exact trivial
   ·exact trivial
  | value f=>cases f <;> simp [aq] at h
  | invoke r m=>simp [aq] at h
 | _=>simp [aq] at h
theorem tL {op:Op} (h:aq op=.N\/aq op=.A) (vs:List AV):opL E id look op vs=opL E id look' op vs:=by
 cases op <;> first
  | (rcases vs with _ | ⟨a,_ | ⟨b,_ | ⟨c,_ | ⟨d,r⟩⟩⟩⟩ <;> rfl)
  | (simp [aq] at h; done)
  | (rename_i fn _ _; cases fn <;> rfl)
  | (rename_i ok; cases ok <;> rcases vs with _ | ⟨a,_ | ⟨b,r⟩⟩ <;> rfl)
  | skip
 all_goals
  rename_i c
  obtain ⟨callee,args,tys⟩:=c
  cases callee with
  | builtin b=>cases b <;> simp [aq] at h
  | value f=>cases f <;> simp [aq] at h
  | invoke r m=>simp [aq] at h
end
end Go.Ab
end

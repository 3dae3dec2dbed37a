import Derived.Test.YtfnpejmlcbkepaaLM12b
set_option linter.all false
section
namespace Go.Ab
open Go.RowKit
structure gL (P:Program) (G:Laid) (E:Env) (C:Cal):Prop where
 ty:∀ t d,E.T t=some d->aV P t d
 call:xy P G E C
section
variable {P:Program} {E:Env} {C:Cal} {w0:Bs} {w w':World} {I0 I R:Nat->Prop} {g g':Gh} {st st':ASt} {a:Act} {ov:List Value} {look:Look} {Q:Exit->Act->World->Prop} {id:Nat}
theorem BV (hE:gL P w0.G E C) (hlk:∀ i b,look i=some b->st.look i=some b) (hs:al w0 I0 NoR g st a ov w) {o:Oper} {e:Eff} (hh:(opL E (st.nid o.dst) look o.op (o.op.operands.toList.map st.ev)).hits C e) (ha:e.app st o.dst=some st') :
  Good P w0 I0 ov o st' a w Q:=by
 obtain ⟨dst,op,type,pos,after,guard⟩:=o
 cases op with
 | move x=>exact Eb hs hh ha
 | assign x=>exact Bh hs hh ha
 | pick c x y=>exact DG hs hh ha
 | alloc t=>exact Ds hE.ty hs hh ha
 | box t x=>exact op_box hE.ty hs hh ha
 | build t parts=>exact Da hE.ty hs hh ha
 | makeFunc fn first cap=>exact xZ hs hh ha
 | buildSlice t len parts =>
  simp only [opL] at hh
  cases hc:E.cold t && !(len.beq 0) with
  | true=>rw [hc] at hh; exact DV hE.ty hlk hs hh ha
  | false=>rw [hc] at hh; exact tQ hE.ty hlk hs hh ha
 | load t x=>exact DR hE.ty hlk hs hh ha
 | store t x y=>exact B7 hE.ty hlk hs hh ha
 | nilCheck x=>exact xL hs hh ha
 | binOp op xt x y yt=>exact op_bin hE.ty hlk hs hh ha
 | unOp op xt x=>exact op_un hs hh ha
 | convert xt dt x=>exact zf hE.ty hlk hs hh ha
 | makeSlice t x y=>exact vX hE.ty hs hh ha
 | makeInterface t x=>exact op_ifc hE.ty hs hh ha
 | typeAssert x xt t ok=>exact Ea hE.ty hs hh ha
 | slice t x lo hi mx=>exact Du hE.ty hlk hs hh ha
 | fieldAddr t x f=>exact vY hE.ty hs hh ha
 | field t x f=>exact B8 hE.ty hs hh ha
 | indexAddr t x y=>exact vy hE.ty hlk hs hh ha
 | index t x y=>exact Cc hE.ty hs hh ha
 | extract x j=>exact yM hs hh ha
 | call c =>
  obtain ⟨callee,args,tys⟩:=c
  cases callee with
  | builtin b =>
   have hops:(Op.call ⟨.builtin b,args,tys⟩).operands.toList=args.toList:=by simp [Op.operands,Call.operands]
   simp only [hops] at hh
   simp only [opL] at hh
   unfold eh at hh
   split at hh
   ·rename_i x ty hargs htys
    obtain ⟨ox,rfl,hox⟩:=list1 hargs
    have:=arr1 htys
    subst this
    split at hh
    ·rename_i d hT
     rw [<- hox] at hh
     exact yH hlk hs (hE.ty _ _ hT) hh ha
    ·exact hh.elim
   ·rename_i s x ty ty' hargs htys
    obtain ⟨os,ox,rfl,hos,hox⟩:=list2 hargs
    have:=arr2 htys
    subst this
    split at hh
    ·rename_i e1 d hel
     cases hb:Nat.beq ty ty' with
     | false =>
      simp only [hb,cond_false] at hh
      split at hh
      ·rename_i hu
       exact hh.elim
      ·exact hh.elim
     | true =>
      simp only [hb,cond_true] at hh
      have:=(aq _ _).1 hb
      subst this
      rw [<- hos,<- hox] at hh
      exact tK hE.ty hlk hs hel hh ha
    ·exact hh.elim
   ·rename_i s x ty ty' hargs htys
    obtain ⟨os,ox,rfl,hos,hox⟩:=list2 hargs
    have:=arr2 htys
    subst this
    split at hh
    ·rename_i e1 d hel
     cases hb:Nat.beq ty ty' with
     | false=>simp [hb,Prg.hits] at hh
     | true =>
      simp only [hb,cond_true] at hh
      have:=(aq _ _).1 hb
      subst this
      rw [<- hos,<- hox] at hh
      exact wu hE.ty hlk hs hel hh ha
    ·exact hh.elim
   ·rename_i s ty hargs htys
    obtain ⟨os,rfl,hos⟩:=list1 hargs
    have:=arr1 htys
    subst this
    split at hh
    ·rename_i e1 d hel
     rw [<- hos] at hh
     exact wi hE.ty hlk hs hel hh ha
    ·exact hh.elim
   ·rename_i x y hargs
    obtain ⟨ox,oy,rfl,hox,hoy⟩:=list2 hargs
    rw [<- hox,<- hoy] at hh
    exact sM hs hh ha
   ·rename_i x y hargs
    obtain ⟨ox,oy,rfl,hox,hoy⟩:=list2 hargs
    rw [<- hox,<- hoy] at hh
    exact sM hs hh ha
   ·exact hh.elim
  | value f =>
   cases f with
   | func f =>
    have hops:(Op.call ⟨.value (.func f),args,tys⟩).operands.toList=.func f :: args.toList:=by simp [Op.operands,Call.operands]
    simp only [hops,List.map_cons] at hh
    exact DJ hE.call hE.ty hlk hs hh ha
   | tmp t =>
    have hops:(Op.call ⟨.value (.tmp t),args,tys⟩).operands.toList=.tmp t :: args.toList:=by simp [Op.operands,Call.operands]
    simp only [hops,List.map_cons] at hh
    exact op_dyn hE.call hE.ty hlk hs hh ha
   | _=>simp [opL,Prg.hits] at hh
  | invoke r m=>simp [opL,Prg.hits] at hh
 | _=>simp [opL,Prg.hits] at hh
def AV.nf:AV->AV
 | .one (.t (.lit (.bool b)))=>.bl b
 | .tv (.lit (.bool b))=>.bl b
 | v=>v
def Eff.nfE:Eff->Eff
 | .val v=>.val v.nf
 | .new b v=>.new b v.nf
 | .upd i b v=>.upd i b v.nf
 | .gen ps v=>.gen ps v.nf
def ASt.nfS (st:ASt):ASt:=⟨st.slots.map AV.nf,st.boxes,st.out⟩
theorem aF (v:AV):v.nf=v\/∃ b,v.nf=.bl b/\(v=.one (.t (.lit (.bool b)))\/v=.tv (.lit (.bool b))):=by
 unfold AV.nf
 split
 ·exact .inr ⟨_,rfl,.inl rfl⟩
 ·exact .inr ⟨_,rfl,.inr rfl⟩
 ·exact .inl rfl
theorem uD (v:AV):v.nf.nf=v.nf:=by
 rcases aF v with h | ⟨b,h,_⟩
 ·rw [h,h]
 ·rw [h]; rfl
theorem ik (v:AV):v.nf.tv? = v.tv? := by
 rcases aF v with h | ⟨b,h,rfl | rfl⟩
 ·rw [h]
 ·rfl
 ·rfl
theorem CO {v:AV} {u:Value}:bK w g look v.nf u ↔ bK w g look v u:=by
 rcases aF v with h | ⟨b,h,rfl | rfl⟩
 ·rw [h]
 ·rw [h]
  constructor
  ·intro h'
   have:u=.bool b:=h'
   subst this
   exact ⟨.lit _,rfl⟩
  ·intro h'
   exact bH h'.1
 ·rw [h]
  constructor
  ·intro h'
   have:u=.bool b:=h'
   subst this
   exact .lit _
  ·intro h'
   exact bH h'
theorem mK (v:AV):v.nf.dV=v.dV:=by
 rcases aF v with h | ⟨b,h,rfl | rfl⟩
 ·rw [h]
 ·rw [h]; rfl
 ·rw [h]; rfl
theorem ce (e:Eff):dq e.nfE=dq e:=by cases e <;> simp only [Eff.nfE,dq,mK]
theorem oc (e:Eff):e.nfE.plain=e.plain:=by cases e <;> rfl
theorem xk (base:Nat) (own:List (List Nat × List Nat)) (e:Eff):e.nfE.mW base own=e.mW base own:=by cases e <;> rfl
theorem wE {S:Type} {agg:Bool} {n:Nat} {v:AV} {k k':List CA->Prg S} {e:S} (hk:∀ cs,(k cs).hits C e->(k' cs).hits C e) (h:(v.aY agg n k).hits C e):(v.aY agg n k').hits C e:=by
 unfold AV.aY at h ⊢
 split at h
 ·rename_i c
  cases hc:c.kept with
  | true=>rw [hc] at h; exact hk _ h
  | false=>rw [hc] at h; exact h.elim
 ·exact ⟨h.1,hk _ h.2⟩
 ·exact hk _ h
 ·exact hk _ h
 ·rename_i cs
  cases hc:cs.length.beq n with
  | true=>rw [hc] at h; exact hk _ h
  | false=>rw [hc] at h; exact h.elim
 ·exact ⟨h.1,hk _ h.2⟩
 ·exact h.elim
theorem fk {S:Type} {agg:Bool} {n:Nat} {v:AV} {k:List CA->Prg S} {e:S} (h:(v.aY agg n k).hits C e):(v.nf.aY agg n k).hits C e:=by
 rcases aF v with h1 | ⟨b,h1,rfl | rfl⟩
 ·rwa [h1]
 ·rw [h1]
  cases agg with
  | false=>exact h
  | true=>exact h.elim
 ·rw [h1]
  cases agg with
  | false=>exact h.2
  | true=>exact (by simp [AV.aY,TV.isAgg,Prg.hits] at h)
theorem lD {S:Type} {e:S}:∀ {vs:List AV} {k:List CA->Prg S},(kf vs k).hits C e->(kf (vs.map AV.nf) k).hits C e
 | [],k,h=>h
 | x :: vs, k, h => by
  simp only [kf,List.map_cons] at h ⊢
  refine fk ?_
  unfold AV.aY at h ⊢
  split at h
  ·rename_i c _
   cases hc:c.kept with
   | false=>simp [hc,Prg.hits] at h
   | true=>simp only [hc,cond_true] at h ⊢; exact lD h
  ·exact ⟨h.1,lD h.2⟩
  ·exact lD h
  ·exact lD h
  ·rename_i cs' hb; cases hb
  ·rename_i cs' hb; cases hb
  ·exact h.elim
theorem jN {f:FuncId} {e:Eff}:∀ {vs:List AV} {k:List CA->List CA},(kf vs fun cs=>(.ret (.val (.clo f (k cs))):Out)).hits C e->∃ cs,e=.val (.clo f cs)
 | [],k,h=>⟨_,h.symm⟩
 | x :: vs, k, h => by
  simp only [kf] at h
  unfold AV.aY at h
  split at h
  ·rename_i c _
   cases hc:c.kept with
   | false=>simp [hc,Prg.hits] at h
   | true=>simp only [hc,cond_true] at h; exact jN (k:=fun cs=>k (_ ++ cs)) h
  ·exact jN (k:=fun cs=>k (_ ++ cs)) h.2
  ·exact jN (k:=fun cs=>k (_ ++ cs)) h
  ·exact jN (k:=fun cs=>k (_ ++ cs)) h
  ·rename_i hb; cases hb
  ·rename_i hb; cases hb
  ·exact h.elim
theorem vC {S:Type} {at_:Nat->Option (Nat × Bool × Nat)} {k:List CA->Prg S} {e:S}:∀ {is:List Nat} {vs:List AV} {cs:List CA},(ca at_ is vs cs k).hits C e->(ca at_ is (vs.map AV.nf) cs k).hits C e
 | [],[],cs,h=>h
 | i :: is, x :: vs, cs, h => by
  simp only [ca,List.map_cons] at h ⊢
  split at h
  ·rename_i off agg n hat
   have key:∀ ps,((bif (off + ps.length).ble cs.length && ps.length.beq n then ca at_ is vs (b7 cs off ps) k else .fail):Prg S).hits C e->((bif (off + ps.length).ble cs.length && ps.length.beq n then ca at_ is (vs.map AV.nf) (b7 cs off ps) k else .fail):Prg S).hits C e:=by
    intro ps hp
    cases hb:(off + ps.length).ble cs.length && ps.length.beq n with
    | false=>simp [hb,Prg.hits] at hp
    | true=>simp only [hb,cond_true] at hp ⊢; exact vC hp
   refine fk ?_
   unfold AV.aY at h ⊢
   split at h
   ·rename_i c
    cases hc:c.kept with
    | false=>simp [hc,Prg.hits] at h
    | true=>simp only [hc,cond_true] at h ⊢; exact key _ h
   ·exact ⟨h.1,key _ h.2⟩
   ·exact key _ h
   ·exact key _ h
   ·rename_i cs'
    have:=key cs'
    cases hc:cs'.length.beq n with
    | false=>simp [hc,Prg.hits] at h
    | true=>simp only [hc,cond_true] at h this ⊢; exact this h
   ·exact ⟨h.1,key _ h.2⟩
   ·exact h.elim
  ·exact h.elim
 | [],_ :: _,cs,h=>h.elim
 | _ :: _,[],cs,h=>h.elim
theorem vH {S:Type} {v:AV} {k:TV->Prg S}:vL look v.nf k=vL look v k:=by
 rcases aF v with h | ⟨b,h,rfl | rfl⟩
 ·rw [h]
 ·rfl
 ·rfl
theorem C0 {S:Type} {v:AV} {k:TV->Prg S}:rB look v.nf k=rB look v k:=by
 rcases aF v with h | ⟨b,h,rfl | rfl⟩
 ·rw [h]
 ·rfl
 ·rfl
theorem CS {S:Type} {v:AV} {k:TV->List (Nat × Nat)->Prg S}:rm look v.nf k=rm look v k:=by
 rcases aF v with h | ⟨b,h,rfl | rfl⟩
 ·rw [h]
 ·rfl
 ·rfl
theorem lT {S:Type}:∀ {vs:List AV} {k:List TV->Prg S},lends look (vs.map AV.nf) k=lends look vs k
 | [],k=>rfl
 | v :: vs,k=>by simp only [List.map_cons,lends,C0,lT]
theorem tn {S:Type}:∀ {vs:List AV} {k:List TV->List (Nat × Nat)->Prg S},hands look (vs.map AV.nf) k=hands look vs k
 | [],k=>rfl
 | v :: vs,k=>by simp only [List.map_cons,hands,CS,tn]
theorem BZ {E:Env} {id:Nat} {look:Look} {f:FuncId} {ld:ft} (vs:List AV):nK E id look f ld (vs.map AV.nf)=nK E id look f ld vs:=by
 cases vs with
 | nil=>rfl
 | cons v l =>
  rcases aF v with h | ⟨b,h,rfl | rfl⟩
  ·simp only [List.map_cons,h]
   cases v with
   | one c =>
    cases c with
    | ptr i off =>
     cases off with
     | zero=>simp only [nK,tn]
     | succ n=>rfl
    | _=>rfl
   | _=>rfl
  ·simp only [List.map_cons,h]; rfl
  ·simp only [List.map_cons,h]; rfl
theorem Ck {look:Look} {f:FuncId} {c:Nat × Nat} (vs:List AV):oH look f c (vs.map AV.nf)=oH look f c vs:=by
 cases vs with
 | nil=>rfl
 | cons v l =>
  rcases aF v with h | ⟨b,h,rfl | rfl⟩
  ·simp only [List.map_cons,h]
   cases v with
   | one c =>
    cases c with
    | ptr i off =>
     cases off with
     | zero=>simp only [oH,lT]
     | succ n=>rfl
    | _=>rfl
   | _=>rfl
  ·simp only [List.map_cons,h]; rfl
  ·simp only [List.map_cons,h]; rfl
theorem BN {look:Look} {f:FuncId} (vs:List AV):tr look f (vs.map AV.nf)=tr look f vs:=by
 rfl
theorem DM {E:Env} {id:Nat} {look:Look} {f:FuncId} {i:Nat} (vs:List AV):yc E id look f i (vs.map AV.nf)=yc E id look f i vs:=by
 simp only [yc,lT]
theorem Ez (d:TyD) (t:TypeId) (v:AV):CD d t v.nf=CD d t v:=by
 rcases aF v with h | ⟨b,h,rfl | rfl⟩
 ·rw [h]
 ·rfl
 ·rfl
theorem Cs (d:TyD) (t:TypeId) (v:AV):t7 d t v.nf=t7 d t v:=by
 simp only [t7,ik]
theorem A5 {S:Type} {v:Option AV} {k:Option Nat->Prg S}:fH (v.map AV.nf) k=fH v k:=by
 cases v with
 | none=>rfl
 | some v=>simp only [fH,Fk,ik]
theorem uL (v:AV):sW v.nf=sW v:=by
 rcases aF v with h | ⟨b,h,rfl | rfl⟩
 ·rw [h]
 ·rfl
 ·rfl
theorem Ah {S:Type} {d:TyD} {dest:Option Nat} {v:AV} {k:List (List TV)->List Prim->Prg S}:wB look d dest v.nf k=wB look d dest v k:=by
 rcases aF v with h | ⟨b,h,rfl | rfl⟩
 ·rw [h]
 ·rfl
 ·rfl
theorem mF {kd:Kd} {sz:Nat} {x:AV} {lo hi:Option AV}:iK look kd sz x.nf (lo.map AV.nf) (hi.map AV.nf)=iK look kd sz x lo hi:=by
 simp only [iK,ik,A5]
 rcases aF x with h | ⟨b,h,rfl | rfl⟩
 ·rw [h]
  cases lo <;> rfl
 ·rfl
 ·rfl
theorem Ci (v:AV):u6 v.nf=u6 v:=by
 rcases aF v with h | ⟨b,h,rfl | rfl⟩
 ·rw [h]
 ·rfl
 ·rfl
theorem opL_nf {op : Op} {vs : List AV} {e : Eff} (h : (opL E id look op vs).hits C e) : ∃ e', (opL E id look op (vs.map AV.nf)).hits C e' ∧ e'.nfE = e.nfE := by
 cases op with
 | move x =>
  rcases vs with _ | ⟨v,_ | ⟨v',r⟩⟩ <;> first | exact h.elim | skip
  cases h
  exact ⟨_,rfl,by simp [Eff.nfE,uD]⟩
 | assign x =>
  rcases vs with _ | ⟨v,_ | ⟨v',r⟩⟩ <;> first | exact h.elim | skip
  cases h
  exact ⟨_,rfl,by simp [Eff.nfE,uD]⟩
 | pick c x y =>
  rcases vs with _ | ⟨v,_ | ⟨v',_ | ⟨v'',_ | ⟨v3,r⟩⟩⟩⟩ <;> first | exact h.elim | skip
  simp only [opL] at h
  split at h
  ·rename_i b
   cases h
   refine ⟨_,rfl,?_⟩
   cases b <;> simp [Eff.nfE,uD]
  ·rename_i v
   obtain ⟨b,hb,h⟩:=h
   have hv:v=.lit (.bool b):=by
    unfold asBool at hb
    split at hb
    ·cases hb; rfl
    ·cases hb
   subst hv
   rcases h with ⟨rfl,h⟩ | ⟨rfl,h⟩ <;> (cases h; exact ⟨_,rfl,by simp [Eff.nfE,uD]⟩)
  ·rename_i v
   obtain ⟨b,hb,h⟩:=h
   have hv:v=.lit (.bool b):=by
    unfold asBool at hb
    split at hb
    ·cases hb; rfl
    ·cases hb
   subst hv
   rcases h with ⟨rfl,h⟩ | ⟨rfl,h⟩ <;> (cases h; exact ⟨_,rfl,by simp [Eff.nfE,uD]⟩)
  ·exact h.elim
 | alloc t =>
  rcases vs with _ | ⟨v,r⟩ <;> first | exact h.elim | exact ⟨e,h,rfl⟩
 | box t x =>
  rcases vs with _ | ⟨v,_ | ⟨v',r⟩⟩ <;> first | exact h.elim | skip
  refine ⟨e,?_,rfl⟩
  simp only [opL,List.map_cons,List.map_nil] at h ⊢
  split at h
  ·exact fk h
  ·exact h.elim
 | makeFunc fn first cap =>
  cases fn with
  | func f =>
   have:∃ cs,e=.val (.clo f cs):=by
    simp only [opL] at h
    cases hb:first.size.beq 0 with
    | false=>simp [hb,Prg.hits] at h
    | true =>
     simp only [hb,cond_true] at h
     exact jN (k:=fun l=>l) h
   obtain ⟨cs,rfl⟩:=this
   refine ⟨_,?_,rfl⟩
   simp only [opL] at h ⊢
   cases hb:first.size.beq 0 with
   | false=>simp [hb,Prg.hits] at h
   | true=>simp only [hb,cond_true] at h ⊢; exact lD h
  | _=>exact h.elim
 | build t parts =>
  refine ⟨e,?_,rfl⟩
  simp only [opL] at h ⊢
  split at h
  ·rename_i d hd
   cases hb:lM E.T d.kd with
   | false=>simp [hb,Prg.hits] at h
   | true=>simp only [hb,cond_true] at h ⊢; exact vC h
  ·exact h.elim
 | buildSlice t len parts =>
  refine ⟨e,?_,rfl⟩
  simp only [opL] at h ⊢
  cases hc:E.cold t && !(len.beq 0) with
  | true =>
   rw [hc] at h
   simp only [cond_true] at h ⊢
   exact h.elim
  | false =>
   rw [hc] at h
   simp only [cond_false] at h ⊢
   unfold iP at h ⊢
   split at h
   ·exact vC h
   ·exact h.elim
 | load t x =>
  rcases vs with _ | ⟨v,_ | ⟨v',r⟩⟩ <;> first | exact h.elim | skip
  refine ⟨e,?_,rfl⟩
  rcases aF v with h1 | ⟨b,h1,rfl | rfl⟩
  ·simpa only [List.map_cons,List.map_nil,h1] using h
  ·simp only [opL] at h; split at h <;> exact h.elim
  ·simp only [opL] at h; split at h <;> exact h.elim
 | store t x y =>
  rcases vs with _ | ⟨v,_ | ⟨v',_ | ⟨v'',r⟩⟩⟩ <;> first | exact h.elim | skip
  refine ⟨e,?_,rfl⟩
  simp only [opL,List.map_cons,List.map_nil] at h ⊢
  split at h
  ·rcases aF v with h1 | ⟨b,h1,rfl | rfl⟩
   ·rw [h1]
    unfold vU at h ⊢
    split at h
    ·rename_i e0 _ _ i0 off0 len0 n0
     cases hk0:e0.kd.isAgg with
     | true=>rw [hk0] at h; exact h.elim
     | false =>
      rw [hk0] at h
      simp only [cond_false] at h ⊢
      split at h
      ·exact fk h
      ·exact h.elim
    ·exact fk h
    ·exact fk h
    ·exact h.elim
   ·exact h.elim
   ·exact h.elim
  ·exact h.elim
 | nilCheck x =>
  rcases vs with _ | ⟨v,_ | ⟨v',r⟩⟩ <;> first | exact h.elim | skip
  refine ⟨e,?_,rfl⟩
  rcases aF v with h1 | ⟨b,h1,rfl | rfl⟩
  ·simpa only [List.map_cons,List.map_nil,h1] using h
  ·exact h.elim
  ·exact h.elim
 | binOp op xt x y yt =>
  rcases vs with _ | ⟨v,_ | ⟨v',_ | ⟨v'',r⟩⟩⟩ <;> first | exact h.elim | skip
  refine ⟨e,?_,rfl⟩
  simp only [opL,List.map_cons,List.map_nil] at h ⊢
  split at h
  ·unfold D8 at h ⊢
   split at h
   ·split at h
    ·exact fk (wE (fun cs h=>fk h) h)
    ·exact h.elim
   ·simp only [DS,Ci] at h ⊢
    exact h
   ·simp only [EA,vH,ik] at h ⊢
    exact h
  ·exact h.elim
 | unOp op xt x =>
  rcases vs with _ | ⟨v,_ | ⟨v',r⟩⟩ <;> first | exact h.elim | skip
  rcases aF v with h1 | ⟨b,h1,h2⟩
  ·refine ⟨e,?_,rfl⟩
   simpa only [List.map_cons,List.map_nil,h1] using h
  ·have hv:∃ t,(opL E id look (.unOp op xt x) [v]).hits C e->(Prg.tv (pun op (.lit (.bool b))) vt).hits C e:=⟨(),by rcases h2 with rfl | rfl <;> intro h <;> cases op <;> exact h⟩
   obtain ⟨_,hv⟩:=hv
   obtain ⟨z,hz,hh⟩:=hv h
   cases op with
   | not =>
    simp only [pun,E9] at hz
    subst hz
    cases hh
    refine ⟨.val (.bl !b),?_,rfl⟩
    simp only [List.map_cons,List.map_nil,h1]
    rfl
   | _=>simp [pun] at hz
 | convert xt dt x =>
  rcases vs with _ | ⟨v,_ | ⟨v',r⟩⟩ <;> first | exact h.elim | skip
  refine ⟨e,?_,rfl⟩
  simp only [opL,List.map_cons,List.map_nil,zA,ik,vH] at h ⊢
  exact h
 | makeSlice t x y =>
  rcases vs with _ | ⟨v,_ | ⟨v',_ | ⟨v'',r⟩⟩⟩ <;> first | exact h.elim | skip
  refine ⟨e,?_,rfl⟩
  simp only [opL,List.map_cons,List.map_nil,ik] at h ⊢
  exact h
 | slice t x lo hi mx =>
  refine ⟨e,?_,rfl⟩
  cases mx with
  | some m=>rcases vs with _ | ⟨v,r⟩ <;> exact h.elim
  | none =>
   rcases vs with _ | ⟨v,r⟩
   ·exact h.elim
   ·simp only [opL, List.map_cons] at h ⊢
    split at h
    ·rename_i d hT
     split at h
     ·rename_i sz hsz
      cases lo with
      | none =>
       cases hi with
       | none =>
        rcases r with _ | ⟨l,r⟩
        ·have:=mF (look:=look) (kd:=d.kd) (sz:=sz) (x:=v) (lo:=none) (hi:=none)
         simp only [Option.map_none] at this
         simp only [List.map_nil]
         rw [this]; exact h
        ·exact h.elim
       | some hh =>
        rcases r with _ | ⟨l,_ | ⟨l',r⟩⟩
        ·exact h.elim
        ·have:=mF (look:=look) (kd:=d.kd) (sz:=sz) (x:=v) (lo:=none) (hi:=some l)
         simp only [Option.map_none,Fk] at this
         simp only [List.map_cons,List.map_nil]
         rw [this]; exact h
        ·exact h.elim
      | some ll =>
       cases hi with
       | none =>
        rcases r with _ | ⟨l,_ | ⟨l',r⟩⟩
        ·exact h.elim
        ·have:=mF (look:=look) (kd:=d.kd) (sz:=sz) (x:=v) (lo:=some l) (hi:=none)
         simp only [Option.map_none,Fk] at this
         simp only [List.map_cons,List.map_nil]
         rw [this]; exact h
        ·exact h.elim
       | some hh =>
        rcases r with _ | ⟨l,_ | ⟨l',_ | ⟨l'',r⟩⟩⟩
        ·exact h.elim
        ·exact h.elim
        ·have:=mF (look:=look) (kd:=d.kd) (sz:=sz) (x:=v) (lo:=some l) (hi:=some l')
         simp only [Fk] at this
         simp only [List.map_cons,List.map_nil]
         rw [this]; exact h
        ·exact h.elim
     ·exact h.elim
    ·exact h.elim
 | fieldAddr t x f =>
  rcases vs with _ | ⟨v,_ | ⟨v',r⟩⟩ <;> first | exact h.elim | skip
  refine ⟨e,?_,rfl⟩
  rcases aF v with h1 | ⟨b,h1,rfl | rfl⟩
  ·simpa only [List.map_cons,List.map_nil,h1] using h
  ·simp only [opL] at h
   split at h
   ·rename_i hv
    cases hv
    split at h
    ·rename_i n _ _
     cases hb:Nat.blt 0 n <;> simp [hb,CA.add,Prg.hits] at h
    ·exact h.elim
   ·exact h.elim
  ·simp only [opL] at h
   split at h
   ·rename_i hv; cases hv
   ·exact h.elim
 | field t x f =>
  rcases vs with _ | ⟨v,_ | ⟨v',r⟩⟩ <;> first | exact h.elim | skip
  refine ⟨e,?_,rfl⟩
  rcases aF v with h1 | ⟨b,h1,rfl | rfl⟩
  ·simpa only [List.map_cons,List.map_nil,h1] using h
  ·simp only [opL] at h
   split at h
   ·split at h <;> exact h.elim
   ·exact h.elim
  ·simp only [opL] at h
   split at h
   ·split at h
    ·simp [vI,TV.isAgg,Prg.hits] at h
    ·exact h.elim
   ·exact h.elim
 | indexAddr t x y =>
  rcases vs with _ | ⟨v,_ | ⟨v',_ | ⟨v'',r⟩⟩⟩ <;> first | exact h.elim | skip
  refine ⟨e,?_,rfl⟩
  simp only [opL,List.map_cons,List.map_nil] at h ⊢
  split at h
  ·rcases aF v with h1 | ⟨b,h1,rfl | rfl⟩
   ·simp only [h1,pc,ik] at h ⊢; exact h
   ·simp only [pc,ik] at h ⊢; exact h
   ·simp only [pc,ik] at h ⊢; exact h
  ·unfold qP at h ⊢
   rw [ik]
   rcases aF v with h1 | ⟨b,h1,rfl | rfl⟩
   ·rw [h1]; exact h
   ·split at h
    ·split at h <;> first | exact h.elim | (rename_i hx _; cases hx)
    ·exact h.elim
   ·split at h
    ·split at h <;> first | exact h.elim | (rename_i hx _; cases hx)
    ·exact h.elim
 | index t x y =>
  rcases vs with _ | ⟨v,_ | ⟨v',_ | ⟨v'',r⟩⟩⟩ <;> first | exact h.elim | skip
  refine ⟨e,?_,rfl⟩
  simp only [opL,List.map_cons,List.map_nil,ik] at h ⊢
  split at h
  ·exact h
  ·unfold rb at h ⊢
   rw [ik]
   rcases aF v with h1 | ⟨b,h1,rfl | rfl⟩
   ·rw [h1]; exact h
   ·split at h
    ·split at h <;> first | exact h.elim | (rename_i hx _; cases hx)
    ·exact h.elim
   ·split at h
    ·split at h <;> first | exact h.elim | (rename_i hx _; cases hx)
    ·exact h.elim
 | extract x j =>
  rcases vs with _ | ⟨v,_ | ⟨v',r⟩⟩ <;> first | exact h.elim | skip
  refine ⟨e,?_,rfl⟩
  rcases aF v with h1 | ⟨b,h1,rfl | rfl⟩
  ·simpa only [List.map_cons,List.map_nil,h1] using h
  ·exact h.elim
  ·exact h.elim
 | call c =>
  refine ⟨e,?_,rfl⟩
  obtain ⟨callee,args,tys⟩:=c
  cases callee with
  | builtin b =>
   simp only [opL] at h ⊢
   unfold eh at h
   split at h
   ·rename_i x ty htys
    simp only [htys,eh,List.map_cons,List.map_nil]
    split at h
    ·rename_i d hd
     have key:∀ kd,(yK look kd x).hits C e->(yK look kd x.nf).hits C e:=by intro kd; cases kd <;> simp only [yK,vH] <;> exact fun h=>h
     exact key _ h
    ·exact h.elim
   ·rename_i s x ty ty' htys
    simp only [htys,eh,List.map_cons,List.map_nil]
    split at h
    ·rename_i _ d hel
     cases hb:Nat.beq ty ty' with
     | false =>
      simp only [hb,cond_false] at h ⊢
      split at h
      ·rename_i hu
       exact h.elim
      ·exact h.elim
     | true =>
      simp only [hb,cond_true] at h ⊢
      unfold nF at h ⊢
      rw [Ah,uL]
      rcases aF s with h1 | ⟨b,h1,rfl | rfl⟩
      ·rw [h1]; exact h
      ·exact h
      ·exact h
    ·exact h.elim
   ·rename_i s x ty ty' htys
    simp only [htys,eh,List.map_cons,List.map_nil]
    split at h
    ·rename_i _ d hel
     cases hb:Nat.beq ty ty' with
     | false=>simp [hb,Prg.hits] at h
     | true =>
      simp only [hb,cond_true] at h ⊢
      unfold zT at h ⊢
      rw [Ah,uL]
      rcases aF s with h1 | ⟨b,h1,rfl | rfl⟩
      ·rw [h1]; exact h
      ·exact h
      ·exact h
    ·exact h.elim
   ·rename_i s ty htys
    simp only [htys,eh,List.map_cons,List.map_nil]
    split at h
    ·unfold vJ at h ⊢
     rcases aF s with h1 | ⟨b,h1,rfl | rfl⟩
     ·rw [h1]; exact h
     ·exfalso
      revert h
      cases Nat.blt 0 _ <;> exact fun h=>h.elim
     ·exfalso
      revert h
      cases Nat.blt 0 _ <;> exact fun h=>h.elim
    ·exact h.elim
   ·simp only [eh,List.map_cons,List.map_nil,xv,ik] at h ⊢
    exact h
   ·simp only [eh,List.map_cons,List.map_nil,xv,ik] at h ⊢
    exact h
   ·exact h.elim
  | value f =>
   cases f with
   | func f =>
    rcases vs with _ | ⟨v,r⟩
    ·exact h.elim
    ·simp only [opL,List.map_cons,mT,lT,tn,BZ,Ck,BN] at h ⊢
     exact h
   | tmp t =>
    rcases vs with _ | ⟨v,r⟩
    ·exact h.elim
    ·simp only [opL,List.map_cons,ik,lT,DM] at h ⊢
     rcases aF v with h1 | ⟨b,h1,rfl | rfl⟩
     ·rw [h1]; exact h
     ·exact h
     ·exact h
   | _=>exact h.elim
  | invoke r m=>exact h.elim
 | makeInterface t x =>
  rcases vs with _ | ⟨v,_ | ⟨v',r⟩⟩ <;> first | exact h.elim | skip
  refine ⟨e,?_,rfl⟩
  simp only [opL,List.map_cons,List.map_nil,Ez] at h ⊢
  exact h
 | typeAssert x xt t ok =>
  rcases vs with _ | ⟨v,_ | ⟨v',r⟩⟩ <;> cases ok <;> first | exact h.elim | skip
  refine ⟨e,?_,rfl⟩
  simp only [opL,List.map_cons,List.map_nil,Cs] at h ⊢
  exact h
 | _=>exact h.elim
theorem lr (st:ASt):st.nfS.look=st.look:=rfl
theorem oa (st:ASt):st.nfS.base=st.base:=rfl
theorem vF (st:ASt) (d:Option Tmp):st.nfS.nid d=st.nid d:=by cases d <;> rfl
theorem jh (st:ASt) (d:Option Tmp) (v:AV):(st.put d v).nfS=st.nfS.put d v.nf:=by
 cases d with
 | none=>rfl
 | some d=>simp [ASt.nfS,ASt.put,aj,List.map_set]
theorem tA (st:ASt) (i:Nat) (b:Option BC):(st.ae i b).nfS=st.nfS.ae i b:=rfl
theorem jQ (st:ASt) (t:Nat):nth (.one .junk) st.nfS.slots t=(nth (.one .junk) st.slots t).nf:=by
 simp only [ASt.nfS,aQ,Fd]
 cases st.slots[t]? <;> rfl
theorem A6 (ps:List Nat) (st:ASt) (d:Option Nat) (e:Eff):cg ps st.nfS d e.nfE=cg ps st d e:=by
 unfold cg
 congr 1
 funext k
 cases d with
 | none=>rw [oa,ce]
 | some d=>simp only [oa,ce,jQ,mK]
theorem oL (k s:Nat):∀ (l:List AV) (n:Nat),fo k s n (l.map AV.nf)=fo k s n l
 | [],n=>rfl
 | v :: l,n=>by simp only [List.map_cons,fo,mK,oL k s l (n + 1)]
theorem x6 {k:Nat} {v:AV} (h:jJ k v=true):jJ k v.nf=true:=by
 unfold jJ at h
 split at h
 ·exact h
 ·cases h
theorem iY {e:Eff} {i:Nat} {y:TV} (h:jR e=some (i,y)):e=.gen [.drop i 0 [] false,.root i 0 y] (.one (.sref i 0 [])):=by
 unfold jR at h
 split at h
 ·rename_i i' j y' k
  cases hb:i'.beq j && i'.beq k with
  | false=>rw [hb] at h; cases h
  | true =>
   simp only [hb,cond_true,E9,Prod.mk.injEq] at h
   simp only [Fa] at hb
   obtain ⟨rfl,rfl⟩:=h
   rw [<- (aq _ _).1 hb.1,<- (aq _ _).1 hb.2]
 ·cases h
theorem mU (i:Nat) (y:TV):jR (.gen [.drop i 0 [] false,.root i 0 y] (.one (.sref i 0 [])))=some (i,y):=by
 simp only [jR,(aq i i).2 rfl,Bool.and_self,cond_true]
theorem Bt {o:Item} {st:ASt} {e:Eff} (h:dc o st e=true):dc o st.nfS e.nfE=true:=by
 unfold dc at h ⊢
 split at h
 ·rename_i s i y h1 h2
  have:=iY h2
  subst this
  simp only [Fa] at h
  simp only [h1,Eff.nfE,AV.nf,mU,Fa]
  refine ⟨⟨⟨⟨⟨h.1.1.1.1.1,?_⟩,h.1.1.1.2⟩,?_⟩,h.1.2⟩,h.2⟩
  ·rw [jQ]; exact x6 h.1.1.1.1.2
  ·rw [show st.nfS.slots=st.slots.map AV.nf from rfl,oL]; exact h.1.1.2
 ·cases h
theorem sZ (st:ASt) (x:Operand):st.nfS.ev x=(st.ev x).nf:=by
 cases x with
 | tmp t=>exact jQ st t
 | const v =>
  cases v with
  | bool b=>rfl
  | _=>first | rfl | (simp only [ASt.ev]; cases Value.oneCell' _ <;> rfl)
 | global g=>rfl
 | func f=>rfl
theorem rx:∀ (l:List AV),cP (l.map AV.nf)=cP l
 | []=>rfl
 | v :: l=>by simp only [List.map_cons,cP,ik,rx l]
theorem kW (e:Eff):iB e.nfE=iB e:=by
 cases e with
 | new b v=>cases b <;> rfl
 | _=>rfl
theorem Bw {i:Item} {st:ASt} {e:Eff}:gZ i st.nfS e.nfE=gZ i st e:=by
 unfold gZ
 have:i.o.op.operands.toList.map st.nfS.ev=(i.o.op.operands.toList.map st.ev).map AV.nf:=by
  rw [List.map_map]
  exact List.map_congr_left fun x _=>sZ st x
 rw [this,rx,kW,ce]
 rfl
theorem xl:∀ (l:List AV),fX (l.map AV.nf)=fX l
 | []=>rfl
 | v :: l=>by simp only [List.map_cons,fX,mK,xl l]
theorem pN (e:Eff):lH e.nfE=lH e:=by cases e <;> rfl
theorem yw (e:Eff):drE e.nfE=drE e:=by cases e <;> rfl
theorem rI (k:Nat) (e:Eff):uk k e.nfE=uk k e:=by cases e <;> rfl
theorem qY (v:AV):(v.nf.bR CA.deep).dV=(v.bR CA.deep).dV:=by
 rcases aF v with h | ⟨b,h,rfl | rfl⟩
 ·rw [h]
 ·rw [h]; rfl
 ·rw [h]; rfl
theorem xY:∀ (l:List AV),fX (bV CA.deep (l.map AV.nf))=fX (bV CA.deep l)
 | []=>rfl
 | v :: l=>by simp only [List.map_cons,bV,fX,qY,xY l]
theorem qi (e:Eff):oz e.nfE=oz e:=by
 cases e with
 | val v=>exact qY v
 | new b v=>exact ce (.new b v)
 | upd i b v=>exact ce (.upd i b v)
 | gen ps v=>exact ce (.gen ps v)
theorem AU {i:Item} {st:ASt} {e:Eff}:cq i st.nfS e.nfE=cq i st e:=by
 unfold cq
 simp only [pN,yw,rI]
 rfl
theorem AS {i:Item} {st:ASt} {e:Eff}:dg i st.nfS e.nfE=dg i st e:=by
 unfold dg
 have hd:∀ d b,jc st.nfS d b=jc st d b:=fun d b=>by
  cases d with
  | none=>rfl
  | some d =>
   have:=sZ st (.tmp d)
   simp only [ASt.ev] at this
   simp only [jc,this,mK]
 have hd2:∀ d b,gU st.nfS d b=gU st d b:=fun d b=>by
  cases d with
  | none=>rfl
  | some d =>
   have:=sZ st (.tmp d)
   simp only [ASt.ev] at this
   simp only [gU,this,qY]
 simp only [hd,hd2,ce,qi]
 have:i.o.op.operands.toList.map st.nfS.ev=(i.o.op.operands.toList.map st.ev).map AV.nf:=by
  rw [List.map_map]
  exact List.map_congr_left fun x _=>sZ st x
 rw [this,xl,xY]
 rfl
theorem okE_nf {i:Item} {st:ASt} {e:Eff} (h:okE i st e=true):okE i st.nfS e.nfE=true:=by
 unfold okE at h ⊢
 rw [Bool.or_eq_true] at h ⊢
 rcases h with h | h
 ·rw [AU]; exact .inl h
 refine .inr ?_
 rw [Bool.or_eq_true] at h ⊢
 rcases h with h | h
 ·rw [oc,xk,oa,A6,Bw,AS]; exact .inl h
 ·exact .inr (Bt h)
theorem vV (hs:Sim w0 I0 st a ov w):Sim w0 I0 st.nfS a ov w:=by
 obtain ⟨g,hs⟩:=hs
 refine ⟨g,hs.below,hs.sub,hs.lt,hs.old,by simp [ASt.nfS,hs.len],hs.defers,fun t v hv=>?_,hs.olen,hs.outs,hs.cells,hs.trees,hs.foot,hs.apart,hs.apartR,hs.res,hs.base,hs.out⟩
 simp only [ASt.nfS,Fd] at hv
 cases hsl:st.slots[t]? with
 | none=>simp [hsl] at hv
 | some u =>
  simp only [hsl,Fk,E9] at hv
  subst hv
  exact CO.2 (hs.slots t u hsl)
theorem eA (hs:Sim w0 I0 st.nfS a ov w):Sim w0 I0 st a ov w:=by
 obtain ⟨g,hs⟩:=hs
 refine ⟨g,hs.below,hs.sub,hs.lt,hs.old,by have:=hs.len; simpa [ASt.nfS] using this,hs.defers,fun t v hv=>?_,hs.olen,hs.outs,hs.cells,hs.trees,hs.foot,hs.apart,hs.apartR,hs.res,hs.base,hs.out⟩
 exact CO.1 (hs.slots t v.nf (by simp [ASt.nfS,hv]))
theorem oj (i r:Nat) (js:List Nat) (b:Bool) (v:AV):(v.bR (CA.drop i r js b)).nf=v.nf.bR (CA.drop i r js b):=by
 rcases aF v with h | ⟨b,h,rfl | rfl⟩
 ·rw [h]
  cases v with
  | one c =>
   have key:∀ c:CA,c.drop i r js b=c\/c.drop i r js b=.junk:=fun c=>by
    rcases fS i r js b c with ⟨h,_⟩ | h
    ·exact .inl h
    ·exact .inr h
   simp only [AV.bR]
   rcases key c with h' | h'
   ·rw [h',h]
   ·rw [h']; rfl
  | tv x=>exact h
  | _=>rfl
 ·rfl
 ·rfl
theorem CY (st:ASt) (i r:Nat) (js:List Nat) (b:Bool):(st.az (CA.drop i r js b)).nfS=st.nfS.az (CA.drop i r js b):=by
 simp only [ASt.nfS,ASt.az]
 congr 1
 apply List.ext_getElem?
 intro t
 simp only [Fd,mu]
 cases st.slots[t]? with
 | none=>rfl
 | some v=>simp [oj]
theorem qn (i:Nat) (v:AV):(v.bR (CA.unM i)).nf=v.nf.bR (CA.unM i):=by
 cases v with
 | one c =>
  cases c with
  | t x =>
   cases x with
   | lit u=>cases u <;> rfl
   | _=>rfl
  | may j ty =>
   simp only [AV.bR,CA.unM,AV.nf]
   cases j.beq i <;> rfl
  | _=>rfl
 | tv x =>
  cases x with
  | lit u=>cases u <;> rfl
  | _=>rfl
 | _=>rfl
theorem Ee (st:ASt) (i:Nat):(st.az (CA.unM i)).nfS=st.nfS.az (CA.unM i):=by
 simp only [ASt.az,ASt.nfS]
 congr 1
 induction st.slots with
 | nil=>rfl
 | cons v l ih=>simp only [bV,List.map_cons,qn,ih]
theorem u9 {i:Nat} {b:BC} (h:st.bw i b=some st'):st.nfS.bw i b=some st'.nfS:=by
 obtain ⟨h1,h2,rfl⟩:=bo h
 have h2':i.blt st.nfS.boxes.length=true:=by simpa [ASt.nfS] using h2
 simp only [ASt.bw,lr,h1,h2',cond_true,tA]
theorem qF {d:Option Tmp}:∀ {ps:List Prim} {st st':ASt},af d ps st=some st'->af d ps st.nfS=some st'.nfS
 | [],st,st',h=>by simp only [af,E9] at h; subst h; rfl
 | p :: ps, st, st', h => by
  simp only [af] at h ⊢
  cases h1:p.app st d with
  | none=>simp [h1] at h
  | some s1 =>
   simp only [h1] at h
   have:p.app st.nfS d=some s1.nfS:=by
    cases p with
    | drop i r js b =>
     simp only [Prim.app,E9] at h1 ⊢
     subst h1
     rw [CY]
    | root i r x =>
     simp only [Prim.app,lr] at h1 ⊢
     split at h1
     ·rename_i b hb
      simp only [E9] at h1
      subst h1
      rfl
     ·cases h1
    | frz i r =>
     simp only [Prim.app,lr] at h1 ⊢
     split at h1
     ·rename_i x hx
      split at h1
      ·rename_i b hb
       simp only [E9] at h1
       subst h1
       rfl
      ·cases h1
     ·cases h1
    | unmay i =>
     simp only [Prim.app,E9] at h1 ⊢
     subst h1
     rw [Ee]
    | newB b =>
     cases d with
     | none=>simp [Prim.app] at h1
     | some d =>
      simp only [Prim.app] at h1 ⊢
      rw [vF]
      exact u9 h1
    | setB i cs =>
     simp only [Prim.app,lr] at h1 ⊢
     split at h1
     ·simp only [E9] at h1
      subst h1
      rfl
     ·cases h1
   rw [this]
   exact qF h
theorem app_nf {e:Eff} {d:Option Tmp} (h:e.app st d=some st'):e.nfE.app st.nfS d=some st'.nfS:=by
 cases e with
 | val v =>
  simp only [Eff.app,Eff.nfE,E9] at h ⊢
  subst h
  rw [jh]
 | new b v =>
  cases d with
  | none=>simp [Eff.app] at h
  | some d =>
   simp only [Eff.app,Eff.nfE] at h ⊢
   rw [vF]
   split at h
   ·rename_i s1 hs1
    simp only [E9] at h
    subst h
    rw [u9 hs1]
    simp only [jh]
   ·cases h
 | upd i b v =>
  simp only [Eff.app,Eff.nfE,E9] at h ⊢
  subst h
  rw [jh,tA]
 | gen ps v =>
  simp only [Eff.app,Eff.nfE] at h ⊢
  split at h
  ·rename_i s1 hs1
   simp only [E9] at h
   subst h
   rw [qF hs1]
   simp only [jh]
  ·cases h
theorem ka {d:Option Tmp} {v:AV} (hs:Sim w0 I0 (st.put d v) a ov w):Sim w0 I0 (st.put d v.nf) a ov w:=by
 apply eA
 have:=vV hs
 rw [jh] at this ⊢
 rwa [uD]
theorem zK {e:Eff} {d:Option Tmp} (h:e.nfE.app st d=some st'):∃ st1,e.app st d=some st1/\∀ w0 I0 a ov w,Sim w0 I0 st1 a ov w->Sim w0 I0 st' a ov w:=by
 cases e with
 | val v =>
  simp only [Eff.app,Eff.nfE,E9] at h ⊢
  subst h
  exact ⟨_,rfl,fun w0 I0 a ov w hs=>ka hs⟩
 | new b v =>
  cases d with
  | none=>simp [Eff.app,Eff.nfE] at h
  | some d =>
   simp only [Eff.app,Eff.nfE] at h ⊢
   split at h
   ·rename_i s1 hs1
    simp only [E9] at h
    subst h
    exact ⟨_,rfl,fun w0 I0 a ov w hs=>ka hs⟩
   ·cases h
 | upd i b v =>
  simp only [Eff.app,Eff.nfE,E9] at h ⊢
  subst h
  exact ⟨_,rfl,fun w0 I0 a ov w hs=>ka hs⟩
 | gen ps v =>
  simp only [Eff.app,Eff.nfE] at h ⊢
  split at h
  ·rename_i s1 hs1
   simp only [E9] at h
   subst h
   exact ⟨_,rfl,fun w0 I0 a ov w hs=>ka hs⟩
  ·cases h
end
end Go.Ab
end
section
namespace Go.Ab
open Go.RowKit
def Prg.All {R:Type} (p:R->Prop):Prg R->Prop
 | .fail=>True
 | .ret e=>p e
 | .tv _ k=>∀ v,(k v).All p
 | .tvs _ k=>∀ v,(k v).All p
 | .rws _ k=>∀ v,(k v).All p
 | .nat _ k=>∀ v,(k v).All p
 | .chk _ k=>k.All p
 | .ite _ t e=>t.All p/\e.All p
 | .call _ _ k=>∀ v,(k v).All p
 | .jmp _ _=>True
theorem Prg.All.hits {R:Type} {C:Cal} {p:R->Prop} {e:R}:∀ {o:Prg R},o.All p->o.hits C e->p e
 | .ret e',h,h'=>by cases h'; exact h
 | .tv _ k,h,⟨v,_,h'⟩=>(h v).hits h'
 | .tvs _ k,h,⟨v,_,h'⟩=>(h v).hits h'
 | .rws _ k,h,⟨v,_,h'⟩=>(h v).hits h'
 | .nat _ k,h,⟨v,_,h'⟩=>(h v).hits h'
 | .chk _ k,h,⟨_,h'⟩=>Prg.All.hits (o:=k) h h'
 | .ite _ t e,h,⟨v,_,.inl ⟨_,h'⟩⟩=>Prg.All.hits (o:=t) h.1 h'
 | .ite _ t e,h,⟨v,_,.inr ⟨_,h'⟩⟩=>Prg.All.hits (o:=e) h.2 h'
 | .call _ _ k,h,⟨v,_,h'⟩=>(h v).hits h'
section
variable {E:Env} {look look':Look} {p:Eff->Prop} {id:Nat}
theorem aH {b:Bool} {x y:Out} (hx:x.All p) (hy:y.All p):(bif b then x else y).All p:=by cases b <;> assumption
theorem lI {q:Way} {x:TV} {k:TV->Out} (h:∀ y,(k y).All p):(pI q x k).All p:=by
 unfold pI
 split
 ·exact h _
 ·exact h
theorem fR {c:CA} {k:TV->Out} (h:∀ y,(k y).All p):(iT look c k).All p:=by
 unfold iT
 split
 ·exact h _
 ·split
  ·exact lI h
  ·exact trivial
 ·split
  ·exact lI fun y z=>h z
  ·exact trivial
 ·exact trivial
theorem sJ {v:AV} {k:TV->Out} (h:∀ y,(k y).All p):(vL look v k).All p:=by
 unfold vL
 split
 ·exact fR h
 ·exact h _
 ·exact h _
 ·exact trivial
theorem tV {c:CA} {k:TV->Out} (h:∀ y,(k y).All p):(th look c k).All p:=by
 unfold th
 split
 ·exact h _
 ·exact fR fun y=>h _
 ·exact fR fun y=>h _
 ·exact trivial
theorem ue {k:List TV->Out}:∀ {cs:List CA} {k:List TV->Out},(∀ y,(k y).All p)->(Ak look cs k).All p
 | [],k,h=>h _
 | c :: cs,k,h=>tV fun y=>ue (k:=fun _=>.fail) fun ys=>h _
theorem Bg {v:AV} {k:TV->Out} (h:∀ y,(k y).All p):(rB look v k).All p:=by
 unfold rB
 split
 ·exact tV h
 ·exact h _
 ·exact ue (k:=fun _=>.fail) fun ys=>h _
 ·exact trivial
 ·exact trivial
 ·exact h _
theorem jK:∀ {vs:List AV} {k:List TV->Out},(∀ y,(k y).All p)->(lends look vs k).All p
 | [],k,h=>h _
 | v :: vs,k,h=>Bg fun y=>jK fun ys=>h _
theorem uO {c:CA} {k:TV->List (Nat × Nat)->Out} (h:∀ y r,(k y r).All p):(sX look c k).All p:=by
 unfold sX
 split
 ·exact h _ _
 ·split
  ·split
   ·exact h _ _
   ·exact fun y=>h _ _
  ·exact trivial
 ·split
  ·split
   ·exact fun y=>h _ _
   ·exact fun z y=>h _ _
  ·exact trivial
 ·exact trivial
theorem uz:∀ {cs:List CA} {k:List TV->List (Nat × Nat)->Out},(∀ y r,(k y r).All p)->(zD look cs k).All p
 | [],k,h=>h _ _
 | c :: cs,k,h=>uO fun y r=>uz fun ys rs=>h _ _
theorem A9 {v:AV} {k:TV->List (Nat × Nat)->Out} (h:∀ y r,(k y r).All p):(rm look v k).All p:=by
 unfold rm
 split
 ·exact uO h
 ·exact h _ _
 ·exact uz fun ys rs=>h _ _
 ·exact trivial
 ·exact trivial
 ·exact h _ _
theorem pH:∀ {vs:List AV} {k:List TV->List (Nat × Nat)->Out},(∀ y r,(k y r).All p)->(hands look vs k).All p
 | [],k,h=>h _ _
 | v :: vs,k,h=>A9 fun y r=>pH fun ys rs=>h _ _
theorem dZ:∀ {cs:List CA} {k:List TV->List Prim->List (Nat × Nat)->Out},(∀ y q r,(k y q r).All p)->(cC look cs k).All p
 | [],k,h=>h _ _ _
 | .t x :: l,k,h=>by
  simp only [cC]
  exact dZ (cs:=l) fun xs ps ts=>h _ _ _
 | .sref i r q :: l, k, h => by
  simp only [cC]
  split
  ·split
   ·exact dZ (cs:=l) fun xs ps ts=>h _ _ _
   ·exact fun y=>dZ (cs:=l) fun xs ps ts=>h _ _ _
  ·exact trivial
 | .swin i r q lo len :: l, k, h => by
  simp only [cC]
  split
  ·split
   ·exact fun y=>dZ (cs:=l) fun xs ps ts=>h _ _ _
   ·exact fun z y=>dZ (cs:=l) fun xs ps ts=>h _ _ _
  ·exact trivial
 | .ptr _ _ :: l,k,h=>trivial
 | .ref _ _ :: l,k,h=>trivial
 | .tptr _ _ _ _ _ :: l,k,h=>trivial
 | .may _ _ :: l,k,h=>trivial
 | .aptr _ _ _ _ :: l,k,h=>trivial
 | .ifp _ _ :: l,k,h=>trivial
 | .fn1 _ _ :: l,k,h=>trivial
 | .yl _ :: l,k,h=>trivial
 | .undef :: l,k,h=>trivial
 | .junk :: l,k,h=>trivial
theorem d9:∀ {cs:List CA} {k:List TV->List Prim->List (Nat × Nat)->Out},(∀ y q r,(k y q r).All p)->(cb look cs k).All p
 | [],k,h=>h _ _ _
 | .t x :: l,k,h=>by
  simp only [cb]
  exact d9 (cs:=l) fun xs ps ts=>h _ _ _
 | .sref i r q :: l, k, h => by
  simp only [cb]
  split
  ·split
   ·exact d9 (cs:=l) fun xs ps ts=>h _ _ _
   ·exact fun y=>⟨d9 (cs:=l) fun xs ps ts=>h _ _ _,fun x'=>d9 (cs:=l) fun xs ps ts=>h _ _ _⟩
  ·exact trivial
 | .swin i r q lo len :: l, k, h => by
  simp only [cb]
  split
  ·split
   ·exact fun y=>d9 (cs:=l) fun xs ps ts=>h _ _ _
   ·exact fun z y=>d9 (cs:=l) fun xs ps ts=>h _ _ _
  ·exact trivial
 | .ptr _ _ :: l,k,h=>trivial
 | .ref _ _ :: l,k,h=>trivial
 | .tptr _ _ _ _ _ :: l,k,h=>trivial
 | .may _ _ :: l,k,h=>trivial
 | .aptr _ _ _ _ :: l,k,h=>trivial
 | .ifp _ _ :: l,k,h=>trivial
 | .fn1 _ _ :: l,k,h=>trivial
 | .yl _ :: l,k,h=>trivial
 | .undef :: l,k,h=>trivial
 | .junk :: l,k,h=>trivial
theorem ek {agg:Bool} {n:Nat} {x:AV} {k:List CA->Out} (h:∀ cs,(k cs).All p):(x.aY agg n k).All p:=by
 unfold AV.aY
 split
 ·rename_i c; cases c.kept <;> first | exact trivial | exact h _
 ·exact h _
 ·exact h _
 ·exact h _
 ·rename_i cs; cases cs.length.beq n <;> first | exact trivial | exact h _
 ·exact h _
 ·exact trivial
theorem sT {at_:Nat->Option (Nat × Bool × Nat)} {k:List CA->Out} (h:∀ cs,(k cs).All p):∀ (is:List Nat) (vs:List AV) (cs:List CA),(ca at_ is vs cs k).All p
 | [],[],cs=>h cs
 | i :: is, x :: vs, cs => by
  simp only [ca]
  split
  ·refine ek (fun ps=>?_)
   exact aH (sT h is vs _) trivial
  ·exact trivial
 | [],_ :: _,cs=>trivial
 | _ :: _,[],cs=>trivial
theorem fd {v:Option AV} {k:Option Nat->Out} (h:∀ n,(k n).All p):(fH v k).All p:=by
 unfold fH
 split
 ·exact h _
 ·split
  ·exact fun v=>h _
  ·exact trivial
abbrev dk (e:Eff):Prop:=∃ v,e=.val v
abbrev dl (e:Eff):Prop:=∃ b v,e=.new b v
theorem ya {d:TyD} {x:List TV} {off:Nat}:(kU d x off).All dk:=by
 unfold kU
 cases d.kd.isAgg
 ·exact ⟨_,rfl⟩
 ·exact ⟨_,rfl⟩
theorem uv:∀ {vs:List AV} {k:List CA->Out},(∀ cs,(k cs).All p)->(kf vs k).All p
 | [],k,h=>h _
 | v :: vs,k,h=>ek fun cs=>uv fun cs'=>h _
theorem EV {op:Op} (h:ao op=.N) (vs:List AV):(opL E id look op vs).All dk:=by
 cases op with
 | move x=>rcases vs with _ | ⟨v,_ | ⟨v',r⟩⟩ <;> first | exact trivial | exact ⟨_,rfl⟩
 | assign x=>rcases vs with _ | ⟨v,_ | ⟨v',r⟩⟩ <;> first | exact trivial | exact ⟨_,rfl⟩
 | pick c x y =>
  rcases vs with _ | ⟨v,_ | ⟨v',_ | ⟨v'',_ | ⟨v3,r⟩⟩⟩⟩ <;> first | exact trivial | skip
  simp only [opL]
  split <;> first | exact trivial | exact ⟨_,rfl⟩ | exact ⟨⟨_,rfl⟩,⟨_,rfl⟩⟩
 | build t parts =>
  simp only [opL]
  split
  ·refine aH ?_ trivial
   refine sT ?_ _ _ _
   exact fun cs=>⟨_,rfl⟩
  ·exact trivial
 | nilCheck x =>
  rcases vs with _ | ⟨v,_ | ⟨v',r⟩⟩ <;> first | exact trivial | skip
  simp only [opL]
  split <;> first | exact trivial | exact ⟨_,rfl⟩
 | unOp op xt x =>
  rcases vs with _ | ⟨v,_ | ⟨v',r⟩⟩ <;> first | exact trivial | skip
  simp only [opL]
  split
  ·exact ⟨_,rfl⟩
  ·split
   ·exact fun v=>⟨_,rfl⟩
   ·exact trivial
 | fieldAddr t x f =>
  rcases vs with _ | ⟨v,_ | ⟨v',r⟩⟩ <;> first | exact trivial | skip
  simp only [opL]
  split
  ·split
   ·refine aH ?_ trivial
    split <;> first | exact trivial | exact ⟨_,rfl⟩
   ·exact trivial
  ·exact trivial
 | field t x f =>
  rcases vs with _ | ⟨v,_ | ⟨v',r⟩⟩ <;> first | exact trivial | skip
  simp only [opL]
  split
  ·split
   ·unfold vI
    split
    ·split
     ·split <;> first | exact trivial | exact ⟨_,rfl⟩
     ·exact trivial
    ·exact ⟨_,rfl⟩
    ·exact trivial
   ·exact trivial
  ·exact trivial
 | index t x y =>
  rcases vs with _ | ⟨v,_ | ⟨v',_ | ⟨v'',r⟩⟩⟩ <;> first | exact trivial | skip
  simp only [opL]
  split
  ·exact fun v=>⟨_,rfl⟩
  ·unfold rb
   split
   ·split
    ·refine aH ?_ trivial
     split
     ·exact fun k v=>⟨_,rfl⟩
     ·exact trivial
    ·exact trivial
   ·exact trivial
 | extract x j =>
  rcases vs with _ | ⟨v,_ | ⟨v',r⟩⟩ <;> first | exact trivial | skip
  simp only [opL]
  split
  ·split
   ·split <;> first | exact trivial | exact ⟨_,rfl⟩
   ·exact trivial
  ·exact trivial
 | makeFunc fn first cap =>
  cases fn with
  | func f =>
   simp only [opL]
   exact aH (uv fun cs=>⟨_,rfl⟩) trivial
  | _=>exact trivial
 | call c =>
  obtain ⟨callee,args,tys⟩:=c
  cases callee with
  | builtin b=>cases b <;> simp [ao] at h
  | value f=>cases f <;> simp [ao] at h
  | invoke r m=>simp [ao] at h
 | makeInterface t x =>
  rcases vs with _ | ⟨v,_ | ⟨v',r⟩⟩ <;> first | exact trivial | skip
  simp only [opL]
  split
  ·unfold CD
   refine aH ?_ trivial
   split
   ·exact ⟨_,rfl⟩
   ·split
    ·exact fun v=>⟨_,rfl⟩
    ·exact trivial
  ·exact trivial
 | typeAssert x xt t ok =>
  rcases vs with _ | ⟨v,_ | ⟨v',r⟩⟩ <;> cases ok <;> first | exact trivial | skip
  simp only [opL]
  split
  ·unfold t7
   refine aH ?_ trivial
   split
   ·exact fun v=>⟨_,rfl⟩
   ·exact trivial
  ·exact trivial
 | _=>simp [ao] at h
theorem CQ {op:Op} (h:ao op=.R) (vs:List AV):(opL E id look op vs).All dk:=by
 cases op with
 | load t x =>
  rcases vs with _ | ⟨v,_ | ⟨v',r⟩⟩ <;> first | exact trivial | skip
  simp only [opL]
  split
  ·unfold zw
   split
   ·refine aH trivial ?_
    split
    ·exact fun v=>⟨_,rfl⟩
    ·exact trivial
   ·split
    ·split
     ·split
      ·exact ⟨_,rfl⟩
      ·exact trivial
     ·exact trivial
    ·exact trivial
   ·exact ya
   ·split
    ·refine lI (fun s e=>?_)
     simp only [Prg.All]
     split
     ·exact ⟨_,rfl⟩
     ·exact trivial
    ·exact trivial
   ·exact trivial
  ·exact trivial
 | convert xt dt x =>
  rcases vs with _ | ⟨v,_ | ⟨v',r⟩⟩ <;> first | exact trivial | skip
  simp only [opL]
  split
  ·unfold zA
   split
   ·exact trivial
   ·split
    ·exact fun v=>⟨_,rfl⟩
    ·exact trivial
  ·exact trivial
 | binOp op xt x y yt =>
  rcases vs with _ | ⟨v,_ | ⟨v',_ | ⟨v'',r⟩⟩⟩ <;> first | exact trivial | skip
  simp only [opL]
  split
  ·unfold D8
   split
   ·split
    ·refine ek fun cs=>ek fun cs'=>?_
     split
     ·exact fun v=>⟨_,rfl⟩
     ·exact trivial
    ·exact trivial
   ·unfold DS
    split
    ·exact ⟨_,rfl⟩
    ·exact ⟨_,rfl⟩
    ·exact trivial
   unfold EA
   refine aH (sJ fun x=>sJ fun y=>fun v=>⟨_,rfl⟩) ?_
   split
   ·exact fun v=>⟨_,rfl⟩
   ·exact trivial
  ·exact trivial
 | slice t x lo hi mx =>
  have sl:∀ {kd:Kd} {sz:Nat} {x:AV} {lo hi:Option AV},(iK look kd sz x lo hi).All dk:=by
   intro kd sz x lo hi
   unfold iK
   split
   ·exact fd fun lo=>fd fun hi=>fun v=>⟨_,rfl⟩
   ·split
    ·exact fR fun s n=>fd fun lo=>fd fun hi=>⟨_,rfl⟩
    ·split
     ·exact fR fun s=>fd fun hi=>⟨_,rfl⟩
     ·exact fR fun s=>fd fun lo=>fd fun hi=>⟨_,rfl⟩
    ·exact trivial
  cases mx with
  | some m=>rcases vs with _ | ⟨v,r⟩ <;> exact trivial
  | none =>
   rcases vs with _ | ⟨v,r⟩
   ·exact trivial
   ·simp only [opL]
    split
    ·split
     ·split <;> first | exact trivial | exact sl
     ·exact trivial
    ·exact trivial
 | indexAddr t x y =>
  rcases vs with _ | ⟨v,_ | ⟨v',_ | ⟨v'',r⟩⟩⟩ <;> first | exact trivial | skip
  simp only [opL]
  split
  ·unfold pc
   split
   ·split
    ·exact fun v=>⟨_,rfl⟩
    ·split
     ·exact fR fun s n k=>⟨_,rfl⟩
     ·exact fR fun s k=>⟨_,rfl⟩
     ·exact trivial
   ·exact trivial
  ·unfold qP
   split
   ·split
    ·exact aH (fun k=>⟨_,rfl⟩) trivial
    ·exact trivial
   ·exact trivial
 | call c =>
  obtain ⟨callee,args,tys⟩:=c
  cases callee with
  | builtin b =>
   have mn:∀ {mx:Bool} {x y:AV},(xv mx x y).All dk:=by
    intro mx x y
    unfold xv
    split
    ·exact fun v=>⟨_,rfl⟩
    ·exact trivial
   cases b <;> simp [ao] at h
   all_goals simp only [opL]
   all_goals unfold eh
   all_goals split <;> first | exact trivial | exact mn | contradiction | skip
   split
   ·unfold yK
    split
    ·exact ⟨_,rfl⟩
    ·exact sJ fun s v=>⟨_,rfl⟩
   ·exact trivial
  | value f=>cases f <;> simp [ao] at h
  | invoke r m=>simp [ao] at h
 | _=>simp [ao] at h
theorem cls_A {op:Op} (h:ao op=.A) (vs:List AV):(opL E id look op vs).All dl:=by
 cases op with
 | alloc t =>
  rcases vs with _ | ⟨v,r⟩ <;> first | exact trivial | skip
  simp only [opL]
  split
  ·exact ⟨_,_,rfl⟩
  ·exact trivial
 | box t x =>
  rcases vs with _ | ⟨v,_ | ⟨v',r⟩⟩ <;> first | exact trivial | skip
  simp only [opL]
  split
  ·exact ek (fun cs=>⟨_,_,rfl⟩)
  ·exact trivial
 | makeSlice t x y =>
  rcases vs with _ | ⟨v,_ | ⟨v',_ | ⟨v'',r⟩⟩⟩ <;> first | exact trivial | skip
  simp only [opL]
  split
  ·refine aH ?_ trivial
   exact fun n m=>⟨_,_,rfl⟩
  ·exact trivial
 | call c =>
  obtain ⟨callee,args,tys⟩:=c
  cases callee with
  | builtin b=>cases b <;> simp [ao] at h
  | value f=>cases f <;> simp [ao] at h
  | invoke r m=>simp [ao] at h
 | _=>simp [ao] at h
theorem i8 {ps:List Prim} {b:BC} {v:AV}:(cO ps b v).plain=true->dk (cO ps b v)\/dl (cO ps b v):=by
 cases ps with
 | nil=>exact fun _=>.inr ⟨_,_,rfl⟩
 | cons q l=>exact fun h=>by cases h
theorem um {ps:List Prim} {v:AV}:(match ps with | []=>Eff.val v | _=>.gen ps v).plain=true->dk (match ps with | []=>Eff.val v | _=>.gen ps v)\/dl (match ps with | []=>Eff.val v | _=>.gen ps v):=by
 cases ps with
 | nil=>exact fun _=>.inl ⟨_,rfl⟩
 | cons q l=>exact fun h=>by cases h
theorem ku {d:TyD} {x:TV} {k:Out} (h:k.All p):(jm d x k).All p:=by
 unfold jm
 exact aH h h
theorem qy {x:TV} {k:Out} (h:k.All p):∀ (ds:List TyD) (j:Nat),(gw x ds j k).All p
 | [],j=>h
 | d :: ds,j=>ku (qy h ds (j + 1))
theorem sd {ds:List TyD} {v:TV} {ps:List Prim}:(tT id ds v ps).All fun e=>e.plain=true->dk e\/dl e:=by
 have many:∀ ds:List TyD,(Prg.chk (v.isTup ds.length) (gw v ds 0 (bif gJ ds then .ret (cO ps (.tree (bq v ds 0)) (.tups (dT id v ds 0 0)))
   else .ret (match ps with | []=>.val (.tups (dT id v ds 0 0)) | _=>.gen ps (.tups (dT id v ds 0 0)))))).All fun e=>e.plain=true->dk e\/dl e:=by
  intro ds
  refine qy ?_ ds 0
  exact aH i8 um
 match ds with
 | []=>exact many []
 | [d] =>
  simp only [tT]
  refine ku ?_
  split
  ·exact aH i8 um
  ·exact trivial
 | d :: d' :: l=>exact many _
theorem CZ {ds:List TyD} {v:TV} {k:AV->Out} {p:Eff->Prop} (h:∀ av,(k av).All p):(Cl id ds v k).All p:=by
 have some:∀ (ds:List TyD) (j:Nat) (k:Out),k.All p->(gw v ds j k).All p:=by
  intro ds
  induction ds with
  | nil=>intro j k h; exact h
  | cons d ds ih=>intro j k h; exact ku (ih (j + 1) k h)
 unfold Cl
 split
 ·refine ku ?_
  split
  ·exact h _
  ·exact trivial
 ·exact some _ 0 _ (h _)
theorem Bp {f:FuncId} {ld:ft} {vs:List AV}:(nK E id look f ld vs).All fun e=>e.plain=true->dk e\/dl e:=by
 unfold nK
 split
 ·split
  ·refine aH trivial ?_
   exact pH fun xs rs=>dZ fun ys qs ts=>aH (fun v=>CZ fun av=>fun h=>by simp [Eff.plain] at h) trivial
  ·exact trivial
 ·exact trivial
theorem Bm {f:FuncId} {c:Nat × Nat} {vs:List AV}:(oH look f c vs).All fun e=>e.plain=true->dk e\/dl e:=by
 unfold oH
 split
 ·split
  ·split
   ·exact aH (jK fun xs=>fun v=>fun _=>.inl ⟨_,rfl⟩) trivial
   ·exact trivial
  ·exact trivial
 ·exact trivial
theorem AM {f:FuncId} {vs:List AV}:(tr look f vs).All fun e=>e.plain=true->dk e\/dl e:=by
 exact trivial
theorem CV {f:FuncId} {i:Nat} {vs:List AV}:(yc E id look f i vs).All fun e=>e.plain=true->dk e\/dl e:=by
 unfold yc
 refine aH ?_ trivial
 split
 ·split
  ·exact jK fun xs=>fun v=>sd
  ·exact trivial
 ·exact trivial
theorem cls_B {op:Op} (h:ao op=.B) (vs:List AV):(opL E id look op vs).All fun e=>e.plain=true->dk e\/dl e:=by
 cases op with
 | buildSlice t len parts =>
  simp only [opL]
  refine aH ?_ ?_
  ·exact trivial
  unfold iP
  split
  ·refine sT (fun cs=>?_) _ _ _
   refine d9 fun ys qs ts=>?_
   exact aH i8 trivial
  ·exact trivial
 | call c =>
  obtain ⟨callee,args,tys⟩:=c
  cases callee with
  | builtin b=>cases b <;> simp [ao] at h
  | value f =>
   cases f with
   | func f =>
    rcases vs with _ | ⟨v,r⟩
    ·exact trivial
    ·simp only [opL,mT]
     refine aH AM (aH trivial ?_)
     split
     ·exact Bm
     split
     ·exact Bp
     ·split
      ·refine aH ?_ ?_
       ·exact jK fun xs=>fun v=>sd
       ·exact pH fun xs rs=>aH (fun v=>sd) trivial
      ·exact trivial
   | tmp t =>
    rcases vs with _ | ⟨v,r⟩
    ·exact trivial
    ·simp only [opL]
     split
     ·exact fun f=>jK fun xs v=>fun _=>.inl ⟨_,rfl⟩
     ·split
      ·exact CV
      ·exact trivial
   | _=>simp [ao] at h
  | invoke r m=>simp [ao] at h
 | _=>simp [ao] at h
abbrev isUpd (look:Look) (e:Eff):Prop:=∃ i b v,e=.upd i b v/\(look i).isSome=true
theorem BO {op : Op} (h : ao op = .W) (vs : List AV) : (opL E id look op vs).All fun e => e.plain = true → isUpd look e := by
 cases op with
 | store t x y =>
  rcases vs with _ | ⟨v,_ | ⟨v',_ | ⟨v'',r⟩⟩⟩ <;> first | exact trivial | skip
  simp only [opL]
  split
  ·unfold vU
   split
   ·refine aH trivial ?_
    split
    ·rename_i cs xs hrow
     refine ek (fun ps=>?_)
     split
     ·exact fun _=>⟨_,_,_,rfl,by simp [(jk hrow).1]⟩
     ·exact trivial
    ·exact trivial
   ·refine ek (fun ps=>?_)
    split
    ·rename_i cs hl
     exact aH (fun _=>⟨_,_,_,rfl,by simp [hl]⟩) trivial
    ·exact trivial
   ·refine ek (fun ps=>?_)
    split
    ·refine aH trivial (aH ?_ ?_)
     ·refine dZ fun ys qs ts=>aH ?_ trivial
      exact lI fun s e=>fun x' hp=>by cases hp
     ·refine dZ fun ys qs ts=>?_
      split
      ·refine aH ?_ trivial
       refine lI fun s e=>?_
       simp only [Prg.All]
       intro x'
       split
       ·rename_i b hb
        refine fun _=>⟨_,_,_,rfl,?_⟩
        unfold b9 at hb
        split at hb
        ·rename_i hl; simp [hl]
        ·cases hb
       ·exact trivial
      ·exact trivial
    ·exact trivial
   ·exact trivial
  ·exact trivial
 | call c =>
  obtain ⟨callee,args,tys⟩:=c
  cases callee with
  | builtin b=>cases b <;> simp [ao] at h
  | value f=>cases f <;> simp [ao] at h
  | invoke r m=>simp [ao] at h
 | _=>simp [ao] at h
theorem xq {d:TyD} {s:AV} {news:List (List TV)} {ps:List Prim}:(oh id look d s news ps).All fun e=>e.plain=true->dk e\/dl e:=by
 unfold oh
 split
 ·exact aH (fun y=>i8) trivial
 ·split
  ·split
   ·split
    ·exact fun y h=>by cases h
    ·exact fun z y x' h=>by cases h
   ·exact trivial
  ·split
   ·split
    ·exact fun z y h=>by cases h
    ·exact fun z0 z y x' h=>by cases h
   ·exact trivial
  ·exact trivial
theorem Dg {d:TyD} {dest:Option Nat} {x:AV} {k:List (List TV)->List Prim->Out} (h:∀ xs ps,(k xs ps).All p):(wB look d dest x k).All p:=by
 unfold wB
 split
 ·exact fun xs=>h _ _
 ·split
  ·refine aH ?_ ?_
   ·split
    ·split
     ·split
      ·exact aH trivial (fun xs=>h _ _)
      ·exact fun y=>fun xs=>h _ _
     ·exact trivial
    ·split
     ·split
      ·exact aH trivial (fun y xs=>h _ _)
      ·exact fun z y=>fun xs=>h _ _
     ·exact trivial
    ·exact trivial
   ·exact fR (fun s xs=>h _ _)
  ·exact trivial
theorem cls_P {op:Op} (h:ao op=.P) (vs:List AV):(opL E id look op vs).All fun e=>e.plain=true->dk e\/dl e:=by
 cases op with
 | call c =>
  obtain ⟨callee,args,tys⟩:=c
  cases callee with
  | builtin b =>
   cases b <;> simp [ao] at h
   simp only [opL]
   unfold eh
   split <;> try (first | exact trivial | contradiction)
   split
   ·refine aH ?_ ?_
    ·unfold nF
     exact aH (Dg (fun xs ps=>xq)) trivial
    ·split
     ·exact trivial
     ·exact trivial
   ·exact trivial
  | value f=>cases f <;> simp [ao] at h
  | invoke r m=>simp [ao] at h
 | _=>simp [ao] at h
theorem uF {op:Op} (h:ao op=.N\/ao op=.A) (vs:List AV):opL E id look op vs=opL E id look' op vs:=by
 cases op <;> first
  | (rcases vs with _ | ⟨a,_ | ⟨b,_ | ⟨c,_ | ⟨d,r⟩⟩⟩⟩ <;> rfl)
  | (simp [ao] at h; done)
  | (rename_i fn _ _; cases fn <;> rfl)
  | (rename_i ok; cases ok <;> rcases vs with _ | ⟨a,_ | ⟨b,r⟩⟩ <;> rfl)
  | skip
 all_goals
  rename_i c
  obtain ⟨callee,args,tys⟩:=c
  cases callee with
  | builtin b=>cases b <;> simp [ao] at h
  | value f=>cases f <;> simp [ao] at h
  | invoke r m=>simp [ao] at h
end
end Go.Ab
end

import Derived.Test.YtfnpejmlcbkepaaKM12b
set_option linter.all false
section
namespace Go.Ab
open Go.RowKit
structure gU (P:Program) (G:Laid) (E:Env) (C:Cal):Prop where
 ty:∀ t d,E.T t=some d->aY P t d
 call:wN P G E C
section
variable {P:Program} {E:Env} {C:Cal} {w0:Bs} {w w':World} {I0 I R:Nat->Prop} {g g':Gh} {st st':ASt} {a:Act} {ov:List Value} {look:Look} {Q:Exit->Act->World->Prop} {id:Nat}
theorem CV (hE:gU P w0.G E C) (hlk:∀ i b,look i=some b->st.look i=some b) (hs:al w0 I0 NoR g st a ov w) {o:Oper} {e:Eff} (hh:(opL E (st.nid o.dst) look o.op (o.op.operands.toList.map st.ev)).hits C e) (ha:e.app st o.dst=some st') :
  Good P w0 I0 ov o st' a w Q:=by
 obtain ⟨dst,op,type,pos,after,guard⟩:=o
 cases op with
 | move x=>exact DZ hs hh ha
 | assign x=>exact Bc hs hh ha
 | pick c x y=>exact EH hs hh ha
 | alloc t=>exact De hE.ty hs hh ha
 | box t x=>exact op_box hE.ty hs hh ha
 | build t parts=>exact CH hE.ty hs hh ha
 | makeFunc fn first cap=>exact x6 hs hh ha
 | buildSlice t len parts =>
  simp only [opL] at hh
  cases hc:E.cold t && !(len.beq 0) with
  | true=>rw [hc] at hh; exact ED hE.ty hlk hs hh ha
  | false=>rw [hc] at hh; exact uc hE.ty hlk hs hh ha
 | load t x=>exact Eu hE.ty hlk hs hh ha
 | store t x y=>exact BY hE.ty hlk hs hh ha
 | nilCheck x=>exact wZ hs hh ha
 | binOp op xt x y yt=>exact op_bin hE.ty hlk hs hh ha
 | unOp op xt x=>exact op_un hs hh ha
 | convert xt dt x=>exact zl hE.ty hlk hs hh ha
 | makeSlice t x y=>exact wa hE.ty hs hh ha
 | makeInterface t x=>exact op_ifc hE.ty hs hh ha
 | typeAssert x xt t ok=>exact Ez hE.ty hs hh ha
 | slice t x lo hi mx=>exact DK hE.ty hlk hs hh ha
 | fieldAddr t x f=>exact wx hE.ty hs hh ha
 | field t x f=>exact Ci hE.ty hs hh ha
 | indexAddr t x y=>exact vS hE.ty hlk hs hh ha
 | index t x y=>exact Dg hE.ty hs hh ha
 | extract x j=>exact yV hs hh ha
 | call c =>
  obtain ⟨callee,args,tys⟩:=c
  cases callee with
  | builtin b =>
   have hops:(Op.call ⟨.builtin b,args,tys⟩).operands.toList=args.toList:=by simp [Op.operands,Call.operands]
   simp only [hops] at hh
   simp only [opL] at hh
   unfold eD at hh
   split at hh
   ·rename_i x ty hargs htys
    obtain ⟨ox,rfl,hox⟩:=list1 hargs
    have:=arr1 htys
    subst this
    split at hh
    ·rename_i d hT
     rw [<- hox] at hh
     exact yL hlk hs (hE.ty _ _ hT) hh ha
    ·exact hh.elim
   ·rename_i s x ty ty' hargs htys
    obtain ⟨os,ox,rfl,hos,hox⟩:=list2 hargs
    have:=arr2 htys
    subst this
    split at hh
    ·rename_i e1 d hel
     cases hb:Nat.beq ty ty' with
     | false =>
      simp only [hb,cond_false] at hh
      split at hh
      ·rename_i hu
       exact hh.elim
      ·exact hh.elim
     | true =>
      simp only [hb,cond_true] at hh
      have:=(au _ _).1 hb
      subst this
      rw [<- hos,<- hox] at hh
      exact ub hE.ty hlk hs hel hh ha
    ·exact hh.elim
   ·rename_i s x ty ty' hargs htys
    obtain ⟨os,ox,rfl,hos,hox⟩:=list2 hargs
    have:=arr2 htys
    subst this
    split at hh
    ·rename_i e1 d hel
     cases hb:Nat.beq ty ty' with
     | false=>simp [hb,Prg.hits] at hh
     | true =>
      simp only [hb,cond_true] at hh
      have:=(au _ _).1 hb
      subst this
      rw [<- hos,<- hox] at hh
      exact xw hE.ty hlk hs hel hh ha
    ·exact hh.elim
   ·rename_i s ty hargs htys
    obtain ⟨os,rfl,hos⟩:=list1 hargs
    have:=arr1 htys
    subst this
    split at hh
    ·rename_i e1 d hel
     rw [<- hos] at hh
     exact wC hE.ty hlk hs hel hh ha
    ·exact hh.elim
   ·rename_i x y hargs
    obtain ⟨ox,oy,rfl,hox,hoy⟩:=list2 hargs
    rw [<- hox,<- hoy] at hh
    exact rP hs hh ha
   ·rename_i x y hargs
    obtain ⟨ox,oy,rfl,hox,hoy⟩:=list2 hargs
    rw [<- hox,<- hoy] at hh
    exact rP hs hh ha
   ·exact hh.elim
  | value f =>
   cases f with
   | func f =>
    have hops:(Op.call ⟨.value (.func f),args,tys⟩).operands.toList=.func f :: args.toList:=by simp [Op.operands,Call.operands]
    simp only [hops,List.map_cons] at hh
    exact Ex hE.call hE.ty hlk hs hh ha
   | tmp t =>
    have hops:(Op.call ⟨.value (.tmp t),args,tys⟩).operands.toList=.tmp t :: args.toList:=by simp [Op.operands,Call.operands]
    simp only [hops,List.map_cons] at hh
    exact op_dyn hE.call hE.ty hlk hs hh ha
   | _=>simp [opL,Prg.hits] at hh
  | invoke r m=>simp [opL,Prg.hits] at hh
 | _=>simp [opL,Prg.hits] at hh
def AV.nf:AV->AV
 | .one (.t (.lit (.bool b)))=>.bl b
 | .tv (.lit (.bool b))=>.bl b
 | v=>v
def Eff.nfE:Eff->Eff
 | .val v=>.val v.nf
 | .new b v=>.new b v.nf
 | .upd i b v=>.upd i b v.nf
 | .gen ps v=>.gen ps v.nf
def ASt.nfS (st:ASt):ASt:=⟨st.slots.map AV.nf,st.boxes,st.out⟩
theorem aI (v:AV):v.nf=v\/∃ b,v.nf=.bl b/\(v=.one (.t (.lit (.bool b)))\/v=.tv (.lit (.bool b))):=by
 unfold AV.nf
 split
 ·exact .inr ⟨_,rfl,.inl rfl⟩
 ·exact .inr ⟨_,rfl,.inr rfl⟩
 ·exact .inl rfl
theorem vm (v:AV):v.nf.nf=v.nf:=by
 rcases aI v with h | ⟨b,h,_⟩
 ·rw [h,h]
 ·rw [h]; rfl
theorem iv (v:AV):v.nf.tv? = v.tv? := by
 rcases aI v with h | ⟨b,h,rfl | rfl⟩
 ·rw [h]
 ·rfl
 ·rfl
theorem B7 {v:AV} {u:Value}:bP w g look v.nf u ↔ bP w g look v u:=by
 rcases aI v with h | ⟨b,h,rfl | rfl⟩
 ·rw [h]
 ·rw [h]
  constructor
  ·intro h'
   have:u=.bool b:=h'
   subst this
   exact ⟨.lit _,rfl⟩
  ·intro h'
   exact bK h'.1
 ·rw [h]
  constructor
  ·intro h'
   have:u=.bool b:=h'
   subst this
   exact .lit _
  ·intro h'
   exact bK h'
theorem mr (v:AV):v.nf.ea=v.ea:=by
 rcases aI v with h | ⟨b,h,rfl | rfl⟩
 ·rw [h]
 ·rw [h]; rfl
 ·rw [h]; rfl
theorem cu (e:Eff):dJ e.nfE=dJ e:=by cases e <;> simp only [Eff.nfE,dJ,mr]
theorem oC (e:Eff):e.nfE.plain=e.plain:=by cases e <;> rfl
theorem xP (base:Nat) (own:List (List Nat × List Nat)) (e:Eff):e.nfE.nh base own=e.nh base own:=by cases e <;> rfl
theorem xq {S:Type} {agg:Bool} {n:Nat} {v:AV} {k k':List CA->Prg S} {e:S} (hk:∀ cs,(k cs).hits C e->(k' cs).hits C e) (h:(v.a8 agg n k).hits C e):(v.a8 agg n k').hits C e:=by
 unfold AV.a8 at h ⊢
 split at h
 ·rename_i c
  cases hc:c.kept with
  | true=>rw [hc] at h; exact hk _ h
  | false=>rw [hc] at h; exact h.elim
 ·exact ⟨h.1,hk _ h.2⟩
 ·exact hk _ h
 ·exact hk _ h
 ·rename_i cs
  cases hc:cs.length.beq n with
  | true=>rw [hc] at h; exact hk _ h
  | false=>rw [hc] at h; exact h.elim
 ·exact ⟨h.1,hk _ h.2⟩
 ·exact h.elim
theorem fH {S:Type} {agg:Bool} {n:Nat} {v:AV} {k:List CA->Prg S} {e:S} (h:(v.a8 agg n k).hits C e):(v.nf.a8 agg n k).hits C e:=by
 rcases aI v with h1 | ⟨b,h1,rfl | rfl⟩
 ·rwa [h1]
 ·rw [h1]
  cases agg with
  | false=>exact h
  | true=>exact h.elim
 ·rw [h1]
  cases agg with
  | false=>exact h.2
  | true=>exact (by simp [AV.a8,TV.isAgg,Prg.hits] at h)
theorem lV {S:Type} {e:S}:∀ {vs:List AV} {k:List CA->Prg S},(kU vs k).hits C e->(kU (vs.map AV.nf) k).hits C e
 | [],k,h=>h
 | x :: vs, k, h => by
  simp only [kU,List.map_cons] at h ⊢
  refine fH ?_
  unfold AV.a8 at h ⊢
  split at h
  ·rename_i c _
   cases hc:c.kept with
   | false=>simp [hc,Prg.hits] at h
   | true=>simp only [hc,cond_true] at h ⊢; exact lV h
  ·exact ⟨h.1,lV h.2⟩
  ·exact lV h
  ·exact lV h
  ·rename_i cs' hb; cases hb
  ·rename_i cs' hb; cases hb
  ·exact h.elim
theorem jZ {f:FuncId} {e:Eff}:∀ {vs:List AV} {k:List CA->List CA},(kU vs fun cs=>(.ret (.val (.clo f (k cs))):Out)).hits C e->∃ cs,e=.val (.clo f cs)
 | [],k,h=>⟨_,h.symm⟩
 | x :: vs, k, h => by
  simp only [kU] at h
  unfold AV.a8 at h
  split at h
  ·rename_i c _
   cases hc:c.kept with
   | false=>simp [hc,Prg.hits] at h
   | true=>simp only [hc,cond_true] at h; exact jZ (k:=fun cs=>k (_ ++ cs)) h
  ·exact jZ (k:=fun cs=>k (_ ++ cs)) h.2
  ·exact jZ (k:=fun cs=>k (_ ++ cs)) h
  ·exact jZ (k:=fun cs=>k (_ ++ cs)) h
  ·rename_i hb; cases hb
  ·rename_i hb; cases hb
  ·exact h.elim
theorem vJ {S:Type} {at_:Nat->Option (Nat × Bool × Nat)} {k:List CA->Prg S} {e:S}:∀ {is:List Nat} {vs:List AV} {cs:List CA},(cg at_ is vs cs k).hits C e->(cg at_ is (vs.map AV.nf) cs k).hits C e
 | [],[],cs,h=>h
 | i :: is, x :: vs, cs, h => by
  simp only [cg,List.map_cons] at h ⊢
  split at h
  ·rename_i off agg n hat
   have key:∀ ps,((bif (off + ps.length).ble cs.length && ps.length.beq n then cg at_ is vs (b9 cs off ps) k else .fail):Prg S).hits C e->((bif (off + ps.length).ble cs.length && ps.length.beq n then cg at_ is (vs.map AV.nf) (b9 cs off ps) k else .fail):Prg S).hits C e:=by
    intro ps hp
    cases hb:(off + ps.length).ble cs.length && ps.length.beq n with
    | false=>simp [hb,Prg.hits] at hp
    | true=>simp only [hb,cond_true] at hp ⊢; exact vJ hp
   refine fH ?_
   unfold AV.a8 at h ⊢
   split at h
   ·rename_i c
    cases hc:c.kept with
    | false=>simp [hc,Prg.hits] at h
    | true=>simp only [hc,cond_true] at h ⊢; exact key _ h
   ·exact ⟨h.1,key _ h.2⟩
   ·exact key _ h
   ·exact key _ h
   ·rename_i cs'
    have:=key cs'
    cases hc:cs'.length.beq n with
    | false=>simp [hc,Prg.hits] at h
    | true=>simp only [hc,cond_true] at h this ⊢; exact this h
   ·exact ⟨h.1,key _ h.2⟩
   ·exact h.elim
  ·exact h.elim
 | [],_ :: _,cs,h=>h.elim
 | _ :: _,[],cs,h=>h.elim
theorem vG {S:Type} {v:AV} {k:TV->Prg S}:vV look v.nf k=vV look v k:=by
 rcases aI v with h | ⟨b,h,rfl | rfl⟩
 ·rw [h]
 ·rfl
 ·rfl
theorem DE {S:Type} {v:AV} {k:TV->Prg S}:sR look v.nf k=sR look v k:=by
 rcases aI v with h | ⟨b,h,rfl | rfl⟩
 ·rw [h]
 ·rfl
 ·rfl
theorem Cq {S:Type} {v:AV} {k:TV->List (Nat × Nat)->Prg S}:tq look v.nf k=tq look v k:=by
 rcases aI v with h | ⟨b,h,rfl | rfl⟩
 ·rw [h]
 ·rfl
 ·rfl
theorem lH {S:Type}:∀ {vs:List AV} {k:List TV->Prg S},lends look (vs.map AV.nf) k=lends look vs k
 | [],k=>rfl
 | v :: vs,k=>by simp only [List.map_cons,lends,DE,lH]
theorem sL {S:Type}:∀ {vs:List AV} {k:List TV->List (Nat × Nat)->Prg S},hands look (vs.map AV.nf) k=hands look vs k
 | [],k=>rfl
 | v :: vs,k=>by simp only [List.map_cons,hands,Cq,sL]
theorem CY {E:Env} {id:Nat} {look:Look} {f:FuncId} {ld:fJ} (vs:List AV):og E id look f ld (vs.map AV.nf)=og E id look f ld vs:=by
 cases vs with
 | nil=>rfl
 | cons v l =>
  rcases aI v with h | ⟨b,h,rfl | rfl⟩
  ·simp only [List.map_cons,h]
   cases v with
   | one c =>
    cases c with
    | ptr i off =>
     cases off with
     | zero=>simp only [og,sL]
     | succ n=>rfl
    | _=>rfl
   | _=>rfl
  ·simp only [List.map_cons,h]; rfl
  ·simp only [List.map_cons,h]; rfl
theorem CQ {look:Look} {f:FuncId} {c:Nat × Nat} (vs:List AV):nM look f c (vs.map AV.nf)=nM look f c vs:=by
 cases vs with
 | nil=>rfl
 | cons v l =>
  rcases aI v with h | ⟨b,h,rfl | rfl⟩
  ·simp only [List.map_cons,h]
   cases v with
   | one c =>
    cases c with
    | ptr i off =>
     cases off with
     | zero=>simp only [nM,lH]
     | succ n=>rfl
    | _=>rfl
   | _=>rfl
  ·simp only [List.map_cons,h]; rfl
  ·simp only [List.map_cons,h]; rfl
theorem Dv {look:Look} {f:FuncId} (vs:List AV):th look f (vs.map AV.nf)=th look f vs:=by
 rfl
theorem Ey {E:Env} {id:Nat} {look:Look} {f:FuncId} {i:Nat} (vs:List AV):yd E id look f i (vs.map AV.nf)=yd E id look f i vs:=by
 simp only [yd,lH]
theorem EV (d:TyD) (t:TypeId) (v:AV):CK d t v.nf=CK d t v:=by
 rcases aI v with h | ⟨b,h,rfl | rfl⟩
 ·rw [h]
 ·rfl
 ·rfl
theorem CU (d:TyD) (t:TypeId) (v:AV):uK d t v.nf=uK d t v:=by
 simp only [uK,iv]
theorem Bg {S:Type} {v:Option AV} {k:Option Nat->Prg S}:fR (v.map AV.nf) k=fR v k:=by
 cases v with
 | none=>rfl
 | some v=>simp only [fR,FJ,iv]
theorem ut (v:AV):rT v.nf=rT v:=by
 rcases aI v with h | ⟨b,h,rfl | rfl⟩
 ·rw [h]
 ·rfl
 ·rfl
theorem AH {S:Type} {d:TyD} {dest:Option Nat} {v:AV} {k:List (List TV)->List Prim->Prg S}:yA look d dest v.nf k=yA look d dest v k:=by
 rcases aI v with h | ⟨b,h,rfl | rfl⟩
 ·rw [h]
 ·rfl
 ·rfl
theorem mu {kd:Kd} {sz:Nat} {x:AV} {lo hi:Option AV}:iT look kd sz x.nf (lo.map AV.nf) (hi.map AV.nf)=iT look kd sz x lo hi:=by
 simp only [iT,iv,Bg]
 rcases aI x with h | ⟨b,h,rfl | rfl⟩
 ·rw [h]
  cases lo <;> rfl
 ·rfl
 ·rfl
theorem Cu (v:AV):vj v.nf=vj v:=by
 rcases aI v with h | ⟨b,h,rfl | rfl⟩
 ·rw [h]
 ·rfl
 ·rfl
theorem opL_nf {op : Op} {vs : List AV} {e : Eff} (h : (opL E id look op vs).hits C e) : ∃ e', (opL E id look op (vs.map AV.nf)).hits C e' ∧ e'.nfE = e.nfE := by
 cases op with
 | move x =>
  rcases vs with _ | ⟨v,_ | ⟨v',r⟩⟩ <;> first | exact h.elim | skip
  cases h
  exact ⟨_,rfl,by simp [Eff.nfE,vm]⟩
 | assign x =>
  rcases vs with _ | ⟨v,_ | ⟨v',r⟩⟩ <;> first | exact h.elim | skip
  cases h
  exact ⟨_,rfl,by simp [Eff.nfE,vm]⟩
 | pick c x y =>
  rcases vs with _ | ⟨v,_ | ⟨v',_ | ⟨v'',_ | ⟨v3,r⟩⟩⟩⟩ <;> first | exact h.elim | skip
  simp only [opL] at h
  split at h
  ·rename_i b
   cases h
   refine ⟨_,rfl,?_⟩
   cases b <;> simp [Eff.nfE,vm]
  ·rename_i v
   obtain ⟨b,hb,h⟩:=h
   have hv:v=.lit (.bool b):=by
    unfold asBool at hb
    split at hb
    ·cases hb; rfl
    ·cases hb
   subst hv
   rcases h with ⟨rfl,h⟩ | ⟨rfl,h⟩ <;> (cases h; exact ⟨_,rfl,by simp [Eff.nfE,vm]⟩)
  ·rename_i v
   obtain ⟨b,hb,h⟩:=h
   have hv:v=.lit (.bool b):=by
    unfold asBool at hb
    split at hb
    ·cases hb; rfl
    ·cases hb
   subst hv
   rcases h with ⟨rfl,h⟩ | ⟨rfl,h⟩ <;> (cases h; exact ⟨_,rfl,by simp [Eff.nfE,vm]⟩)
  ·exact h.elim
 | alloc t =>
  rcases vs with _ | ⟨v,r⟩ <;> first | exact h.elim | exact ⟨e,h,rfl⟩
 | box t x =>
  rcases vs with _ | ⟨v,_ | ⟨v',r⟩⟩ <;> first | exact h.elim | skip
  refine ⟨e,?_,rfl⟩
  simp only [opL,List.map_cons,List.map_nil] at h ⊢
  split at h
  ·exact fH h
  ·exact h.elim
 | makeFunc fn first cap =>
  cases fn with
  | func f =>
   have:∃ cs,e=.val (.clo f cs):=by
    simp only [opL] at h
    cases hb:first.size.beq 0 with
    | false=>simp [hb,Prg.hits] at h
    | true =>
     simp only [hb,cond_true] at h
     exact jZ (k:=fun l=>l) h
   obtain ⟨cs,rfl⟩:=this
   refine ⟨_,?_,rfl⟩
   simp only [opL] at h ⊢
   cases hb:first.size.beq 0 with
   | false=>simp [hb,Prg.hits] at h
   | true=>simp only [hb,cond_true] at h ⊢; exact lV h
  | _=>exact h.elim
 | build t parts =>
  refine ⟨e,?_,rfl⟩
  simp only [opL] at h ⊢
  split at h
  ·rename_i d hd
   cases hb:l7 E.T d.kd with
   | false=>simp [hb,Prg.hits] at h
   | true=>simp only [hb,cond_true] at h ⊢; exact vJ h
  ·exact h.elim
 | buildSlice t len parts =>
  refine ⟨e,?_,rfl⟩
  simp only [opL] at h ⊢
  cases hc:E.cold t && !(len.beq 0) with
  | true =>
   rw [hc] at h
   simp only [cond_true] at h ⊢
   exact h.elim
  | false =>
   rw [hc] at h
   simp only [cond_false] at h ⊢
   unfold iO at h ⊢
   split at h
   ·exact vJ h
   ·exact h.elim
 | load t x =>
  rcases vs with _ | ⟨v,_ | ⟨v',r⟩⟩ <;> first | exact h.elim | skip
  refine ⟨e,?_,rfl⟩
  rcases aI v with h1 | ⟨b,h1,rfl | rfl⟩
  ·simpa only [List.map_cons,List.map_nil,h1] using h
  ·simp only [opL] at h; split at h <;> exact h.elim
  ·simp only [opL] at h; split at h <;> exact h.elim
 | store t x y =>
  rcases vs with _ | ⟨v,_ | ⟨v',_ | ⟨v'',r⟩⟩⟩ <;> first | exact h.elim | skip
  refine ⟨e,?_,rfl⟩
  simp only [opL,List.map_cons,List.map_nil] at h ⊢
  split at h
  ·rcases aI v with h1 | ⟨b,h1,rfl | rfl⟩
   ·rw [h1]
    unfold vT at h ⊢
    split at h
    ·rename_i e0 _ _ i0 off0 len0 n0
     cases hk0:e0.kd.isAgg with
     | true=>rw [hk0] at h; exact h.elim
     | false =>
      rw [hk0] at h
      simp only [cond_false] at h ⊢
      split at h
      ·exact fH h
      ·exact h.elim
    ·exact fH h
    ·exact fH h
    ·exact h.elim
   ·exact h.elim
   ·exact h.elim
  ·exact h.elim
 | nilCheck x =>
  rcases vs with _ | ⟨v,_ | ⟨v',r⟩⟩ <;> first | exact h.elim | skip
  refine ⟨e,?_,rfl⟩
  rcases aI v with h1 | ⟨b,h1,rfl | rfl⟩
  ·simpa only [List.map_cons,List.map_nil,h1] using h
  ·exact h.elim
  ·exact h.elim
 | binOp op xt x y yt =>
  rcases vs with _ | ⟨v,_ | ⟨v',_ | ⟨v'',r⟩⟩⟩ <;> first | exact h.elim | skip
  refine ⟨e,?_,rfl⟩
  simp only [opL,List.map_cons,List.map_nil] at h ⊢
  split at h
  ·unfold EM at h ⊢
   split at h
   ·split at h
    ·exact fH (xq (fun cs h=>fH h) h)
    ·exact h.elim
   ·simp only [D7,Cu] at h ⊢
    exact h
   ·simp only [D9,vG,iv] at h ⊢
    exact h
  ·exact h.elim
 | unOp op xt x =>
  rcases vs with _ | ⟨v,_ | ⟨v',r⟩⟩ <;> first | exact h.elim | skip
  rcases aI v with h1 | ⟨b,h1,h2⟩
  ·refine ⟨e,?_,rfl⟩
   simpa only [List.map_cons,List.map_nil,h1] using h
  ·have hv:∃ t,(opL E id look (.unOp op xt x) [v]).hits C e->(Prg.tv (pun op (.lit (.bool b))) vt).hits C e:=⟨(),by rcases h2 with rfl | rfl <;> intro h <;> cases op <;> exact h⟩
   obtain ⟨_,hv⟩:=hv
   obtain ⟨z,hz,hh⟩:=hv h
   cases op with
   | not =>
    simp only [pun,Fy] at hz
    subst hz
    cases hh
    refine ⟨.val (.bl !b),?_,rfl⟩
    simp only [List.map_cons,List.map_nil,h1]
    rfl
   | _=>simp [pun] at hz
 | convert xt dt x =>
  rcases vs with _ | ⟨v,_ | ⟨v',r⟩⟩ <;> first | exact h.elim | skip
  refine ⟨e,?_,rfl⟩
  simp only [opL,List.map_cons,List.map_nil,AC,iv,vG] at h ⊢
  exact h
 | makeSlice t x y =>
  rcases vs with _ | ⟨v,_ | ⟨v',_ | ⟨v'',r⟩⟩⟩ <;> first | exact h.elim | skip
  refine ⟨e,?_,rfl⟩
  simp only [opL,List.map_cons,List.map_nil,iv] at h ⊢
  exact h
 | slice t x lo hi mx =>
  refine ⟨e,?_,rfl⟩
  cases mx with
  | some m=>rcases vs with _ | ⟨v,r⟩ <;> exact h.elim
  | none =>
   rcases vs with _ | ⟨v,r⟩
   ·exact h.elim
   ·simp only [opL, List.map_cons] at h ⊢
    split at h
    ·rename_i d hT
     split at h
     ·rename_i sz hsz
      cases lo with
      | none =>
       cases hi with
       | none =>
        rcases r with _ | ⟨l,r⟩
        ·have:=mu (look:=look) (kd:=d.kd) (sz:=sz) (x:=v) (lo:=none) (hi:=none)
         simp only [Option.map_none] at this
         simp only [List.map_nil]
         rw [this]; exact h
        ·exact h.elim
       | some hh =>
        rcases r with _ | ⟨l,_ | ⟨l',r⟩⟩
        ·exact h.elim
        ·have:=mu (look:=look) (kd:=d.kd) (sz:=sz) (x:=v) (lo:=none) (hi:=some l)
         simp only [Option.map_none,FJ] at this
         simp only [List.map_cons,List.map_nil]
         rw [this]; exact h
        ·exact h.elim
      | some ll =>
       cases hi with
       | none =>
        rcases r with _ | ⟨l,_ | ⟨l',r⟩⟩
        ·exact h.elim
        ·have:=mu (look:=look) (kd:=d.kd) (sz:=sz) (x:=v) (lo:=some l) (hi:=none)
         simp only [Option.map_none,FJ] at this
         simp only [List.map_cons,List.map_nil]
         rw [this]; exact h
        ·exact h.elim
       | some hh =>
        rcases r with _ | ⟨l,_ | ⟨l',_ | ⟨l'',r⟩⟩⟩
        ·exact h.elim
        ·exact h.elim
        ·have:=mu (look:=look) (kd:=d.kd) (sz:=sz) (x:=v) (lo:=some l) (hi:=some l')
         simp only [FJ] at this
         simp only [List.map_cons,List.map_nil]
         rw [this]; exact h
        ·exact h.elim
     ·exact h.elim
    ·exact h.elim
 | fieldAddr t x f =>
  rcases vs with _ | ⟨v,_ | ⟨v',r⟩⟩ <;> first | exact h.elim | skip
  refine ⟨e,?_,rfl⟩
  rcases aI v with h1 | ⟨b,h1,rfl | rfl⟩
  ·simpa only [List.map_cons,List.map_nil,h1] using h
  ·simp only [opL] at h
   split at h
   ·rename_i hv
    cases hv
    split at h
    ·rename_i n _ _
     cases hb:Nat.blt 0 n <;> simp [hb,CA.add,Prg.hits] at h
    ·exact h.elim
   ·exact h.elim
  ·simp only [opL] at h
   split at h
   ·rename_i hv; cases hv
   ·exact h.elim
 | field t x f =>
  rcases vs with _ | ⟨v,_ | ⟨v',r⟩⟩ <;> first | exact h.elim | skip
  refine ⟨e,?_,rfl⟩
  rcases aI v with h1 | ⟨b,h1,rfl | rfl⟩
  ·simpa only [List.map_cons,List.map_nil,h1] using h
  ·simp only [opL] at h
   split at h
   ·split at h <;> exact h.elim
   ·exact h.elim
  ·simp only [opL] at h
   split at h
   ·split at h
    ·simp [vP,TV.isAgg,Prg.hits] at h
    ·exact h.elim
   ·exact h.elim
 | indexAddr t x y =>
  rcases vs with _ | ⟨v,_ | ⟨v',_ | ⟨v'',r⟩⟩⟩ <;> first | exact h.elim | skip
  refine ⟨e,?_,rfl⟩
  simp only [opL,List.map_cons,List.map_nil] at h ⊢
  split at h
  ·rcases aI v with h1 | ⟨b,h1,rfl | rfl⟩
   ·simp only [h1,pd,iv] at h ⊢; exact h
   ·simp only [pd,iv] at h ⊢; exact h
   ·simp only [pd,iv] at h ⊢; exact h
  ·unfold rf at h ⊢
   rw [iv]
   rcases aI v with h1 | ⟨b,h1,rfl | rfl⟩
   ·rw [h1]; exact h
   ·split at h
    ·split at h <;> first | exact h.elim | (rename_i hx _; cases hx)
    ·exact h.elim
   ·split at h
    ·split at h <;> first | exact h.elim | (rename_i hx _; cases hx)
    ·exact h.elim
 | index t x y =>
  rcases vs with _ | ⟨v,_ | ⟨v',_ | ⟨v'',r⟩⟩⟩ <;> first | exact h.elim | skip
  refine ⟨e,?_,rfl⟩
  simp only [opL,List.map_cons,List.map_nil,iv] at h ⊢
  split at h
  ·exact h
  ·unfold rh at h ⊢
   rw [iv]
   rcases aI v with h1 | ⟨b,h1,rfl | rfl⟩
   ·rw [h1]; exact h
   ·split at h
    ·split at h <;> first | exact h.elim | (rename_i hx _; cases hx)
    ·exact h.elim
   ·split at h
    ·split at h <;> first | exact h.elim | (rename_i hx _; cases hx)
    ·exact h.elim
 | extract x j =>
  rcases vs with _ | ⟨v,_ | ⟨v',r⟩⟩ <;> first | exact h.elim | skip
  refine ⟨e,?_,rfl⟩
  rcases aI v with h1 | ⟨b,h1,rfl | rfl⟩
  ·simpa only [List.map_cons,List.map_nil,h1] using h
  ·exact h.elim
  ·exact h.elim
 | call c =>
  refine ⟨e,?_,rfl⟩
  obtain ⟨callee,args,tys⟩:=c
  cases callee with
  | builtin b =>
   simp only [opL] at h ⊢
   unfold eD at h
   split at h
   ·rename_i x ty htys
    simp only [htys,eD,List.map_cons,List.map_nil]
    split at h
    ·rename_i d hd
     have key:∀ kd,(yU look kd x).hits C e->(yU look kd x.nf).hits C e:=by intro kd; cases kd <;> simp only [yU,vG] <;> exact fun h=>h
     exact key _ h
    ·exact h.elim
   ·rename_i s x ty ty' htys
    simp only [htys,eD,List.map_cons,List.map_nil]
    split at h
    ·rename_i _ d hel
     cases hb:Nat.beq ty ty' with
     | false =>
      simp only [hb,cond_false] at h ⊢
      split at h
      ·rename_i hu
       exact h.elim
      ·exact h.elim
     | true =>
      simp only [hb,cond_true] at h ⊢
      unfold oK at h ⊢
      rw [AH,ut]
      rcases aI s with h1 | ⟨b,h1,rfl | rfl⟩
      ·rw [h1]; exact h
      ·exact h
      ·exact h
    ·exact h.elim
   ·rename_i s x ty ty' htys
    simp only [htys,eD,List.map_cons,List.map_nil]
    split at h
    ·rename_i _ d hel
     cases hb:Nat.beq ty ty' with
     | false=>simp [hb,Prg.hits] at h
     | true =>
      simp only [hb,cond_true] at h ⊢
      unfold AL at h ⊢
      rw [AH,ut]
      rcases aI s with h1 | ⟨b,h1,rfl | rfl⟩
      ·rw [h1]; exact h
      ·exact h
      ·exact h
    ·exact h.elim
   ·rename_i s ty htys
    simp only [htys,eD,List.map_cons,List.map_nil]
    split at h
    ·unfold vI at h ⊢
     rcases aI s with h1 | ⟨b,h1,rfl | rfl⟩
     ·rw [h1]; exact h
     ·exfalso
      revert h
      cases Nat.blt 0 _ <;> exact fun h=>h.elim
     ·exfalso
      revert h
      cases Nat.blt 0 _ <;> exact fun h=>h.elim
    ·exact h.elim
   ·simp only [eD,List.map_cons,List.map_nil,yb,iv] at h ⊢
    exact h
   ·simp only [eD,List.map_cons,List.map_nil,yb,iv] at h ⊢
    exact h
   ·exact h.elim
  | value f =>
   cases f with
   | func f =>
    rcases vs with _ | ⟨v,r⟩
    ·exact h.elim
    ·simp only [opL,List.map_cons,mY,lH,sL,CY,CQ,Dv] at h ⊢
     exact h
   | tmp t =>
    rcases vs with _ | ⟨v,r⟩
    ·exact h.elim
    ·simp only [opL,List.map_cons,iv,lH,Ey] at h ⊢
     rcases aI v with h1 | ⟨b,h1,rfl | rfl⟩
     ·rw [h1]; exact h
     ·exact h
     ·exact h
   | _=>exact h.elim
  | invoke r m=>exact h.elim
 | makeInterface t x =>
  rcases vs with _ | ⟨v,_ | ⟨v',r⟩⟩ <;> first | exact h.elim | skip
  refine ⟨e,?_,rfl⟩
  simp only [opL,List.map_cons,List.map_nil,EV] at h ⊢
  exact h
 | typeAssert x xt t ok =>
  rcases vs with _ | ⟨v,_ | ⟨v',r⟩⟩ <;> cases ok <;> first | exact h.elim | skip
  refine ⟨e,?_,rfl⟩
  simp only [opL,List.map_cons,List.map_nil,CU] at h ⊢
  exact h
 | _=>exact h.elim
theorem lS (st:ASt):st.nfS.look=st.look:=rfl
theorem oD (st:ASt):st.nfS.base=st.base:=rfl
theorem ww (st:ASt) (d:Option Tmp):st.nfS.nid d=st.nid d:=by cases d <;> rfl
theorem jg (st:ASt) (d:Option Tmp) (v:AV):(st.put d v).nfS=st.nfS.put d v.nf:=by
 cases d with
 | none=>rfl
 | some d=>simp [ASt.nfS,ASt.put,aj,List.map_set]
theorem sY (st:ASt) (i:Nat) (b:Option BC):(st.ae i b).nfS=st.nfS.ae i b:=rfl
theorem jJ (st:ASt) (t:Nat):nth (.one .junk) st.nfS.slots t=(nth (.one .junk) st.slots t).nf:=by
 simp only [ASt.nfS,aR,FC]
 cases st.slots[t]? <;> rfl
theorem Bx (ps:List Nat) (st:ASt) (d:Option Nat) (e:Eff):cq ps st.nfS d e.nfE=cq ps st d e:=by
 unfold cq
 congr 1
 funext k
 cases d with
 | none=>rw [oD,cu]
 | some d=>simp only [oD,cu,jJ,mr]
theorem oS (k s:Nat):∀ (l:List AV) (n:Nat),fy k s n (l.map AV.nf)=fy k s n l
 | [],n=>rfl
 | v :: l,n=>by simp only [List.map_cons,fy,mr,oS k s l (n + 1)]
theorem xF {k:Nat} {v:AV} (h:ke k v=true):ke k v.nf=true:=by
 unfold ke at h
 split at h
 ·exact h
 ·cases h
theorem iS {e:Eff} {i:Nat} {y:TV} (h:jQ e=some (i,y)):e=.gen [.drop i 0 [] false,.root i 0 y] (.one (.sref i 0 [])):=by
 unfold jQ at h
 split at h
 ·rename_i i' j y' k
  cases hb:i'.beq j && i'.beq k with
  | false=>rw [hb] at h; cases h
  | true =>
   simp only [hb,cond_true,Fy,Prod.mk.injEq] at h
   simp only [Fz] at hb
   obtain ⟨rfl,rfl⟩:=h
   rw [<- (au _ _).1 hb.1,<- (au _ _).1 hb.2]
 ·cases h
theorem na (i:Nat) (y:TV):jQ (.gen [.drop i 0 [] false,.root i 0 y] (.one (.sref i 0 [])))=some (i,y):=by
 simp only [jQ,(au i i).2 rfl,Bool.and_self,cond_true]
theorem Ba {o:Item} {st:ASt} {e:Eff} (h:dj o st e=true):dj o st.nfS e.nfE=true:=by
 unfold dj at h ⊢
 split at h
 ·rename_i s i y h1 h2
  have:=iS h2
  subst this
  simp only [Fz] at h
  simp only [h1,Eff.nfE,AV.nf,na,Fz]
  refine ⟨⟨⟨⟨⟨h.1.1.1.1.1,?_⟩,h.1.1.1.2⟩,?_⟩,h.1.2⟩,h.2⟩
  ·rw [jJ]; exact xF h.1.1.1.1.2
  ·rw [show st.nfS.slots=st.slots.map AV.nf from rfl,oS]; exact h.1.1.2
 ·cases h
theorem tW (st:ASt) (x:Operand):st.nfS.ev x=(st.ev x).nf:=by
 cases x with
 | tmp t=>exact jJ st t
 | const v =>
  cases v with
  | bool b=>rfl
  | _=>first | rfl | (simp only [ASt.ev]; cases Value.oneCell' _ <;> rfl)
 | global g=>rfl
 | func f=>rfl
theorem rY:∀ (l:List AV),cX (l.map AV.nf)=cX l
 | []=>rfl
 | v :: l=>by simp only [List.map_cons,cX,iv,rY l]
theorem li (e:Eff):iK e.nfE=iK e:=by
 cases e with
 | new b v=>cases b <;> rfl
 | _=>rfl
theorem Br {i:Item} {st:ASt} {e:Eff}:im i st.nfS e.nfE=im i st e:=by
 unfold im
 have:i.o.op.operands.toList.map st.nfS.ev=(i.o.op.operands.toList.map st.ev).map AV.nf:=by
  rw [List.map_map]
  exact List.map_congr_left fun x _=>tW st x
 rw [this,rY,li,cu]
 rfl
theorem xo:∀ (l:List AV),ga (l.map AV.nf)=ga l
 | []=>rfl
 | v :: l=>by simp only [List.map_cons,ga,mr,xo l]
theorem pO (e:Eff):lB e.nfE=lB e:=by cases e <;> rfl
theorem zB (e:Eff):drE e.nfE=drE e:=by cases e <;> rfl
theorem sM (k:Nat) (e:Eff):vB k e.nfE=vB k e:=by cases e <;> rfl
theorem rn (v:AV):(v.nf.bW CA.deep).ea=(v.bW CA.deep).ea:=by
 rcases aI v with h | ⟨b,h,rfl | rfl⟩
 ·rw [h]
 ·rw [h]; rfl
 ·rw [h]; rfl
theorem yp:∀ (l:List AV),ga (bZ CA.deep (l.map AV.nf))=ga (bZ CA.deep l)
 | []=>rfl
 | v :: l=>by simp only [List.map_cons,bZ,ga,rn,yp l]
theorem qF (e:Eff):oq e.nfE=oq e:=by
 cases e with
 | val v=>exact rn v
 | new b v=>exact cu (.new b v)
 | upd i b v=>exact cu (.upd i b v)
 | gen ps v=>exact cu (.gen ps v)
theorem Bn {i:Item} {st:ASt} {e:Eff}:cC i st.nfS e.nfE=cC i st e:=by
 unfold cC
 simp only [pO,zB,sM]
 rfl
theorem BA {i:Item} {st:ASt} {e:Eff}:dq i st.nfS e.nfE=dq i st e:=by
 unfold dq
 have hd:∀ d b,jv st.nfS d b=jv st d b:=fun d b=>by
  cases d with
  | none=>rfl
  | some d =>
   have:=tW st (.tmp d)
   simp only [ASt.ev] at this
   simp only [jv,this,mr]
 have hd2:∀ d b,gR st.nfS d b=gR st d b:=fun d b=>by
  cases d with
  | none=>rfl
  | some d =>
   have:=tW st (.tmp d)
   simp only [ASt.ev] at this
   simp only [gR,this,rn]
 simp only [hd,hd2,cu,qF]
 have:i.o.op.operands.toList.map st.nfS.ev=(i.o.op.operands.toList.map st.ev).map AV.nf:=by
  rw [List.map_map]
  exact List.map_congr_left fun x _=>tW st x
 rw [this,xo,yp]
 rfl
theorem okE_nf {i:Item} {st:ASt} {e:Eff} (h:okE i st e=true):okE i st.nfS e.nfE=true:=by
 unfold okE at h ⊢
 rw [Bool.or_eq_true] at h ⊢
 rcases h with h | h
 ·rw [Bn]; exact .inl h
 refine .inr ?_
 rw [Bool.or_eq_true] at h ⊢
 rcases h with h | h
 ·rw [oC,xP,oD,Bx,Br,BA]; exact .inl h
 ·exact .inr (Ba h)
theorem vO (hs:Sim w0 I0 st a ov w):Sim w0 I0 st.nfS a ov w:=by
 obtain ⟨g,hs⟩:=hs
 refine ⟨g,hs.below,hs.sub,hs.lt,hs.old,by simp [ASt.nfS,hs.len],hs.defers,fun t v hv=>?_,hs.olen,hs.outs,hs.cells,hs.trees,hs.foot,hs.apart,hs.apartR,hs.res,hs.base,hs.out⟩
 simp only [ASt.nfS,FC] at hv
 cases hsl:st.slots[t]? with
 | none=>simp [hsl] at hv
 | some u =>
  simp only [hsl,FJ,Fy] at hv
  subst hv
  exact B7.2 (hs.slots t u hsl)
theorem eN (hs:Sim w0 I0 st.nfS a ov w):Sim w0 I0 st a ov w:=by
 obtain ⟨g,hs⟩:=hs
 refine ⟨g,hs.below,hs.sub,hs.lt,hs.old,by have:=hs.len; simpa [ASt.nfS] using this,hs.defers,fun t v hv=>?_,hs.olen,hs.outs,hs.cells,hs.trees,hs.foot,hs.apart,hs.apartR,hs.res,hs.base,hs.out⟩
 exact B7.1 (hs.slots t v.nf (by simp [ASt.nfS,hv]))
theorem oM (i r:Nat) (js:List Nat) (b:Bool) (v:AV):(v.bW (CA.drop i r js b)).nf=v.nf.bW (CA.drop i r js b):=by
 rcases aI v with h | ⟨b,h,rfl | rfl⟩
 ·rw [h]
  cases v with
  | one c =>
   have key:∀ c:CA,c.drop i r js b=c\/c.drop i r js b=.junk:=fun c=>by
    rcases fY i r js b c with ⟨h,_⟩ | h
    ·exact .inl h
    ·exact .inr h
   simp only [AV.bW]
   rcases key c with h' | h'
   ·rw [h',h]
   ·rw [h']; rfl
  | tv x=>exact h
  | _=>rfl
 ·rfl
 ·rfl
theorem Cp (st:ASt) (i r:Nat) (js:List Nat) (b:Bool):(st.az (CA.drop i r js b)).nfS=st.nfS.az (CA.drop i r js b):=by
 simp only [ASt.nfS,ASt.az]
 congr 1
 apply List.ext_getElem?
 intro t
 simp only [FC,mE]
 cases st.slots[t]? with
 | none=>rfl
 | some v=>simp [oM]
theorem qz (i:Nat) (v:AV):(v.bW (CA.unM i)).nf=v.nf.bW (CA.unM i):=by
 cases v with
 | one c =>
  cases c with
  | t x =>
   cases x with
   | lit u=>cases u <;> rfl
   | _=>rfl
  | may j ty =>
   simp only [AV.bW,CA.unM,AV.nf]
   cases j.beq i <;> rfl
  | _=>rfl
 | tv x =>
  cases x with
  | lit u=>cases u <;> rfl
  | _=>rfl
 | _=>rfl
theorem Ek (st:ASt) (i:Nat):(st.az (CA.unM i)).nfS=st.nfS.az (CA.unM i):=by
 simp only [ASt.az,ASt.nfS]
 congr 1
 induction st.slots with
 | nil=>rfl
 | cons v l ih=>simp only [bZ,List.map_cons,qz,ih]
theorem uF {i:Nat} {b:BC} (h:st.bB i b=some st'):st.nfS.bB i b=some st'.nfS:=by
 obtain ⟨h1,h2,rfl⟩:=bv h
 have h2':i.blt st.nfS.boxes.length=true:=by simpa [ASt.nfS] using h2
 simp only [ASt.bB,lS,h1,h2',cond_true,sY]
theorem qT {d:Option Tmp}:∀ {ps:List Prim} {st st':ASt},af d ps st=some st'->af d ps st.nfS=some st'.nfS
 | [],st,st',h=>by simp only [af,Fy] at h; subst h; rfl
 | p :: ps, st, st', h => by
  simp only [af] at h ⊢
  cases h1:p.app st d with
  | none=>simp [h1] at h
  | some s1 =>
   simp only [h1] at h
   have:p.app st.nfS d=some s1.nfS:=by
    cases p with
    | drop i r js b =>
     simp only [Prim.app,Fy] at h1 ⊢
     subst h1
     rw [Cp]
    | root i r x =>
     simp only [Prim.app,lS] at h1 ⊢
     split at h1
     ·rename_i b hb
      simp only [Fy] at h1
      subst h1
      rfl
     ·cases h1
    | frz i r =>
     simp only [Prim.app,lS] at h1 ⊢
     split at h1
     ·rename_i x hx
      split at h1
      ·rename_i b hb
       simp only [Fy] at h1
       subst h1
       rfl
      ·cases h1
     ·cases h1
    | unmay i =>
     simp only [Prim.app,Fy] at h1 ⊢
     subst h1
     rw [Ek]
    | newB b =>
     cases d with
     | none=>simp [Prim.app] at h1
     | some d =>
      simp only [Prim.app] at h1 ⊢
      rw [ww]
      exact uF h1
    | setB i cs =>
     simp only [Prim.app,lS] at h1 ⊢
     split at h1
     ·simp only [Fy] at h1
      subst h1
      rfl
     ·cases h1
   rw [this]
   exact qT h
theorem app_nf {e:Eff} {d:Option Tmp} (h:e.app st d=some st'):e.nfE.app st.nfS d=some st'.nfS:=by
 cases e with
 | val v =>
  simp only [Eff.app,Eff.nfE,Fy] at h ⊢
  subst h
  rw [jg]
 | new b v =>
  cases d with
  | none=>simp [Eff.app] at h
  | some d =>
   simp only [Eff.app,Eff.nfE] at h ⊢
   rw [ww]
   split at h
   ·rename_i s1 hs1
    simp only [Fy] at h
    subst h
    rw [uF hs1]
    simp only [jg]
   ·cases h
 | upd i b v =>
  simp only [Eff.app,Eff.nfE,Fy] at h ⊢
  subst h
  rw [jg,sY]
 | gen ps v =>
  simp only [Eff.app,Eff.nfE] at h ⊢
  split at h
  ·rename_i s1 hs1
   simp only [Fy] at h
   subst h
   rw [qT hs1]
   simp only [jg]
  ·cases h
theorem lk {d:Option Tmp} {v:AV} (hs:Sim w0 I0 (st.put d v) a ov w):Sim w0 I0 (st.put d v.nf) a ov w:=by
 apply eN
 have:=vO hs
 rw [jg] at this ⊢
 rwa [vm]
theorem Ay {e:Eff} {d:Option Tmp} (h:e.nfE.app st d=some st'):∃ st1,e.app st d=some st1/\∀ w0 I0 a ov w,Sim w0 I0 st1 a ov w->Sim w0 I0 st' a ov w:=by
 cases e with
 | val v =>
  simp only [Eff.app,Eff.nfE,Fy] at h ⊢
  subst h
  exact ⟨_,rfl,fun w0 I0 a ov w hs=>lk hs⟩
 | new b v =>
  cases d with
  | none=>simp [Eff.app,Eff.nfE] at h
  | some d =>
   simp only [Eff.app,Eff.nfE] at h ⊢
   split at h
   ·rename_i s1 hs1
    simp only [Fy] at h
    subst h
    exact ⟨_,rfl,fun w0 I0 a ov w hs=>lk hs⟩
   ·cases h
 | upd i b v =>
  simp only [Eff.app,Eff.nfE,Fy] at h ⊢
  subst h
  exact ⟨_,rfl,fun w0 I0 a ov w hs=>lk hs⟩
 | gen ps v =>
  simp only [Eff.app,Eff.nfE] at h ⊢
  split at h
  ·rename_i s1 hs1
   simp only [Fy] at h
   subst h
   exact ⟨_,rfl,fun w0 I0 a ov w hs=>lk hs⟩
  ·cases h
end
end Go.Ab
end
section
namespace Go.Ab
open Go.RowKit
def Prg.All {R:Type} (p:R->Prop):Prg R->Prop
 | .fail=>True
 | .ret e=>p e
 | .tv _ k=>∀ v,(k v).All p
 | .tvs _ k=>∀ v,(k v).All p
 | .rws _ k=>∀ v,(k v).All p
 | .nat _ k=>∀ v,(k v).All p
 | .chk _ k=>k.All p
 | .ite _ t e=>t.All p/\e.All p
 | .call _ _ k=>∀ v,(k v).All p
 | .jmp _ _=>True
theorem Prg.All.hits {R:Type} {C:Cal} {p:R->Prop} {e:R}:∀ {o:Prg R},o.All p->o.hits C e->p e
 | .ret e',h,h'=>by cases h'; exact h
 | .tv _ k,h,⟨v,_,h'⟩=>(h v).hits h'
 | .tvs _ k,h,⟨v,_,h'⟩=>(h v).hits h'
 | .rws _ k,h,⟨v,_,h'⟩=>(h v).hits h'
 | .nat _ k,h,⟨v,_,h'⟩=>(h v).hits h'
 | .chk _ k,h,⟨_,h'⟩=>Prg.All.hits (o:=k) h h'
 | .ite _ t e,h,⟨v,_,.inl ⟨_,h'⟩⟩=>Prg.All.hits (o:=t) h.1 h'
 | .ite _ t e,h,⟨v,_,.inr ⟨_,h'⟩⟩=>Prg.All.hits (o:=e) h.2 h'
 | .call _ _ k,h,⟨v,_,h'⟩=>(h v).hits h'
section
variable {E:Env} {look look':Look} {p:Eff->Prop} {id:Nat}
theorem aL {b:Bool} {x y:Out} (hx:x.All p) (hy:y.All p):(bif b then x else y).All p:=by cases b <;> assumption
theorem mm {q:Way} {x:TV} {k:TV->Out} (h:∀ y,(k y).All p):(pj q x k).All p:=by
 unfold pj
 split
 ·exact h _
 ·exact h
theorem fO {c:CA} {k:TV->Out} (h:∀ y,(k y).All p):(ja look c k).All p:=by
 unfold ja
 split
 ·exact h _
 ·split
  ·exact mm h
  ·exact trivial
 ·split
  ·exact mm fun y z=>h z
  ·exact trivial
 ·exact trivial
theorem rS {v:AV} {k:TV->Out} (h:∀ y,(k y).All p):(vV look v k).All p:=by
 unfold vV
 split
 ·exact fO h
 ·exact h _
 ·exact h _
 ·exact trivial
theorem vq {c:CA} {k:TV->Out} (h:∀ y,(k y).All p):(sr look c k).All p:=by
 unfold sr
 split
 ·exact h _
 ·exact fO fun y=>h _
 ·exact fO fun y=>h _
 ·exact trivial
theorem u1 {k:List TV->Out}:∀ {cs:List CA} {k:List TV->Out},(∀ y,(k y).All p)->(Av look cs k).All p
 | [],k,h=>h _
 | c :: cs,k,h=>vq fun y=>u1 (k:=fun _=>.fail) fun ys=>h _
theorem BN {v:AV} {k:TV->Out} (h:∀ y,(k y).All p):(sR look v k).All p:=by
 unfold sR
 split
 ·exact vq h
 ·exact h _
 ·exact u1 (k:=fun _=>.fail) fun ys=>h _
 ·exact trivial
 ·exact trivial
 ·exact h _
theorem jU:∀ {vs:List AV} {k:List TV->Out},(∀ y,(k y).All p)->(lends look vs k).All p
 | [],k,h=>h _
 | v :: vs,k,h=>BN fun y=>jU fun ys=>h _
theorem vk {c:CA} {k:TV->List (Nat × Nat)->Out} (h:∀ y r,(k y r).All p):(tz look c k).All p:=by
 unfold tz
 split
 ·exact h _ _
 ·split
  ·split
   ·exact h _ _
   ·exact fun y=>h _ _
  ·exact trivial
 ·split
  ·split
   ·exact fun y=>h _ _
   ·exact fun z y=>h _ _
  ·exact trivial
 ·exact trivial
theorem uP:∀ {cs:List CA} {k:List TV->List (Nat × Nat)->Out},(∀ y r,(k y r).All p)->(AI look cs k).All p
 | [],k,h=>h _ _
 | c :: cs,k,h=>vk fun y r=>uP fun ys rs=>h _ _
theorem Bd {v:AV} {k:TV->List (Nat × Nat)->Out} (h:∀ y r,(k y r).All p):(tq look v k).All p:=by
 unfold tq
 split
 ·exact vk h
 ·exact h _ _
 ·exact uP fun ys rs=>h _ _
 ·exact trivial
 ·exact trivial
 ·exact h _ _
theorem pN:∀ {vs:List AV} {k:List TV->List (Nat × Nat)->Out},(∀ y r,(k y r).All p)->(hands look vs k).All p
 | [],k,h=>h _ _
 | v :: vs,k,h=>Bd fun y r=>pN fun ys rs=>h _ _
theorem ew:∀ {cs:List CA} {k:List TV->List Prim->List (Nat × Nat)->Out},(∀ y q r,(k y q r).All p)->(cK look cs k).All p
 | [],k,h=>h _ _ _
 | .t x :: l,k,h=>by
  simp only [cK]
  exact ew (cs:=l) fun xs ps ts=>h _ _ _
 | .sref i r q :: l, k, h => by
  simp only [cK]
  split
  ·split
   ·exact ew (cs:=l) fun xs ps ts=>h _ _ _
   ·exact fun y=>ew (cs:=l) fun xs ps ts=>h _ _ _
  ·exact trivial
 | .swin i r q lo len :: l, k, h => by
  simp only [cK]
  split
  ·split
   ·exact fun y=>ew (cs:=l) fun xs ps ts=>h _ _ _
   ·exact fun z y=>ew (cs:=l) fun xs ps ts=>h _ _ _
  ·exact trivial
 | .ptr _ _ :: l,k,h=>trivial
 | .ref _ _ :: l,k,h=>trivial
 | .tptr _ _ _ _ _ :: l,k,h=>trivial
 | .may _ _ :: l,k,h=>trivial
 | .aptr _ _ _ _ :: l,k,h=>trivial
 | .ifp _ _ :: l,k,h=>trivial
 | .fn1 _ _ :: l,k,h=>trivial
 | .yl _ :: l,k,h=>trivial
 | .undef :: l,k,h=>trivial
 | .junk :: l,k,h=>trivial
theorem ef:∀ {cs:List CA} {k:List TV->List Prim->List (Nat × Nat)->Out},(∀ y q r,(k y q r).All p)->(ci look cs k).All p
 | [],k,h=>h _ _ _
 | .t x :: l,k,h=>by
  simp only [ci]
  exact ef (cs:=l) fun xs ps ts=>h _ _ _
 | .sref i r q :: l, k, h => by
  simp only [ci]
  split
  ·split
   ·exact ef (cs:=l) fun xs ps ts=>h _ _ _
   ·exact fun y=>⟨ef (cs:=l) fun xs ps ts=>h _ _ _,fun x'=>ef (cs:=l) fun xs ps ts=>h _ _ _⟩
  ·exact trivial
 | .swin i r q lo len :: l, k, h => by
  simp only [ci]
  split
  ·split
   ·exact fun y=>ef (cs:=l) fun xs ps ts=>h _ _ _
   ·exact fun z y=>ef (cs:=l) fun xs ps ts=>h _ _ _
  ·exact trivial
 | .ptr _ _ :: l,k,h=>trivial
 | .ref _ _ :: l,k,h=>trivial
 | .tptr _ _ _ _ _ :: l,k,h=>trivial
 | .may _ _ :: l,k,h=>trivial
 | .aptr _ _ _ _ :: l,k,h=>trivial
 | .ifp _ _ :: l,k,h=>trivial
 | .fn1 _ _ :: l,k,h=>trivial
 | .yl _ :: l,k,h=>trivial
 | .undef :: l,k,h=>trivial
 | .junk :: l,k,h=>trivial
theorem er {agg:Bool} {n:Nat} {x:AV} {k:List CA->Out} (h:∀ cs,(k cs).All p):(x.a8 agg n k).All p:=by
 unfold AV.a8
 split
 ·rename_i c; cases c.kept <;> first | exact trivial | exact h _
 ·exact h _
 ·exact h _
 ·exact h _
 ·rename_i cs; cases cs.length.beq n <;> first | exact trivial | exact h _
 ·exact h _
 ·exact trivial
theorem sD {at_:Nat->Option (Nat × Bool × Nat)} {k:List CA->Out} (h:∀ cs,(k cs).All p):∀ (is:List Nat) (vs:List AV) (cs:List CA),(cg at_ is vs cs k).All p
 | [],[],cs=>h cs
 | i :: is, x :: vs, cs => by
  simp only [cg]
  split
  ·refine er (fun ps=>?_)
   exact aL (sD h is vs _) trivial
  ·exact trivial
 | [],_ :: _,cs=>trivial
 | _ :: _,[],cs=>trivial
theorem fp {v:Option AV} {k:Option Nat->Out} (h:∀ n,(k n).All p):(fR v k).All p:=by
 unfold fR
 split
 ·exact h _
 ·split
  ·exact fun v=>h _
  ·exact trivial
abbrev dC (e:Eff):Prop:=∃ v,e=.val v
abbrev dB (e:Eff):Prop:=∃ b v,e=.new b v
theorem xZ {d:TyD} {x:List TV} {off:Nat}:(kw d x off).All dC:=by
 unfold kw
 cases d.kd.isAgg
 ·exact ⟨_,rfl⟩
 ·exact ⟨_,rfl⟩
theorem vy:∀ {vs:List AV} {k:List CA->Out},(∀ cs,(k cs).All p)->(kU vs k).All p
 | [],k,h=>h _
 | v :: vs,k,h=>er fun cs=>vy fun cs'=>h _
theorem E5 {op:Op} (h:ap op=.N) (vs:List AV):(opL E id look op vs).All dC:=by
 cases op with
 | move x=>rcases vs with _ | ⟨v,_ | ⟨v',r⟩⟩ <;> first | exact trivial | exact ⟨_,rfl⟩
 | assign x=>rcases vs with _ | ⟨v,_ | ⟨v',r⟩⟩ <;> first | exact trivial | exact ⟨_,rfl⟩
 | pick c x y =>
  rcases vs with _ | ⟨v,_ | ⟨v',_ | ⟨v'',_ | ⟨v3,r⟩⟩⟩⟩ <;> first | exact trivial | skip
  simp only [opL]
  split <;> first | exact trivial | exact ⟨_,rfl⟩ | exact ⟨⟨_,rfl⟩,⟨_,rfl⟩⟩
 | build t parts =>
  simp only [opL]
  split
  ·refine aL ?_ trivial
   refine sD ?_ _ _ _
   exact fun cs=>⟨_,rfl⟩
  ·exact trivial
 | nilCheck x =>
  rcases vs with _ | ⟨v,_ | ⟨v',r⟩⟩ <;> first | exact trivial | skip
  simp only [opL]
  split <;> first | exact trivial | exact ⟨_,rfl⟩
 | unOp op xt x =>
  rcases vs with _ | ⟨v,_ | ⟨v',r⟩⟩ <;> first | exact trivial | skip
  simp only [opL]
  split
  ·exact ⟨_,rfl⟩
  ·split
   ·exact fun v=>⟨_,rfl⟩
   ·exact trivial
 | fieldAddr t x f =>
  rcases vs with _ | ⟨v,_ | ⟨v',r⟩⟩ <;> first | exact trivial | skip
  simp only [opL]
  split
  ·split
   ·refine aL ?_ trivial
    split <;> first | exact trivial | exact ⟨_,rfl⟩
   ·exact trivial
  ·exact trivial
 | field t x f =>
  rcases vs with _ | ⟨v,_ | ⟨v',r⟩⟩ <;> first | exact trivial | skip
  simp only [opL]
  split
  ·split
   ·unfold vP
    split
    ·split
     ·split <;> first | exact trivial | exact ⟨_,rfl⟩
     ·exact trivial
    ·exact ⟨_,rfl⟩
    ·exact trivial
   ·exact trivial
  ·exact trivial
 | index t x y =>
  rcases vs with _ | ⟨v,_ | ⟨v',_ | ⟨v'',r⟩⟩⟩ <;> first | exact trivial | skip
  simp only [opL]
  split
  ·exact fun v=>⟨_,rfl⟩
  ·unfold rh
   split
   ·split
    ·refine aL ?_ trivial
     split
     ·exact fun k v=>⟨_,rfl⟩
     ·exact trivial
    ·exact trivial
   ·exact trivial
 | extract x j =>
  rcases vs with _ | ⟨v,_ | ⟨v',r⟩⟩ <;> first | exact trivial | skip
  simp only [opL]
  split
  ·split
   ·split <;> first | exact trivial | exact ⟨_,rfl⟩
   ·exact trivial
  ·exact trivial
 | makeFunc fn first cap =>
  cases fn with
  | func f =>
   simp only [opL]
   exact aL (vy fun cs=>⟨_,rfl⟩) trivial
  | _=>exact trivial
 | call c =>
  obtain ⟨callee,args,tys⟩:=c
  cases callee with
  | builtin b=>cases b <;> simp [ap] at h
  | value f=>cases f <;> simp [ap] at h
  | invoke r m=>simp [ap] at h
 | makeInterface t x =>
  rcases vs with _ | ⟨v,_ | ⟨v',r⟩⟩ <;> first | exact trivial | skip
  simp only [opL]
  split
  ·unfold CK
   refine aL ?_ trivial
   split
   ·exact ⟨_,rfl⟩
   ·split
    ·exact fun v=>⟨_,rfl⟩
    ·exact trivial
  ·exact trivial
 | typeAssert x xt t ok =>
  rcases vs with _ | ⟨v,_ | ⟨v',r⟩⟩ <;> cases ok <;> first | exact trivial | skip
  simp only [opL]
  split
  ·unfold uK
   refine aL ?_ trivial
   split
   ·exact fun v=>⟨_,rfl⟩
   ·exact trivial
  ·exact trivial
 | _=>simp [ap] at h
theorem B4 {op:Op} (h:ap op=.R) (vs:List AV):(opL E id look op vs).All dC:=by
 cases op with
 | load t x =>
  rcases vs with _ | ⟨v,_ | ⟨v',r⟩⟩ <;> first | exact trivial | skip
  simp only [opL]
  split
  ·unfold AP
   split
   ·refine aL trivial ?_
    split
    ·exact fun v=>⟨_,rfl⟩
    ·exact trivial
   ·split
    ·split
     ·split
      ·exact ⟨_,rfl⟩
      ·exact trivial
     ·exact trivial
    ·exact trivial
   ·exact xZ
   ·split
    ·refine mm (fun s e=>?_)
     simp only [Prg.All]
     split
     ·exact ⟨_,rfl⟩
     ·exact trivial
    ·exact trivial
   ·exact trivial
  ·exact trivial
 | convert xt dt x =>
  rcases vs with _ | ⟨v,_ | ⟨v',r⟩⟩ <;> first | exact trivial | skip
  simp only [opL]
  split
  ·unfold AC
   split
   ·exact trivial
   ·split
    ·exact fun v=>⟨_,rfl⟩
    ·exact trivial
  ·exact trivial
 | binOp op xt x y yt =>
  rcases vs with _ | ⟨v,_ | ⟨v',_ | ⟨v'',r⟩⟩⟩ <;> first | exact trivial | skip
  simp only [opL]
  split
  ·unfold EM
   split
   ·split
    ·refine er fun cs=>er fun cs'=>?_
     split
     ·exact fun v=>⟨_,rfl⟩
     ·exact trivial
    ·exact trivial
   ·unfold D7
    split
    ·exact ⟨_,rfl⟩
    ·exact ⟨_,rfl⟩
    ·exact trivial
   unfold D9
   refine aL (rS fun x=>rS fun y=>fun v=>⟨_,rfl⟩) ?_
   split
   ·exact fun v=>⟨_,rfl⟩
   ·exact trivial
  ·exact trivial
 | slice t x lo hi mx =>
  have sl:∀ {kd:Kd} {sz:Nat} {x:AV} {lo hi:Option AV},(iT look kd sz x lo hi).All dC:=by
   intro kd sz x lo hi
   unfold iT
   split
   ·exact fp fun lo=>fp fun hi=>fun v=>⟨_,rfl⟩
   ·split
    ·exact fO fun s n=>fp fun lo=>fp fun hi=>⟨_,rfl⟩
    ·split
     ·exact fO fun s=>fp fun hi=>⟨_,rfl⟩
     ·exact fO fun s=>fp fun lo=>fp fun hi=>⟨_,rfl⟩
    ·exact trivial
  cases mx with
  | some m=>rcases vs with _ | ⟨v,r⟩ <;> exact trivial
  | none =>
   rcases vs with _ | ⟨v,r⟩
   ·exact trivial
   ·simp only [opL]
    split
    ·split
     ·split <;> first | exact trivial | exact sl
     ·exact trivial
    ·exact trivial
 | indexAddr t x y =>
  rcases vs with _ | ⟨v,_ | ⟨v',_ | ⟨v'',r⟩⟩⟩ <;> first | exact trivial | skip
  simp only [opL]
  split
  ·unfold pd
   split
   ·split
    ·exact fun v=>⟨_,rfl⟩
    ·split
     ·exact fO fun s n k=>⟨_,rfl⟩
     ·exact fO fun s k=>⟨_,rfl⟩
     ·exact trivial
   ·exact trivial
  ·unfold rf
   split
   ·split
    ·exact aL (fun k=>⟨_,rfl⟩) trivial
    ·exact trivial
   ·exact trivial
 | call c =>
  obtain ⟨callee,args,tys⟩:=c
  cases callee with
  | builtin b =>
   have mn:∀ {mx:Bool} {x y:AV},(yb mx x y).All dC:=by
    intro mx x y
    unfold yb
    split
    ·exact fun v=>⟨_,rfl⟩
    ·exact trivial
   cases b <;> simp [ap] at h
   all_goals simp only [opL]
   all_goals unfold eD
   all_goals split <;> first | exact trivial | exact mn | contradiction | skip
   split
   ·unfold yU
    split
    ·exact ⟨_,rfl⟩
    ·exact rS fun s v=>⟨_,rfl⟩
   ·exact trivial
  | value f=>cases f <;> simp [ap] at h
  | invoke r m=>simp [ap] at h
 | _=>simp [ap] at h
theorem cls_A {op:Op} (h:ap op=.A) (vs:List AV):(opL E id look op vs).All dB:=by
 cases op with
 | alloc t =>
  rcases vs with _ | ⟨v,r⟩ <;> first | exact trivial | skip
  simp only [opL]
  split
  ·exact ⟨_,_,rfl⟩
  ·exact trivial
 | box t x =>
  rcases vs with _ | ⟨v,_ | ⟨v',r⟩⟩ <;> first | exact trivial | skip
  simp only [opL]
  split
  ·exact er (fun cs=>⟨_,_,rfl⟩)
  ·exact trivial
 | makeSlice t x y =>
  rcases vs with _ | ⟨v,_ | ⟨v',_ | ⟨v'',r⟩⟩⟩ <;> first | exact trivial | skip
  simp only [opL]
  split
  ·refine aL ?_ trivial
   exact fun n m=>⟨_,_,rfl⟩
  ·exact trivial
 | call c =>
  obtain ⟨callee,args,tys⟩:=c
  cases callee with
  | builtin b=>cases b <;> simp [ap] at h
  | value f=>cases f <;> simp [ap] at h
  | invoke r m=>simp [ap] at h
 | _=>simp [ap] at h
theorem jf {ps:List Prim} {b:BC} {v:AV}:(cU ps b v).plain=true->dC (cU ps b v)\/dB (cU ps b v):=by
 cases ps with
 | nil=>exact fun _=>.inr ⟨_,_,rfl⟩
 | cons q l=>exact fun h=>by cases h
theorem vx {ps:List Prim} {v:AV}:(match ps with | []=>Eff.val v | _=>.gen ps v).plain=true->dC (match ps with | []=>Eff.val v | _=>.gen ps v)\/dB (match ps with | []=>Eff.val v | _=>.gen ps v):=by
 cases ps with
 | nil=>exact fun _=>.inl ⟨_,rfl⟩
 | cons q l=>exact fun h=>by cases h
theorem lb {d:TyD} {x:TV} {k:Out} (h:k.All p):(jC d x k).All p:=by
 unfold jC
 exact aL h h
theorem qU {x:TV} {k:Out} (h:k.All p):∀ (ds:List TyD) (j:Nat),(gG x ds j k).All p
 | [],j=>h
 | d :: ds,j=>lb (qU h ds (j + 1))
theorem sT {ds:List TyD} {v:TV} {ps:List Prim}:(uj id ds v ps).All fun e=>e.plain=true->dC e\/dB e:=by
 have many:∀ ds:List TyD,(Prg.chk (v.isTup ds.length) (gG v ds 0 (bif gK ds then .ret (cU ps (.tree (bq v ds 0)) (.tups (d7 id v ds 0 0)))
   else .ret (match ps with | []=>.val (.tups (d7 id v ds 0 0)) | _=>.gen ps (.tups (d7 id v ds 0 0)))))).All fun e=>e.plain=true->dC e\/dB e:=by
  intro ds
  refine qU ?_ ds 0
  exact aL jf vx
 match ds with
 | []=>exact many []
 | [d] =>
  simp only [uj]
  refine lb ?_
  split
  ·exact aL jf vx
  ·exact trivial
 | d :: d' :: l=>exact many _
theorem BW {ds:List TyD} {v:TV} {k:AV->Out} {p:Eff->Prop} (h:∀ av,(k av).All p):(BZ id ds v k).All p:=by
 have some:∀ (ds:List TyD) (j:Nat) (k:Out),k.All p->(gG v ds j k).All p:=by
  intro ds
  induction ds with
  | nil=>intro j k h; exact h
  | cons d ds ih=>intro j k h; exact lb (ih (j + 1) k h)
 unfold BZ
 split
 ·refine lb ?_
  split
  ·exact h _
  ·exact trivial
 ·exact some _ 0 _ (h _)
theorem BJ {f:FuncId} {ld:fJ} {vs:List AV}:(og E id look f ld vs).All fun e=>e.plain=true->dC e\/dB e:=by
 unfold og
 split
 ·split
  ·refine aL trivial ?_
   exact pN fun xs rs=>ew fun ys qs ts=>aL (fun v=>BW fun av=>fun h=>by simp [Eff.plain] at h) trivial
  ·exact trivial
 ·exact trivial
theorem BG {f:FuncId} {c:Nat × Nat} {vs:List AV}:(nM look f c vs).All fun e=>e.plain=true->dC e\/dB e:=by
 unfold nM
 split
 ·split
  ·split
   ·exact aL (jU fun xs=>fun v=>fun _=>.inl ⟨_,rfl⟩) trivial
   ·exact trivial
  ·exact trivial
 ·exact trivial
theorem A3 {f:FuncId} {vs:List AV}:(th look f vs).All fun e=>e.plain=true->dC e\/dB e:=by
 exact trivial
theorem C5 {f:FuncId} {i:Nat} {vs:List AV}:(yd E id look f i vs).All fun e=>e.plain=true->dC e\/dB e:=by
 unfold yd
 refine aL ?_ trivial
 split
 ·split
  ·exact jU fun xs=>fun v=>sT
  ·exact trivial
 ·exact trivial
theorem cls_B {op:Op} (h:ap op=.B) (vs:List AV):(opL E id look op vs).All fun e=>e.plain=true->dC e\/dB e:=by
 cases op with
 | buildSlice t len parts =>
  simp only [opL]
  refine aL ?_ ?_
  ·exact trivial
  unfold iO
  split
  ·refine sD (fun cs=>?_) _ _ _
   refine ef fun ys qs ts=>?_
   exact aL jf trivial
  ·exact trivial
 | call c =>
  obtain ⟨callee,args,tys⟩:=c
  cases callee with
  | builtin b=>cases b <;> simp [ap] at h
  | value f =>
   cases f with
   | func f =>
    rcases vs with _ | ⟨v,r⟩
    ·exact trivial
    ·simp only [opL,mY]
     refine aL A3 (aL trivial ?_)
     split
     ·exact BG
     split
     ·exact BJ
     ·split
      ·refine aL ?_ ?_
       ·exact jU fun xs=>fun v=>sT
       ·exact pN fun xs rs=>aL (fun v=>sT) trivial
      ·exact trivial
   | tmp t =>
    rcases vs with _ | ⟨v,r⟩
    ·exact trivial
    ·simp only [opL]
     split
     ·exact fun f=>jU fun xs v=>fun _=>.inl ⟨_,rfl⟩
     ·split
      ·exact C5
      ·exact trivial
   | _=>simp [ap] at h
  | invoke r m=>simp [ap] at h
 | _=>simp [ap] at h
abbrev isUpd (look:Look) (e:Eff):Prop:=∃ i b v,e=.upd i b v/\(look i).isSome=true
theorem Dt {op : Op} (h : ap op = .W) (vs : List AV) : (opL E id look op vs).All fun e => e.plain = true → isUpd look e := by
 cases op with
 | store t x y =>
  rcases vs with _ | ⟨v,_ | ⟨v',_ | ⟨v'',r⟩⟩⟩ <;> first | exact trivial | skip
  simp only [opL]
  split
  ·unfold vT
   split
   ·refine aL trivial ?_
    split
    ·rename_i cs xs hrow
     refine er (fun ps=>?_)
     split
     ·exact fun _=>⟨_,_,_,rfl,by simp [(jt hrow).1]⟩
     ·exact trivial
    ·exact trivial
   ·refine er (fun ps=>?_)
    split
    ·rename_i cs hl
     exact aL (fun _=>⟨_,_,_,rfl,by simp [hl]⟩) trivial
    ·exact trivial
   ·refine er (fun ps=>?_)
    split
    ·refine aL trivial (aL ?_ ?_)
     ·refine ew fun ys qs ts=>aL ?_ trivial
      exact mm fun s e=>fun x' hp=>by cases hp
     ·refine ew fun ys qs ts=>?_
      split
      ·refine aL ?_ trivial
       refine mm fun s e=>?_
       simp only [Prg.All]
       intro x'
       split
       ·rename_i b hb
        refine fun _=>⟨_,_,_,rfl,?_⟩
        unfold ce at hb
        split at hb
        ·rename_i hl; simp [hl]
        ·cases hb
       ·exact trivial
      ·exact trivial
    ·exact trivial
   ·exact trivial
  ·exact trivial
 | call c =>
  obtain ⟨callee,args,tys⟩:=c
  cases callee with
  | builtin b=>cases b <;> simp [ap] at h
  | value f=>cases f <;> simp [ap] at h
  | invoke r m=>simp [ap] at h
 | _=>simp [ap] at h
theorem wY {d:TyD} {s:AV} {news:List (List TV)} {ps:List Prim}:(oU id look d s news ps).All fun e=>e.plain=true->dC e\/dB e:=by
 unfold oU
 split
 ·exact aL (fun y=>jf) trivial
 ·split
  ·split
   ·split
    ·exact fun y h=>by cases h
    ·exact fun z y x' h=>by cases h
   ·exact trivial
  ·split
   ·split
    ·exact fun z y h=>by cases h
    ·exact fun z0 z y x' h=>by cases h
   ·exact trivial
  ·exact trivial
theorem DO {d:TyD} {dest:Option Nat} {x:AV} {k:List (List TV)->List Prim->Out} (h:∀ xs ps,(k xs ps).All p):(yA look d dest x k).All p:=by
 unfold yA
 split
 ·exact fun xs=>h _ _
 ·split
  ·refine aL ?_ ?_
   ·split
    ·split
     ·split
      ·exact aL trivial (fun xs=>h _ _)
      ·exact fun y=>fun xs=>h _ _
     ·exact trivial
    ·split
     ·split
      ·exact aL trivial (fun y xs=>h _ _)
      ·exact fun z y=>fun xs=>h _ _
     ·exact trivial
    ·exact trivial
   ·exact fO (fun s xs=>h _ _)
  ·exact trivial
theorem cls_P {op:Op} (h:ap op=.P) (vs:List AV):(opL E id look op vs).All fun e=>e.plain=true->dC e\/dB e:=by
 cases op with
 | call c =>
  obtain ⟨callee,args,tys⟩:=c
  cases callee with
  | builtin b =>
   cases b <;> simp [ap] at h
   simp only [opL]
   unfold eD
   split <;> try (first | exact trivial | contradiction)
   split
   ·refine aL ?_ ?_
    ·unfold oK
     exact aL (DO (fun xs ps=>wY)) trivial
    ·split
     ·exact trivial
     ·exact trivial
   ·exact trivial
  | value f=>cases f <;> simp [ap] at h
  | invoke r m=>simp [ap] at h
 | _=>simp [ap] at h
theorem uI {op:Op} (h:ap op=.N\/ap op=.A) (vs:List AV):opL E id look op vs=opL E id look' op vs:=by
 cases op <;> first
  | (rcases vs with _ | ⟨a,_ | ⟨b,_ | ⟨c,_ | ⟨d,r⟩⟩⟩⟩ <;> rfl)
  | (simp [ap] at h; done)
  | (rename_i fn _ _; cases fn <;> rfl)
  | (rename_i ok; cases ok <;> rcases vs with _ | ⟨a,_ | ⟨b,r⟩⟩ <;> rfl)
  | skip
 all_goals
  rename_i c
  obtain ⟨callee,args,tys⟩:=c
  cases callee with
  | builtin b=>cases b <;> simp [ap] at h
  | value f=>cases f <;> simp [ap] at h
  | invoke r m=>simp [ap] at h
end
end Go.Ab
end

import Derived.Test.YtaokcbfenabbgaaGreatDoorGM12b
set_option linter.all false
section
namespace Go.Ab
open Go.RowKit
structure gA (P:Program) (G:Laid) (E:Env) (C:Cal):Prop where
 ty:∀ t d,E.T t=some d->aY P t d
 call:yA P G E C
section
variable {P:Program} {E:Env} {C:Cal} {w0:Bs} {w w':World} {I0 I R:Nat->Prop} {g g':Gh} {st st':ASt} {a:Act} {ov:List Value} {look:Look} {Q:Exit->Act->World->Prop} {id:Nat}
theorem En (hE:gA P w0.G E C) (hlk:∀ i b,look i=some b->st.look i=some b) (hs:ak w0 I0 NoR g st a ov w) {o:Oper} {e:Eff} (hh:(opL E (st.nid o.dst) look o.op (o.op.operands.toList.map st.ev)).hits C e) (ha:e.app st o.dst=some st') :
  Good P w0 I0 ov o st' a w Q:=by
 obtain ⟨dst,op,type,pos,after,guard⟩:=o
 cases op with
 | move x=>exact FS hs hh ha
 | assign x=>exact Cc hs hh ha
 | pick c x y=>exact Fo hs hh ha
 | alloc t=>exact EK hE.ty hs hh ha
 | box t x=>exact op_box hE.ty hs hh ha
 | build t parts=>exact DX hE.ty hs hh ha
 | makeFunc fn first cap=>exact yn hs hh ha
 | buildSlice t len parts =>
  simp only [opL] at hh
  cases hc:E.cold t && !(len.beq 0) with
  | true=>rw [hc] at hh; exact Fp hE.ty hlk hs hh ha
  | false=>rw [hc] at hh; exact uv hE.ty hlk hs hh ha
 | load t x=>exact FU hE.ty hlk hs hh ha
 | store t x y=>exact Es hE.ty hlk hs hh ha
 | nilCheck x=>exact wT hs hh ha
 | binOp op xt x y yt=>exact op_bin hE.ty hlk hs hh ha
 | unOp op xt x=>exact op_un hs hh ha
 | convert xt dt x=>exact zN hE.ty hlk hs hh ha
 | makeSlice t x y=>exact wu hE.ty hs hh ha
 | makeInterface t x=>exact op_ifc hE.ty hs hh ha
 | typeAssert x xt t ok=>exact F5 hE.ty hs hh ha
 | slice t x lo hi mx=>exact CO hE.ty hlk hs hh ha
 | fieldAddr t x f=>exact wj hE.ty hs hh ha
 | field t x f=>exact Dd hE.ty hs hh ha
 | indexAddr t x y=>exact wh hE.ty hlk hs hh ha
 | index t x y=>exact EC hE.ty hs hh ha
 | extract x j=>exact zi hs hh ha
 | call c =>
  obtain ⟨callee,args,tys⟩:=c
  cases callee with
  | builtin b =>
   have hops:(Op.call ⟨.builtin b,args,tys⟩).operands.toList=args.toList:=by simp [Op.operands,Call.operands]
   simp only [hops] at hh
   simp only [opL] at hh
   unfold dT at hh
   split at hh
   ·rename_i x ty hargs htys
    obtain ⟨ox,rfl,hox⟩:=list1 hargs
    have:=arr1 htys
    subst this
    split at hh
    ·rename_i d hT
     rw [<- hox] at hh
     exact zG hlk hs (hE.ty _ _ hT) hh ha
    ·exact hh.elim
   ·rename_i s x ty ty' hargs htys
    obtain ⟨os,ox,rfl,hos,hox⟩:=list2 hargs
    have:=arr2 htys
    subst this
    split at hh
    ·rename_i e1 d hel
     cases hb:Nat.beq ty ty' with
     | false =>
      simp only [hb,cond_false] at hh
      split at hh
      ·rename_i hu
       exact hh.elim
      ·exact hh.elim
     | true =>
      simp only [hb,cond_true] at hh
      have:=(aw _ _).1 hb
      subst this
      rw [<- hos,<- hox] at hh
      exact ut hE.ty hlk hs hel hh ha
    ·exact hh.elim
   ·rename_i s x ty ty' hargs htys
    obtain ⟨os,ox,rfl,hos,hox⟩:=list2 hargs
    have:=arr2 htys
    subst this
    split at hh
    ·rename_i e1 d hel
     cases hb:Nat.beq ty ty' with
     | false=>simp [hb,Prg.hits] at hh
     | true =>
      simp only [hb,cond_true] at hh
      have:=(aw _ _).1 hb
      subst this
      rw [<- hos,<- hox] at hh
      exact xW hE.ty hlk hs hel hh ha
    ·exact hh.elim
   ·rename_i s ty hargs htys
    obtain ⟨os,rfl,hos⟩:=list1 hargs
    have:=arr1 htys
    subst this
    split at hh
    ·rename_i e1 d hel
     exact hh.elim
    ·exact hh.elim
   ·rename_i x y hargs
    obtain ⟨ox,oy,rfl,hox,hoy⟩:=list2 hargs
    rw [<- hox,<- hoy] at hh
    exact sH hs hh ha
   ·rename_i x y hargs
    obtain ⟨ox,oy,rfl,hox,hoy⟩:=list2 hargs
    rw [<- hox,<- hoy] at hh
    exact sH hs hh ha
   ·exact hh.elim
  | value f =>
   cases f with
   | func f =>
    have hops:(Op.call ⟨.value (.func f),args,tys⟩).operands.toList=.func f :: args.toList:=by simp [Op.operands,Call.operands]
    simp only [hops,List.map_cons] at hh
    exact Fh hE.call hE.ty hlk hs hh ha
   | tmp t =>
    have hops:(Op.call ⟨.value (.tmp t),args,tys⟩).operands.toList=.tmp t :: args.toList:=by simp [Op.operands,Call.operands]
    simp only [hops,List.map_cons] at hh
    exact op_dyn hE.call hE.ty hlk hs hh ha
   | _=>simp [opL,Prg.hits] at hh
  | invoke r m=>simp [opL,Prg.hits] at hh
 | _=>simp [opL,Prg.hits] at hh
def AV.nf:AV->AV
 | .one (.t (.lit (.bool b)))=>.bl b
 | .tv (.lit (.bool b))=>.bl b
 | v=>v
def Eff.nfE:Eff->Eff
 | .val v=>.val v.nf
 | .new b v=>.new b v.nf
 | .upd i b v=>.upd i b v.nf
 | .gen ps v=>.gen ps v.nf
def ASt.nfS (st:ASt):ASt:=⟨st.slots.map AV.nf,st.boxes,st.out⟩
theorem aJ (v:AV):v.nf=v\/∃ b,v.nf=.bl b/\(v=.one (.t (.lit (.bool b)))\/v=.tv (.lit (.bool b))):=by
 unfold AV.nf
 split
 ·exact .inr ⟨_,rfl,.inl rfl⟩
 ·exact .inr ⟨_,rfl,.inr rfl⟩
 ·exact .inl rfl
theorem uL (v:AV):v.nf.nf=v.nf:=by
 rcases aJ v with h | ⟨b,h,_⟩
 ·rw [h,h]
 ·rw [h]; rfl
theorem ia (v:AV):v.nf.tv? = v.tv? := by
 rcases aJ v with h | ⟨b,h,rfl | rfl⟩
 ·rw [h]
 ·rfl
 ·rfl
theorem DG {v:AV} {u:Value}:bE w g look v.nf u ↔ bE w g look v u:=by
 rcases aJ v with h | ⟨b,h,rfl | rfl⟩
 ·rw [h]
 ·rw [h]
  constructor
  ·intro h'
   have:u=.bool b:=h'
   subst this
   exact ⟨.lit _,rfl⟩
  ·intro h'
   exact aN h'.1
 ·rw [h]
  constructor
  ·intro h'
   have:u=.bool b:=h'
   subst this
   exact .lit _
  ·intro h'
   exact aN h'
theorem oC (v:AV):v.nf.g9=v.g9:=by
 rcases aJ v with h | ⟨b,h,rfl | rfl⟩
 ·rw [h]
 ·rw [h]; rfl
 ·rw [h]; rfl
theorem cg (e:Eff):ew e.nfE=ew e:=by cases e <;> simp only [Eff.nfE,ew,oC]
theorem oc (e:Eff):e.nfE.plain=e.plain:=by cases e <;> rfl
theorem xX (base:Nat) (own:List (List Nat × List Nat)) (e:Eff):e.nfE.qM base own=e.qM base own:=by cases e <;> rfl
theorem xp {S:Type} {agg:Bool} {n:Nat} {v:AV} {k k':List CA->Prg S} {e:S} (hk:∀ cs,(k cs).hits C e->(k' cs).hits C e) (h:(v.aZ agg n k).hits C e):(v.aZ agg n k').hits C e:=by
 unfold AV.aZ at h ⊢
 split at h
 ·rename_i c
  cases hc:c.kept with
  | true=>rw [hc] at h; exact hk _ h
  | false=>rw [hc] at h; exact h.elim
 ·exact ⟨h.1,hk _ h.2⟩
 ·exact hk _ h
 ·exact hk _ h
 ·rename_i cs
  cases hc:cs.length.beq n with
  | true=>rw [hc] at h; exact hk _ h
  | false=>rw [hc] at h; exact h.elim
 ·exact ⟨h.1,hk _ h.2⟩
 ·exact h.elim
theorem eV {S:Type} {agg:Bool} {n:Nat} {v:AV} {k:List CA->Prg S} {e:S} (h:(v.aZ agg n k).hits C e):(v.nf.aZ agg n k).hits C e:=by
 rcases aJ v with h1 | ⟨b,h1,rfl | rfl⟩
 ·rwa [h1]
 ·rw [h1]
  cases agg with
  | false=>exact h
  | true=>exact h.elim
 ·rw [h1]
  cases agg with
  | false=>exact h.2
  | true=>exact (by simp [AV.aZ,TV.isAgg,Prg.hits] at h)
theorem lO {S:Type} {e:S}:∀ {vs:List AV} {k:List CA->Prg S},(j4 vs k).hits C e->(j4 (vs.map AV.nf) k).hits C e
 | [],k,h=>h
 | x :: vs, k, h => by
  simp only [j4,List.map_cons] at h ⊢
  refine eV ?_
  unfold AV.aZ at h ⊢
  split at h
  ·rename_i c _
   cases hc:c.kept with
   | false=>simp [hc,Prg.hits] at h
   | true=>simp only [hc,cond_true] at h ⊢; exact lO h
  ·exact ⟨h.1,lO h.2⟩
  ·exact lO h
  ·exact lO h
  ·rename_i cs' hb; cases hb
  ·rename_i cs' hb; cases hb
  ·exact h.elim
theorem jM {f:FuncId} {e:Eff}:∀ {vs:List AV} {k:List CA->List CA},(j4 vs fun cs=>(.ret (.val (.clo f (k cs))):Out)).hits C e->∃ cs,e=.val (.clo f cs)
 | [],k,h=>⟨_,h.symm⟩
 | x :: vs, k, h => by
  simp only [j4] at h
  unfold AV.aZ at h
  split at h
  ·rename_i c _
   cases hc:c.kept with
   | false=>simp [hc,Prg.hits] at h
   | true=>simp only [hc,cond_true] at h; exact jM (k:=fun cs=>k (_ ++ cs)) h
  ·exact jM (k:=fun cs=>k (_ ++ cs)) h.2
  ·exact jM (k:=fun cs=>k (_ ++ cs)) h
  ·exact jM (k:=fun cs=>k (_ ++ cs)) h
  ·rename_i hb; cases hb
  ·rename_i hb; cases hb
  ·exact h.elim
theorem wq {S:Type} {at_:Nat->Option (Nat × Bool × Nat)} {k:List CA->Prg S} {e:S}:∀ {is:List Nat} {vs:List AV} {cs:List CA},(bS at_ is vs cs k).hits C e->(bS at_ is (vs.map AV.nf) cs k).hits C e
 | [],[],cs,h=>h
 | i :: is, x :: vs, cs, h => by
  simp only [bS,List.map_cons] at h ⊢
  split at h
  ·rename_i off agg n hat
   have key:∀ ps,((bif (off + ps.length).ble cs.length && ps.length.beq n then bS at_ is vs (bw cs off ps) k else .fail):Prg S).hits C e->((bif (off + ps.length).ble cs.length && ps.length.beq n then bS at_ is (vs.map AV.nf) (bw cs off ps) k else .fail):Prg S).hits C e:=by
    intro ps hp
    cases hb:(off + ps.length).ble cs.length && ps.length.beq n with
    | false=>simp [hb,Prg.hits] at hp
    | true=>simp only [hb,cond_true] at hp ⊢; exact wq hp
   refine eV ?_
   unfold AV.aZ at h ⊢
   split at h
   ·rename_i c
    cases hc:c.kept with
    | false=>simp [hc,Prg.hits] at h
    | true=>simp only [hc,cond_true] at h ⊢; exact key _ h
   ·exact ⟨h.1,key _ h.2⟩
   ·exact key _ h
   ·exact key _ h
   ·rename_i cs'
    have:=key cs'
    cases hc:cs'.length.beq n with
    | false=>simp [hc,Prg.hits] at h
    | true=>simp only [hc,cond_true] at h this ⊢; exact this h
   ·exact ⟨h.1,key _ h.2⟩
   ·exact h.elim
  ·exact h.elim
 | [],_ :: _,cs,h=>h.elim
 | _ :: _,[],cs,h=>h.elim
theorem AR {S:Type} {v:AV} {k:TV->Prg S}:se look v.nf k=se look v k:=by
 rcases aJ v with h | ⟨b,h,rfl | rfl⟩
 ·rw [h]
 ·rfl
 ·rfl
theorem C6 {S:Type} {v:AV} {k:TV->Prg S}:sv look v.nf k=sv look v k:=by
 rcases aJ v with h | ⟨b,h,rfl | rfl⟩
 ·rw [h]
 ·rfl
 ·rfl
theorem Dr {S:Type} {v:AV} {k:TV->List (Nat × Nat)->Prg S}:so look v.nf k=so look v k:=by
 rcases aJ v with h | ⟨b,h,rfl | rfl⟩
 ·rw [h]
 ·rfl
 ·rfl
theorem sG {S:Type}:∀ {vs:List AV} {k:List TV->Prg S},lends look (vs.map AV.nf) k=lends look vs k
 | [],k=>rfl
 | v :: vs,k=>by simp only [List.map_cons,lends,C6,sG]
theorem tD {S:Type}:∀ {vs:List AV} {k:List TV->List (Nat × Nat)->Prg S},hands look (vs.map AV.nf) k=hands look vs k
 | [],k=>rfl
 | v :: vs,k=>by simp only [List.map_cons,hands,Dr,tD]
theorem C9 {E:Env} {id:Nat} {look:Look} {f:FuncId} {ld:dN} (vs:List AV):nM E id look f ld (vs.map AV.nf)=nM E id look f ld vs:=by
 cases vs with
 | nil=>rfl
 | cons v l =>
  rcases aJ v with h | ⟨b,h,rfl | rfl⟩
  ·simp only [List.map_cons,h]
   cases v with
   | one c =>
    cases c with
    | ptr i off =>
     cases off with
     | zero=>simp only [nM,tD]
     | succ n=>rfl
    | _=>rfl
   | _=>rfl
  ·simp only [List.map_cons,h]; rfl
  ·simp only [List.map_cons,h]; rfl
theorem DT {look:Look} {f:FuncId} {c:Nat × Nat} (vs:List AV):yF look f c (vs.map AV.nf)=yF look f c vs:=by
 rfl
theorem DQ {look:Look} {f:FuncId} (vs:List AV):sJ look f (vs.map AV.nf)=sJ look f vs:=by
 rfl
theorem FQ {E:Env} {id:Nat} {look:Look} {f:FuncId} {i:Nat} (vs:List AV):CH E id look f i (vs.map AV.nf)=CH E id look f i vs:=by
 rfl
theorem Fk (d:TyD) (t:TypeId) (v:AV):C5 d t v.nf=C5 d t v:=by
 rcases aJ v with h | ⟨b,h,rfl | rfl⟩
 ·rw [h]
 ·rfl
 ·rfl
theorem Df (d:TyD) (t:TypeId) (v:AV):vh d t v.nf=vh d t v:=by
 simp only [vh,ia]
theorem Bx {S:Type} {v:Option AV} {k:Option Nat->Prg S}:fp (v.map AV.nf) k=fp v k:=by
 cases v with
 | none=>rfl
 | some v=>simp only [fp,GQ,ia]
theorem vF (v:AV):su v.nf=su v:=by
 rcases aJ v with h | ⟨b,h,rfl | rfl⟩
 ·rw [h]
 ·rfl
 ·rfl
theorem A5 {S:Type} {d:TyD} {dest:Option Nat} {v:AV} {k:List (List TV)->List Prim->Prg S}:xL look d dest v.nf k=xL look d dest v k:=by
 rcases aJ v with h | ⟨b,h,rfl | rfl⟩
 ·rw [h]
 ·rfl
 ·rfl
theorem mo {kd:Kd} {sz:Nat} {x:AV} {lo hi:Option AV}:iJ look kd sz x.nf (lo.map AV.nf) (hi.map AV.nf)=iJ look kd sz x lo hi:=by
 simp only [iJ,ia,Bx]
 rcases aJ x with h | ⟨b,h,rfl | rfl⟩
 ·rw [h]
  cases lo <;> rfl
 ·rfl
 ·rfl
theorem EL (v:AV):vO v.nf=vO v:=by
 rcases aJ v with h | ⟨b,h,rfl | rfl⟩
 ·rw [h]
 ·rfl
 ·rfl
theorem FA {look:Look} {kd:Kd} (v:AV):yE look kd v.nf=yE look kd v:=by
 rcases aJ v with h | ⟨b,h,rfl | rfl⟩
 ·rw [h]
 ·rw [h]; cases kd <;> rfl
 ·rw [h]; cases kd <;> rfl
theorem opL_nf {op : Op} {vs : List AV} {e : Eff} (h : (opL E id look op vs).hits C e) : ∃ e', (opL E id look op (vs.map AV.nf)).hits C e' ∧ e'.nfE = e.nfE := by
 cases op with
 | move x =>
  rcases vs with _ | ⟨v,_ | ⟨v',r⟩⟩ <;> first | exact h.elim | skip
  cases h
  exact ⟨_,rfl,by simp [Eff.nfE,uL]⟩
 | assign x =>
  rcases vs with _ | ⟨v,_ | ⟨v',r⟩⟩ <;> first | exact h.elim | skip
  cases h
  exact ⟨_,rfl,by simp [Eff.nfE,uL]⟩
 | pick c x y =>
  rcases vs with _ | ⟨v,_ | ⟨v',_ | ⟨v'',_ | ⟨v3,r⟩⟩⟩⟩ <;> first | exact h.elim | skip
  simp only [opL] at h
  split at h
  ·rename_i b
   cases h
   refine ⟨_,rfl,?_⟩
   cases b <;> simp [Eff.nfE,uL]
  ·rename_i v
   obtain ⟨b,hb,h⟩:=h
   have hv:v=.lit (.bool b):=by
    unfold asBool at hb
    split at hb
    ·cases hb; rfl
    ·cases hb
   subst hv
   rcases h with ⟨rfl,h⟩ | ⟨rfl,h⟩ <;> (cases h; exact ⟨_,rfl,by simp [Eff.nfE,uL]⟩)
  ·rename_i v
   obtain ⟨b,hb,h⟩:=h
   have hv:v=.lit (.bool b):=by
    unfold asBool at hb
    split at hb
    ·cases hb; rfl
    ·cases hb
   subst hv
   rcases h with ⟨rfl,h⟩ | ⟨rfl,h⟩ <;> (cases h; exact ⟨_,rfl,by simp [Eff.nfE,uL]⟩)
  ·exact h.elim
 | alloc t =>
  rcases vs with _ | ⟨v,r⟩ <;> first | exact h.elim | exact ⟨e,h,rfl⟩
 | box t x =>
  rcases vs with _ | ⟨v,_ | ⟨v',r⟩⟩ <;> first | exact h.elim | skip
  refine ⟨e,?_,rfl⟩
  simp only [opL,List.map_cons,List.map_nil] at h ⊢
  split at h
  ·exact eV h
  ·exact h.elim
 | makeFunc fn first cap =>
  cases fn with
  | func f =>
   have:∃ cs,e=.val (.clo f cs):=by
    simp only [opL] at h
    cases hb:first.size.beq 0 with
    | false=>simp [hb,Prg.hits] at h
    | true =>
     simp only [hb,cond_true] at h
     exact jM (k:=fun l=>l) h
   obtain ⟨cs,rfl⟩:=this
   refine ⟨_,?_,rfl⟩
   simp only [opL] at h ⊢
   cases hb:first.size.beq 0 with
   | false=>simp [hb,Prg.hits] at h
   | true=>simp only [hb,cond_true] at h ⊢; exact lO h
  | _=>exact h.elim
 | build t parts =>
  refine ⟨e,?_,rfl⟩
  simp only [opL] at h ⊢
  split at h
  ·rename_i d hd
   cases hb:lR E.T d.kd with
   | false=>simp [hb,Prg.hits] at h
   | true=>simp only [hb,cond_true] at h ⊢; exact wq h
  ·exact h.elim
 | buildSlice t len parts =>
  refine ⟨e,?_,rfl⟩
  simp only [opL] at h ⊢
  cases hc:E.cold t && !(len.beq 0) with
  | true =>
   rw [hc] at h
   simp only [cond_true] at h ⊢
   exact h.elim
  | false =>
   rw [hc] at h
   simp only [cond_false] at h ⊢
   unfold iz at h ⊢
   split at h
   ·exact wq h
   ·exact h.elim
 | load t x =>
  rcases vs with _ | ⟨v,_ | ⟨v',r⟩⟩ <;> first | exact h.elim | skip
  refine ⟨e,?_,rfl⟩
  rcases aJ v with h1 | ⟨b,h1,rfl | rfl⟩
  ·simpa only [List.map_cons,List.map_nil,h1] using h
  ·simp only [opL] at h; split at h <;> exact h.elim
  ·simp only [opL] at h; split at h <;> exact h.elim
 | store t x y =>
  rcases vs with _ | ⟨v,_ | ⟨v',_ | ⟨v'',r⟩⟩⟩ <;> first | exact h.elim | skip
  refine ⟨e,?_,rfl⟩
  simp only [opL,List.map_cons,List.map_nil] at h ⊢
  split at h
  ·rcases aJ v with h1 | ⟨b,h1,rfl | rfl⟩
   ·rw [h1]
    unfold wF at h ⊢
    split at h
    ·rename_i e0 _ _ i0 off0 len0 n0
     cases hk0:e0.kd.isAgg with
     | true=>rw [hk0] at h; exact h.elim
     | false =>
      rw [hk0] at h
      simp only [cond_false] at h ⊢
      split at h
      ·exact eV h
      ·exact h.elim
    ·exact eV h
    ·exact eV h
    ·exact h.elim
   ·exact h.elim
   ·exact h.elim
  ·exact h.elim
 | nilCheck x =>
  rcases vs with _ | ⟨v,_ | ⟨v',r⟩⟩ <;> first | exact h.elim | skip
  refine ⟨e,?_,rfl⟩
  rcases aJ v with h1 | ⟨b,h1,rfl | rfl⟩
  ·simpa only [List.map_cons,List.map_nil,h1] using h
  ·exact h.elim
  ·exact h.elim
 | binOp op xt x y yt =>
  rcases vs with _ | ⟨v,_ | ⟨v',_ | ⟨v'',r⟩⟩⟩ <;> first | exact h.elim | skip
  refine ⟨e,?_,rfl⟩
  simp only [opL,List.map_cons,List.map_nil] at h ⊢
  split at h
  ·unfold Fz at h ⊢
   split at h
   ·split at h
    ·exact eV (xp (fun cs h=>eV h) h)
    ·exact h.elim
   ·simp only [Fy,EL] at h ⊢
    exact h
   ·simp only [FX,AR,ia] at h ⊢
    exact h
  ·exact h.elim
 | unOp op xt x =>
  rcases vs with _ | ⟨v,_ | ⟨v',r⟩⟩ <;> first | exact h.elim | skip
  rcases aJ v with h1 | ⟨b,h1,h2⟩
  ·refine ⟨e,?_,rfl⟩
   simpa only [List.map_cons,List.map_nil,h1] using h
  ·have hv:∃ t,(opL E id look (.unOp op xt x) [v]).hits C e->(Prg.tv (pun op (.lit (.bool b))) vt).hits C e:=⟨(),by rcases h2 with rfl | rfl <;> intro h <;> cases op <;> exact h⟩
   obtain ⟨_,hv⟩:=hv
   obtain ⟨z,hz,hh⟩:=hv h
   cases op with
   | not =>
    simp only [pun,GF] at hz
    subst hz
    cases hh
    refine ⟨.val (.bl !b),?_,rfl⟩
    simp only [List.map_cons,List.map_nil,h1]
    rfl
   | _=>simp [pun] at hz
 | convert xt dt x =>
  rcases vs with _ | ⟨v,_ | ⟨v',r⟩⟩ <;> first | exact h.elim | skip
  refine ⟨e,?_,rfl⟩
  simp only [opL,List.map_cons,List.map_nil,AL,ia,AR] at h ⊢
  exact h
 | makeSlice t x y =>
  rcases vs with _ | ⟨v,_ | ⟨v',_ | ⟨v'',r⟩⟩⟩ <;> first | exact h.elim | skip
  refine ⟨e,?_,rfl⟩
  simp only [opL,List.map_cons,List.map_nil,ia] at h ⊢
  exact h
 | slice t x lo hi mx =>
  refine ⟨e,?_,rfl⟩
  cases mx with
  | some m=>rcases vs with _ | ⟨v,r⟩ <;> exact h.elim
  | none =>
   rcases vs with _ | ⟨v,r⟩
   ·exact h.elim
   ·simp only [opL, List.map_cons] at h ⊢
    split at h
    ·rename_i d hT
     split at h
     ·rename_i sz hsz
      cases lo with
      | none =>
       cases hi with
       | none =>
        rcases r with _ | ⟨l,r⟩
        ·have:=mo (look:=look) (kd:=d.kd) (sz:=sz) (x:=v) (lo:=none) (hi:=none)
         simp only [Option.map_none] at this
         simp only [List.map_nil]
         rw [this]; exact h
        ·exact h.elim
       | some hh =>
        rcases r with _ | ⟨l,_ | ⟨l',r⟩⟩
        ·exact h.elim
        ·have:=mo (look:=look) (kd:=d.kd) (sz:=sz) (x:=v) (lo:=none) (hi:=some l)
         simp only [Option.map_none,GQ] at this
         simp only [List.map_cons,List.map_nil]
         rw [this]; exact h
        ·exact h.elim
      | some ll =>
       cases hi with
       | none =>
        rcases r with _ | ⟨l,_ | ⟨l',r⟩⟩
        ·exact h.elim
        ·have:=mo (look:=look) (kd:=d.kd) (sz:=sz) (x:=v) (lo:=some l) (hi:=none)
         simp only [Option.map_none,GQ] at this
         simp only [List.map_cons,List.map_nil]
         rw [this]; exact h
        ·exact h.elim
       | some hh =>
        rcases r with _ | ⟨l,_ | ⟨l',_ | ⟨l'',r⟩⟩⟩
        ·exact h.elim
        ·exact h.elim
        ·have:=mo (look:=look) (kd:=d.kd) (sz:=sz) (x:=v) (lo:=some l) (hi:=some l')
         simp only [GQ] at this
         simp only [List.map_cons,List.map_nil]
         rw [this]; exact h
        ·exact h.elim
     ·exact h.elim
    ·exact h.elim
 | fieldAddr t x f =>
  rcases vs with _ | ⟨v,_ | ⟨v',r⟩⟩ <;> first | exact h.elim | skip
  refine ⟨e,?_,rfl⟩
  rcases aJ v with h1 | ⟨b,h1,rfl | rfl⟩
  ·simpa only [List.map_cons,List.map_nil,h1] using h
  ·simp only [opL] at h
   split at h
   ·rename_i hv
    cases hv
    split at h
    ·rename_i n _ _
     cases hb:Nat.blt 0 n <;> simp [hb,CA.add,Prg.hits] at h
    ·exact h.elim
   ·exact h.elim
  ·simp only [opL] at h
   split at h
   ·rename_i hv; cases hv
   ·exact h.elim
 | field t x f =>
  rcases vs with _ | ⟨v,_ | ⟨v',r⟩⟩ <;> first | exact h.elim | skip
  refine ⟨e,?_,rfl⟩
  rcases aJ v with h1 | ⟨b,h1,rfl | rfl⟩
  ·simpa only [List.map_cons,List.map_nil,h1] using h
  ·simp only [opL] at h
   split at h
   ·split at h <;> exact h.elim
   ·exact h.elim
  ·simp only [opL] at h
   split at h
   ·split at h
    ·simp [wr,TV.isAgg,Prg.hits] at h
    ·exact h.elim
   ·exact h.elim
 | indexAddr t x y =>
  rcases vs with _ | ⟨v,_ | ⟨v',_ | ⟨v'',r⟩⟩⟩ <;> first | exact h.elim | skip
  refine ⟨e,?_,rfl⟩
  simp only [opL,List.map_cons,List.map_nil] at h ⊢
  split at h
  ·rcases aJ v with h1 | ⟨b,h1,rfl | rfl⟩
   ·simp only [h1,pg,ia] at h ⊢; exact h
   ·simp only [pg,ia] at h ⊢; exact h
   ·simp only [pg,ia] at h ⊢; exact h
  ·unfold qV at h ⊢
   rw [ia]
   rcases aJ v with h1 | ⟨b,h1,rfl | rfl⟩
   ·rw [h1]; exact h
   ·split at h
    ·split at h <;> first | exact h.elim | (rename_i hx _; cases hx)
    ·exact h.elim
   ·split at h
    ·split at h <;> first | exact h.elim | (rename_i hx _; cases hx)
    ·exact h.elim
 | index t x y =>
  rcases vs with _ | ⟨v,_ | ⟨v',_ | ⟨v'',r⟩⟩⟩ <;> first | exact h.elim | skip
  refine ⟨e,?_,rfl⟩
  simp only [opL,List.map_cons,List.map_nil,ia] at h ⊢
  split at h
  ·exact h
  ·unfold ra at h ⊢
   rw [ia]
   rcases aJ v with h1 | ⟨b,h1,rfl | rfl⟩
   ·rw [h1]; exact h
   ·split at h
    ·split at h <;> first | exact h.elim | (rename_i hx _; cases hx)
    ·exact h.elim
   ·split at h
    ·split at h <;> first | exact h.elim | (rename_i hx _; cases hx)
    ·exact h.elim
 | extract x j =>
  rcases vs with _ | ⟨v,_ | ⟨v',r⟩⟩ <;> first | exact h.elim | skip
  refine ⟨e,?_,rfl⟩
  rcases aJ v with h1 | ⟨b,h1,rfl | rfl⟩
  ·simpa only [List.map_cons,List.map_nil,h1] using h
  ·exact h.elim
  ·exact h.elim
 | call c =>
  refine ⟨e,?_,rfl⟩
  obtain ⟨callee,args,tys⟩:=c
  cases callee with
  | builtin b =>
   simp only [opL] at h ⊢
   unfold dT at h
   split at h
   ·rename_i x ty htys
    simp only [htys,dT,List.map_cons,List.map_nil]
    split at h
    ·rename_i d hd
     have key:∀ kd,(yE look kd x).hits C e->(yE look kd x.nf).hits C e:=fun kd h=>by rw [FA]; exact h
     exact key _ h
    ·exact h.elim
   ·rename_i s x ty ty' htys
    simp only [htys,dT,List.map_cons,List.map_nil]
    split at h
    ·rename_i _ d hel
     cases hb:Nat.beq ty ty' with
     | false =>
      simp only [hb,cond_false] at h ⊢
      split at h
      ·rename_i hu
       exact h.elim
      ·exact h.elim
     | true =>
      simp only [hb,cond_true] at h ⊢
      unfold oO at h ⊢
      rw [A5,vF]
      rcases aJ s with h1 | ⟨b,h1,rfl | rfl⟩
      ·rw [h1]; exact h
      ·exact h
      ·exact h
    ·exact h.elim
   ·rename_i s x ty ty' htys
    simp only [htys,dT,List.map_cons,List.map_nil]
    split at h
    ·rename_i _ d hel
     cases hb:Nat.beq ty ty' with
     | false=>simp [hb,Prg.hits] at h
     | true =>
      simp only [hb,cond_true] at h ⊢
      unfold A1 at h ⊢
      rw [A5,vF]
      rcases aJ s with h1 | ⟨b,h1,rfl | rfl⟩
      ·rw [h1]; exact h
      ·exact h
      ·exact h
    ·exact h.elim
   ·rename_i s ty htys
    simp only [htys,dT,List.map_cons,List.map_nil]
    split at h
    ·exact h.elim
    ·exact h.elim
   ·simp only [dT,List.map_cons,List.map_nil,wR,ia] at h ⊢
    exact h
   ·simp only [dT,List.map_cons,List.map_nil,wR,ia] at h ⊢
    exact h
   ·exact h.elim
  | value f =>
   cases f with
   | func f =>
    rcases vs with _ | ⟨v,r⟩
    ·exact h.elim
    ·simp only [opL,List.map_cons,mK,sG,tD,C9,DT,DQ] at h ⊢
     exact h
   | tmp t =>
    rcases vs with _ | ⟨v,r⟩
    ·exact h.elim
    ·simp only [opL,List.map_cons,ia,sG,FQ] at h ⊢
     rcases aJ v with h1 | ⟨b,h1,rfl | rfl⟩
     ·rw [h1]; exact h
     ·exact h
     ·exact h
   | _=>exact h.elim
  | invoke r m=>exact h.elim
 | makeInterface t x =>
  rcases vs with _ | ⟨v,_ | ⟨v',r⟩⟩ <;> first | exact h.elim | skip
  refine ⟨e,?_,rfl⟩
  simp only [opL,List.map_cons,List.map_nil,Fk] at h ⊢
  exact h
 | typeAssert x xt t ok =>
  rcases vs with _ | ⟨v,_ | ⟨v',r⟩⟩ <;> cases ok <;> first | exact h.elim | skip
  refine ⟨e,?_,rfl⟩
  simp only [opL,List.map_cons,List.map_nil,Df] at h ⊢
  exact h
 | _=>exact h.elim
theorem li (st:ASt):st.nfS.look=st.look:=rfl
theorem nB (st:ASt):st.nfS.base=st.base:=rfl
theorem vW (st:ASt) (d:Option Tmp):st.nfS.nid d=st.nid d:=by cases d <;> rfl
theorem jb (st:ASt) (d:Option Tmp) (v:AV):(st.put d v).nfS=st.nfS.put d v.nf:=by
 cases d with
 | none=>rfl
 | some d=>simp [ASt.nfS,ASt.put,ai,List.map_set]
theorem s8 (st:ASt) (i:Nat) (b:Option BC):(st.ac i b).nfS=st.nfS.ac i b:=rfl
theorem lI (st:ASt) (t:Nat):nth (.one .junk) st.nfS.slots t=(nth (.one .junk) st.slots t).nf:=by
 simp only [ASt.nfS,bc,GJ]
 cases st.slots[t]? <;> rfl
theorem Cv (ps:List Nat) (st:ASt) (d:Option Nat) (e:Eff):cw ps st.nfS d e.nfE=cw ps st d e:=by
 unfold cw
 congr 1
 funext k
 cases d with
 | none=>rw [nB,cg]
 | some d=>simp only [nB,cg,lI,oC]
theorem BK {o:Item} {st:ASt} {e:Eff} (h:kw o st e=true):kw o st.nfS e.nfE=true:=nomatch h
theorem tV (st:ASt) (x:Operand):st.nfS.ev x=(st.ev x).nf:=by
 cases x with
 | tmp t=>exact lI st t
 | const v =>
  cases v with
  | bool b=>rfl
  | _=>first | rfl | (simp only [ASt.ev]; cases Value.oneCell' _ <;> rfl)
 | global g=>rfl
 | func f=>rfl
theorem th:∀ (l:List AV),cB (l.map AV.nf)=cB l
 | []=>rfl
 | v :: l=>by simp only [List.map_cons,cB,ia,th l]
theorem kE (e:Eff):ix e.nfE=ix e:=by
 cases e with
 | new b v=>cases b <;> rfl
 | _=>rfl
theorem Ce {i:Item} {st:ASt} {e:Eff}:gP i st.nfS e.nfE=gP i st e:=by
 unfold gP
 have:i.o.op.operands.toList.map st.nfS.ev=(i.o.op.operands.toList.map st.ev).map AV.nf:=by
  rw [List.map_map]
  exact List.map_congr_left fun x _=>tV st x
 rw [this,th,kE,cg]
 rfl
theorem xP:∀ (l:List AV),iU (l.map AV.nf)=iU l
 | []=>rfl
 | v :: l=>by simp only [List.map_cons,iU,oC,xP l]
theorem pr (e:Eff):mX e.nfE=mX e:=by cases e <;> rfl
theorem ze (e:Eff):drE e.nfE=drE e:=by cases e <;> rfl
theorem sa (k:Nat) (e:Eff):vP k e.nfE=vP k e:=by cases e <;> rfl
theorem qX (v:AV):(v.nf.bQ CA.deep).g9=(v.bQ CA.deep).g9:=by
 rcases aJ v with h | ⟨b,h,rfl | rfl⟩
 ·rw [h]
 ·rw [h]; rfl
 ·rw [h]; rfl
theorem xU:∀ (l:List AV),iU (ck CA.deep (l.map AV.nf))=iU (ck CA.deep l)
 | []=>rfl
 | v :: l=>by simp only [List.map_cons,ck,iU,qX,xU l]
theorem qh (e:Eff):oj e.nfE=oj e:=by
 cases e with
 | val v=>exact qX v
 | new b v=>exact cg (.new b v)
 | upd i b v=>exact cg (.upd i b v)
 | gen ps v=>exact cg (.gen ps v)
theorem BQ {i:Item} {st:ASt} {e:Eff}:cj i st.nfS e.nfE=cj i st e:=by
 unfold cj
 simp only [pr,ze,sa]
 rfl
theorem BR {i:Item} {st:ASt} {e:Eff}:cZ i st.nfS e.nfE=cZ i st e:=by
 unfold cZ
 have hd:∀ d b,iY st.nfS d b=iY st d b:=fun d b=>by
  cases d with
  | none=>rfl
  | some d =>
   have:=tV st (.tmp d)
   simp only [ASt.ev] at this
   simp only [iY,this,oC]
 have hd2:∀ d b,gi st.nfS d b=gi st d b:=fun d b=>by
  cases d with
  | none=>rfl
  | some d =>
   have:=tV st (.tmp d)
   simp only [ASt.ev] at this
   simp only [gi,this,qX]
 simp only [hd,hd2,cg,qh]
 have:i.o.op.operands.toList.map st.nfS.ev=(i.o.op.operands.toList.map st.ev).map AV.nf:=by
  rw [List.map_map]
  exact List.map_congr_left fun x _=>tV st x
 rw [this,xP,xU]
 rfl
theorem okE_nf {i:Item} {st:ASt} {e:Eff} (h:okE i st e=true):okE i st.nfS e.nfE=true:=by
 unfold okE at h ⊢
 rw [Bool.or_eq_true] at h ⊢
 rcases h with h | h
 ·rw [BQ]; exact .inl h
 refine .inr ?_
 rw [Bool.or_eq_true] at h ⊢
 rcases h with h | h
 ·rw [oc,xX,nB,Cv,Ce,BR]; exact .inl h
 ·exact .inr (BK h)
theorem wy (hs:Sim w0 I0 st a ov w):Sim w0 I0 st.nfS a ov w:=by
 obtain ⟨g,hs⟩:=hs
 refine ⟨g,hs.below,hs.sub,hs.lt,hs.old,by simp [ASt.nfS,hs.len],hs.defers,fun t v hv=>?_,hs.olen,hs.outs,hs.cells,hs.trees,hs.foot,hs.apart,hs.apartR,hs.res,hs.base,hs.out⟩
 simp only [ASt.nfS,GJ] at hv
 cases hsl:st.slots[t]? with
 | none=>simp [hsl] at hv
 | some u =>
  simp only [hsl,GQ,GF] at hv
  subst hv
  exact DG.2 (hs.slots t u hsl)
theorem dX (hs:Sim w0 I0 st.nfS a ov w):Sim w0 I0 st a ov w:=by
 obtain ⟨g,hs⟩:=hs
 refine ⟨g,hs.below,hs.sub,hs.lt,hs.old,by have:=hs.len; simpa [ASt.nfS] using this,hs.defers,fun t v hv=>?_,hs.olen,hs.outs,hs.cells,hs.trees,hs.foot,hs.apart,hs.apartR,hs.res,hs.base,hs.out⟩
 exact DG.1 (hs.slots t v.nf (by simp [ASt.nfS,hv]))
theorem oN (i r:Nat) (js:List Nat) (b:Bool) (v:AV):(v.bQ (CA.drop i r js b)).nf=v.nf.bQ (CA.drop i r js b):=by
 rcases aJ v with h | ⟨b,h,rfl | rfl⟩
 ·rw [h]
  cases v with
  | one c =>
   have key:∀ c:CA,c.drop i r js b=c\/c.drop i r js b=.junk:=fun c=>by
    rcases fS i r js b c with ⟨h,_⟩ | h
    ·exact .inl h
    ·exact .inr h
   simp only [AV.bQ]
   rcases key c with h' | h'
   ·rw [h',h]
   ·rw [h']; rfl
  | tv x=>exact h
  | _=>rfl
 ·rfl
 ·rfl
theorem Ds (st:ASt) (i r:Nat) (js:List Nat) (b:Bool):(st.au (CA.drop i r js b)).nfS=st.nfS.au (CA.drop i r js b):=by
 simp only [ASt.nfS,ASt.au]
 congr 1
 apply List.ext_getElem?
 intro t
 simp only [GJ,lV]
 cases st.slots[t]? with
 | none=>rfl
 | some v=>simp [oN]
theorem qw (i:Nat) (v:AV):(v.bQ (CA.unM i)).nf=v.nf.bQ (CA.unM i):=by
 cases v with
 | one c =>
  cases c with
  | t x =>
   cases x with
   | lit u=>cases u <;> rfl
   | _=>rfl
  | may j ty =>
   simp only [AV.bQ,CA.unM,AV.nf]
   cases j.beq i <;> rfl
  | _=>rfl
 | tv x =>
  cases x with
  | lit u=>cases u <;> rfl
  | _=>rfl
 | _=>rfl
theorem E1 (st:ASt) (i:Nat):(st.au (CA.unM i)).nfS=st.nfS.au (CA.unM i):=by
 simp only [ASt.au,ASt.nfS]
 congr 1
 induction st.slots with
 | nil=>rfl
 | cons v l ih=>simp only [ck,List.map_cons,qw,ih]
theorem uB {i:Nat} {b:BC} (h:st.bu i b=some st'):st.nfS.bu i b=some st'.nfS:=by
 obtain ⟨h1,h2,rfl⟩:=bm h
 have h2':i.blt st.nfS.boxes.length=true:=by simpa [ASt.nfS] using h2
 simp only [ASt.bu,li,h1,h2',cond_true,s8]
theorem qG {d:Option Tmp}:∀ {ps:List Prim} {st st':ASt},ae d ps st=some st'->ae d ps st.nfS=some st'.nfS
 | [],st,st',h=>by simp only [ae,GF] at h; subst h; rfl
 | p :: ps, st, st', h => by
  simp only [ae] at h ⊢
  cases h1:p.app st d with
  | none=>simp [h1] at h
  | some s1 =>
   simp only [h1] at h
   have:p.app st.nfS d=some s1.nfS:=by
    cases p with
    | drop i r js b =>
     simp only [Prim.app,GF] at h1 ⊢
     subst h1
     rw [Ds]
    | root i r x =>
     simp only [Prim.app,li] at h1 ⊢
     split at h1
     ·rename_i b hb
      simp only [GF] at h1
      subst h1
      rfl
     ·cases h1
    | frz i r =>
     simp only [Prim.app,li] at h1 ⊢
     split at h1
     ·rename_i x hx
      split at h1
      ·rename_i b hb
       simp only [GF] at h1
       subst h1
       rfl
      ·cases h1
     ·cases h1
    | unmay i =>
     simp only [Prim.app,GF] at h1 ⊢
     subst h1
     rw [E1]
    | newB b =>
     cases d with
     | none=>simp [Prim.app] at h1
     | some d =>
      simp only [Prim.app] at h1 ⊢
      rw [vW]
      exact uB h1
    | setB i cs =>
     simp only [Prim.app,li] at h1 ⊢
     split at h1
     ·simp only [GF] at h1
      subst h1
      rfl
     ·cases h1
   rw [this]
   exact qG h
theorem app_nf {e:Eff} {d:Option Tmp} (h:e.app st d=some st'):e.nfE.app st.nfS d=some st'.nfS:=by
 cases e with
 | val v =>
  simp only [Eff.app,Eff.nfE,GF] at h ⊢
  subst h
  rw [jb]
 | new b v =>
  cases d with
  | none=>simp [Eff.app] at h
  | some d =>
   simp only [Eff.app,Eff.nfE] at h ⊢
   rw [vW]
   split at h
   ·rename_i s1 hs1
    simp only [GF] at h
    subst h
    rw [uB hs1]
    simp only [jb]
   ·cases h
 | upd i b v =>
  simp only [Eff.app,Eff.nfE,GF] at h ⊢
  subst h
  rw [jb,s8]
 | gen ps v =>
  simp only [Eff.app,Eff.nfE] at h ⊢
  split at h
  ·rename_i s1 hs1
   simp only [GF] at h
   subst h
   rw [qG hs1]
   simp only [jb]
  ·cases h
theorem ko {d:Option Tmp} {v:AV} (hs:Sim w0 I0 (st.put d v) a ov w):Sim w0 I0 (st.put d v.nf) a ov w:=by
 apply dX
 have:=wy hs
 rw [jb] at this ⊢
 rwa [uL]
theorem A8 {e:Eff} {d:Option Tmp} (h:e.nfE.app st d=some st'):∃ st1,e.app st d=some st1/\∀ w0 I0 a ov w,Sim w0 I0 st1 a ov w->Sim w0 I0 st' a ov w:=by
 cases e with
 | val v =>
  simp only [Eff.app,Eff.nfE,GF] at h ⊢
  subst h
  exact ⟨_,rfl,fun w0 I0 a ov w hs=>ko hs⟩
 | new b v =>
  cases d with
  | none=>simp [Eff.app,Eff.nfE] at h
  | some d =>
   simp only [Eff.app,Eff.nfE] at h ⊢
   split at h
   ·rename_i s1 hs1
    simp only [GF] at h
    subst h
    exact ⟨_,rfl,fun w0 I0 a ov w hs=>ko hs⟩
   ·cases h
 | upd i b v =>
  simp only [Eff.app,Eff.nfE,GF] at h ⊢
  subst h
  exact ⟨_,rfl,fun w0 I0 a ov w hs=>ko hs⟩
 | gen ps v =>
  simp only [Eff.app,Eff.nfE] at h ⊢
  split at h
  ·rename_i s1 hs1
   simp only [GF] at h
   subst h
   exact ⟨_,rfl,fun w0 I0 a ov w hs=>ko hs⟩
  ·cases h
end
end Go.Ab
end
section
namespace Go.Ab
open Go.RowKit
def Prg.All {R:Type} (p:R->Prop):Prg R->Prop
 | .fail=>True
 | .ret e=>p e
 | .tv _ k=>∀ v,(k v).All p
 | .tvs _ k=>∀ v,(k v).All p
 | .rws _ k=>∀ v,(k v).All p
 | .nat _ k=>∀ v,(k v).All p
 | .chk _ k=>k.All p
 | .ite _ t e=>t.All p/\e.All p
 | .call _ _ k=>∀ v,(k v).All p
 | .jmp _ _=>True
theorem Prg.All.hits {R:Type} {C:Cal} {p:R->Prop} {e:R}:∀ {o:Prg R},o.All p->o.hits C e->p e
 | .ret e',h,h'=>by cases h'; exact h
 | .tv _ k,h,⟨v,_,h'⟩=>(h v).hits h'
 | .tvs _ k,h,⟨v,_,h'⟩=>(h v).hits h'
 | .rws _ k,h,⟨v,_,h'⟩=>(h v).hits h'
 | .nat _ k,h,⟨v,_,h'⟩=>(h v).hits h'
 | .chk _ k,h,⟨_,h'⟩=>Prg.All.hits (o:=k) h h'
 | .ite _ t e,h,⟨v,_,.inl ⟨_,h'⟩⟩=>Prg.All.hits (o:=t) h.1 h'
 | .ite _ t e,h,⟨v,_,.inr ⟨_,h'⟩⟩=>Prg.All.hits (o:=e) h.2 h'
 | .call _ _ k,h,⟨v,_,h'⟩=>(h v).hits h'
section
variable {E:Env} {look look':Look} {p:Eff->Prop} {id:Nat}
theorem aK {b:Bool} {x y:Out} (hx:x.All p) (hy:y.All p):(bif b then x else y).All p:=by cases b <;> assumption
theorem lQ {q:Way} {x:TV} {k:TV->Out} (h:∀ y,(k y).All p):(qR q x k).All p:=by
 unfold qR
 split
 ·exact h _
 ·exact h
theorem fm {c:CA} {k:TV->Out} (h:∀ y,(k y).All p):(iE look c k).All p:=by
 unfold iE
 split
 ·exact h _
 ·split
  ·exact lQ h
  ·exact trivial
 ·split
  ·exact lQ fun y z=>h z
  ·exact trivial
 ·exact trivial
theorem ol {v:AV} {k:TV->Out} (h:∀ y,(k y).All p):(se look v k).All p:=by
 unfold se
 split
 ·exact fm h
 ·exact h _
 ·exact h _
 ·exact trivial
theorem uW {c:CA} {k:TV->Out} (h:∀ y,(k y).All p):(tI look c k).All p:=by
 unfold tI
 split
 ·exact h _
 ·exact fm fun y=>h _
 ·exact fm fun y=>h _
 ·exact trivial
theorem vL {k:List TV->Out}:∀ {cs:List CA} {k:List TV->Out},(∀ y,(k y).All p)->(AM look cs k).All p
 | [],k,h=>h _
 | c :: cs,k,h=>uW fun y=>vL (k:=fun _=>.fail) fun ys=>h _
theorem Cd {v:AV} {k:TV->Out} (h:∀ y,(k y).All p):(sv look v k).All p:=by
 unfold sv
 split
 ·exact uW h
 ·exact h _
 ·exact vL (k:=fun _=>.fail) fun ys=>h _
 ·exact trivial
 ·exact trivial
 ·exact h _
theorem pR:∀ {vs:List AV} {k:List TV->Out},(∀ y,(k y).All p)->(lends look vs k).All p
 | [],k,h=>h _
 | v :: vs,k,h=>Cd fun y=>pR fun ys=>h _
theorem vM {c:CA} {k:TV->List (Nat × Nat)->Out} (h:∀ y r,(k y r).All p):(s7 look c k).All p:=by
 unfold s7
 split
 ·exact h _ _
 ·split
  ·split
   ·exact h _ _
   ·exact fun y=>h _ _
  ·exact trivial
 ·split
  ·split
   ·exact fun y=>h _ _
   ·exact fun z y=>h _ _
  ·exact trivial
 ·exact trivial
theorem vE:∀ {cs:List CA} {k:List TV->List (Nat × Nat)->Out},(∀ y r,(k y r).All p)->(AJ look cs k).All p
 | [],k,h=>h _ _
 | c :: cs,k,h=>vM fun y r=>vE fun ys rs=>h _ _
theorem BW {v:AV} {k:TV->List (Nat × Nat)->Out} (h:∀ y r,(k y r).All p):(so look v k).All p:=by
 unfold so
 split
 ·exact vM h
 ·exact h _ _
 ·exact vE fun ys rs=>h _ _
 ·exact trivial
 ·exact trivial
 ·exact h _ _
theorem pL:∀ {vs:List AV} {k:List TV->List (Nat × Nat)->Out},(∀ y r,(k y r).All p)->(hands look vs k).All p
 | [],k,h=>h _ _
 | v :: vs,k,h=>BW fun y r=>pL fun ys rs=>h _ _
theorem dQ:∀ {cs:List CA} {k:List TV->List Prim->List (Nat × Nat)->Out},(∀ y q r,(k y q r).All p)->(co look cs k).All p
 | [],k,h=>h _ _ _
 | .t x :: l,k,h=>by
  simp only [co]
  exact dQ (cs:=l) fun xs ps ts=>h _ _ _
 | .sref i r q :: l, k, h => by
  simp only [co]
  split
  ·split
   ·exact dQ (cs:=l) fun xs ps ts=>h _ _ _
   ·exact fun y=>dQ (cs:=l) fun xs ps ts=>h _ _ _
  ·exact trivial
 | .swin i r q lo len :: l, k, h => by
  simp only [co]
  split
  ·split
   ·exact fun y=>dQ (cs:=l) fun xs ps ts=>h _ _ _
   ·exact fun z y=>dQ (cs:=l) fun xs ps ts=>h _ _ _
  ·exact trivial
 | .ptr _ _ :: l,k,h=>trivial
 | .ref _ _ :: l,k,h=>trivial
 | .tptr _ _ _ _ _ :: l,k,h=>trivial
 | .may _ _ :: l,k,h=>trivial
 | .aptr _ _ _ _ :: l,k,h=>trivial
 | .ifp _ _ :: l,k,h=>trivial
 | .fn1 _ _ :: l,k,h=>trivial
 | .psl _ _ :: l,k,h=>trivial
 | .yl _ :: l,k,h=>trivial
 | .undef :: l,k,h=>trivial
 | .junk :: l,k,h=>trivial
theorem dI:∀ {cs:List CA} {k:List TV->List Prim->List (Nat × Nat)->Out},(∀ y q r,(k y q r).All p)->(bT look cs k).All p
 | [],k,h=>h _ _ _
 | .t x :: l,k,h=>by
  simp only [bT]
  exact dI (cs:=l) fun xs ps ts=>h _ _ _
 | .sref i r q :: l, k, h => by
  simp only [bT]
  split
  ·split
   ·exact dI (cs:=l) fun xs ps ts=>h _ _ _
   ·exact fun y=>⟨dI (cs:=l) fun xs ps ts=>h _ _ _,fun x'=>dI (cs:=l) fun xs ps ts=>h _ _ _⟩
  ·exact trivial
 | .swin i r q lo len :: l, k, h => by
  simp only [bT]
  split
  ·split
   ·exact fun y=>dI (cs:=l) fun xs ps ts=>h _ _ _
   ·exact fun z y=>dI (cs:=l) fun xs ps ts=>h _ _ _
  ·exact trivial
 | .ptr _ _ :: l,k,h=>trivial
 | .ref _ _ :: l,k,h=>trivial
 | .tptr _ _ _ _ _ :: l,k,h=>trivial
 | .may _ _ :: l,k,h=>trivial
 | .aptr _ _ _ _ :: l,k,h=>trivial
 | .ifp _ _ :: l,k,h=>trivial
 | .fn1 _ _ :: l,k,h=>trivial
 | .psl _ _ :: l,k,h=>trivial
 | .yl _ :: l,k,h=>trivial
 | .undef :: l,k,h=>trivial
 | .junk :: l,k,h=>trivial
theorem dO {agg:Bool} {n:Nat} {x:AV} {k:List CA->Out} (h:∀ cs,(k cs).All p):(x.aZ agg n k).All p:=by
 unfold AV.aZ
 split
 ·rename_i c; cases c.kept <;> first | exact trivial | exact h _
 ·exact h _
 ·exact h _
 ·exact h _
 ·rename_i cs; cases cs.length.beq n <;> first | exact trivial | exact h _
 ·exact h _
 ·exact trivial
theorem t7 {at_:Nat->Option (Nat × Bool × Nat)} {k:List CA->Out} (h:∀ cs,(k cs).All p):∀ (is:List Nat) (vs:List AV) (cs:List CA),(bS at_ is vs cs k).All p
 | [],[],cs=>h cs
 | i :: is, x :: vs, cs => by
  simp only [bS]
  split
  ·refine dO (fun ps=>?_)
   exact aK (t7 h is vs _) trivial
  ·exact trivial
 | [],_ :: _,cs=>trivial
 | _ :: _,[],cs=>trivial
theorem eA {v:Option AV} {k:Option Nat->Out} (h:∀ n,(k n).All p):(fp v k).All p:=by
 unfold fp
 split
 ·exact h _
 ·split
  ·exact fun v=>h _
  ·exact trivial
abbrev gJ (e:Eff):Prop:=∃ v,e=.val v
abbrev kX (e:Eff):Prop:=∃ b v,e=.new b v
theorem xz {d:TyD} {x:List TV} {off:Nat}:(kb d x off).All gJ:=by
 unfold kb
 cases d.kd.isAgg
 ·exact ⟨_,rfl⟩
 ·exact ⟨_,rfl⟩
theorem vR:∀ {vs:List AV} {k:List CA->Out},(∀ cs,(k cs).All p)->(j4 vs k).All p
 | [],k,h=>h _
 | v :: vs,k,h=>dO fun cs=>vR fun cs'=>h _
theorem vy {b k:Nat}:∀ {n:Nat},(An b k n).All gJ
 | 0=>trivial
 | n + 1=>⟨⟨_,rfl⟩,vy⟩
theorem Gl {op:Op} (h:am op=.N) (vs:List AV):(opL E id look op vs).All gJ:=by
 cases op with
 | move x=>rcases vs with _ | ⟨v,_ | ⟨v',r⟩⟩ <;> first | exact trivial | exact ⟨_,rfl⟩
 | assign x=>rcases vs with _ | ⟨v,_ | ⟨v',r⟩⟩ <;> first | exact trivial | exact ⟨_,rfl⟩
 | pick c x y =>
  rcases vs with _ | ⟨v,_ | ⟨v',_ | ⟨v'',_ | ⟨v3,r⟩⟩⟩⟩ <;> first | exact trivial | skip
  simp only [opL]
  split <;> first | exact trivial | exact ⟨_,rfl⟩ | exact ⟨⟨_,rfl⟩,⟨_,rfl⟩⟩
 | build t parts =>
  simp only [opL]
  split
  ·refine aK ?_ trivial
   refine t7 ?_ _ _ _
   exact fun cs=>⟨_,rfl⟩
  ·exact trivial
 | nilCheck x =>
  rcases vs with _ | ⟨v,_ | ⟨v',r⟩⟩ <;> first | exact trivial | skip
  simp only [opL]
  split <;> first | exact trivial | exact ⟨_,rfl⟩
 | unOp op xt x =>
  rcases vs with _ | ⟨v,_ | ⟨v',r⟩⟩ <;> first | exact trivial | skip
  simp only [opL]
  split
  ·exact ⟨_,rfl⟩
  ·split
   ·exact fun v=>⟨_,rfl⟩
   ·exact trivial
 | fieldAddr t x f =>
  rcases vs with _ | ⟨v,_ | ⟨v',r⟩⟩ <;> first | exact trivial | skip
  simp only [opL]
  split
  ·split
   ·refine aK ?_ trivial
    split <;> first | exact trivial | exact ⟨_,rfl⟩
   ·exact trivial
  ·exact trivial
 | field t x f =>
  rcases vs with _ | ⟨v,_ | ⟨v',r⟩⟩ <;> first | exact trivial | skip
  simp only [opL]
  split
  ·split
   ·unfold wr
    split
    ·split
     ·split <;> first | exact trivial | exact ⟨_,rfl⟩
     ·exact trivial
    ·exact ⟨_,rfl⟩
    ·exact trivial
   ·exact trivial
  ·exact trivial
 | index t x y =>
  rcases vs with _ | ⟨v,_ | ⟨v',_ | ⟨v'',r⟩⟩⟩ <;> first | exact trivial | skip
  simp only [opL]
  split
  ·exact fun v=>⟨_,rfl⟩
  ·unfold ra
   split
   ·split
    ·refine aK ?_ trivial
     split
     ·exact fun k v=>⟨_,rfl⟩
     ·exact trivial
    ·exact trivial
   ·exact trivial
 | extract x j =>
  rcases vs with _ | ⟨v,_ | ⟨v',r⟩⟩ <;> first | exact trivial | skip
  simp only [opL]
  split
  ·split
   ·split <;> first | exact trivial | exact ⟨_,rfl⟩
   ·exact trivial
  ·exact trivial
 | makeFunc fn first cap =>
  cases fn with
  | func f =>
   simp only [opL]
   exact aK (vR fun cs=>⟨_,rfl⟩) trivial
  | _=>exact trivial
 | call c =>
  obtain ⟨callee,args,tys⟩:=c
  cases callee with
  | builtin b=>cases b <;> simp [am] at h
  | value f=>cases f <;> simp [am] at h
  | invoke r m=>simp [am] at h
 | makeInterface t x =>
  rcases vs with _ | ⟨v,_ | ⟨v',r⟩⟩ <;> first | exact trivial | skip
  simp only [opL]
  split
  ·unfold C5
   refine aK ?_ trivial
   split
   ·exact ⟨_,rfl⟩
   ·split
    ·exact fun v=>⟨_,rfl⟩
    ·exact trivial
  ·exact trivial
 | typeAssert x xt t ok =>
  rcases vs with _ | ⟨v,_ | ⟨v',r⟩⟩ <;> cases ok <;> first | exact trivial | skip
  simp only [opL]
  split
  ·unfold vh
   refine aK ?_ trivial
   split
   ·exact fun v=>⟨_,rfl⟩
   ·exact trivial
  ·exact trivial
 | _=>simp [am] at h
theorem Ey {op:Op} (h:am op=.R) (vs:List AV):(opL E id look op vs).All gJ:=by
 cases op with
 | load t x =>
  rcases vs with _ | ⟨v,_ | ⟨v',r⟩⟩ <;> first | exact trivial | skip
  simp only [opL]
  split
  ·unfold Af
   split
   ·refine aK trivial ?_
    split
    ·exact fun v=>⟨_,rfl⟩
    ·exact trivial
   ·split
    ·split
     ·split
      ·exact ⟨_,rfl⟩
      ·exact trivial
     ·exact trivial
    ·exact trivial
   ·exact xz
   ·split
    ·refine lQ (fun s e=>?_)
     simp only [Prg.All]
     split
     ·exact ⟨_,rfl⟩
     ·exact trivial
    ·exact trivial
   ·exact trivial
  ·exact trivial
 | convert xt dt x =>
  rcases vs with _ | ⟨v,_ | ⟨v',r⟩⟩ <;> first | exact trivial | skip
  simp only [opL]
  split
  ·unfold AL
   split
   ·exact trivial
   ·split
    ·exact fun v=>⟨_,rfl⟩
    ·exact trivial
  ·exact trivial
 | binOp op xt x y yt =>
  rcases vs with _ | ⟨v,_ | ⟨v',_ | ⟨v'',r⟩⟩⟩ <;> first | exact trivial | skip
  simp only [opL]
  split
  ·unfold Fz
   split
   ·split
    ·refine dO fun cs=>dO fun cs'=>?_
     split
     ·exact fun v=>⟨_,rfl⟩
     ·exact trivial
    ·exact trivial
   ·unfold Fy
    split
    ·exact ⟨_,rfl⟩
    ·exact ⟨_,rfl⟩
    ·exact trivial
   unfold FX
   refine aK (ol fun x=>ol fun y=>fun v=>⟨_,rfl⟩) ?_
   split
   ·exact fun v=>⟨_,rfl⟩
   ·exact trivial
  ·exact trivial
 | slice t x lo hi mx =>
  have sl:∀ {kd:Kd} {sz:Nat} {x:AV} {lo hi:Option AV},(iJ look kd sz x lo hi).All gJ:=by
   intro kd sz x lo hi
   unfold iJ
   split
   ·exact eA fun lo=>eA fun hi=>fun v=>⟨_,rfl⟩
   ·split
    ·exact fm fun s n=>eA fun lo=>eA fun hi=>⟨_,rfl⟩
    ·split
     ·exact fm fun s=>eA fun hi=>⟨_,rfl⟩
     ·exact fm fun s=>eA fun lo=>eA fun hi=>⟨_,rfl⟩
    ·exact trivial
  cases mx with
  | some m=>rcases vs with _ | ⟨v,r⟩ <;> exact trivial
  | none =>
   rcases vs with _ | ⟨v,r⟩
   ·exact trivial
   ·simp only [opL]
    split
    ·split
     ·split <;> first | exact trivial | exact sl
     ·exact trivial
    ·exact trivial
 | indexAddr t x y =>
  rcases vs with _ | ⟨v,_ | ⟨v',_ | ⟨v'',r⟩⟩⟩ <;> first | exact trivial | skip
  simp only [opL]
  split
  ·unfold pg
   split
   ·split
    ·exact fun v=>⟨_,rfl⟩
    ·split
     ·exact fm fun s n k=>⟨_,rfl⟩
     ·exact fm fun s k=>⟨_,rfl⟩
     ·exact aK (fun k=>vy) trivial
     ·exact trivial
   ·exact trivial
  ·unfold qV
   split
   ·split
    ·exact aK (fun k=>⟨_,rfl⟩) trivial
    ·exact trivial
   ·exact trivial
 | call c =>
  obtain ⟨callee,args,tys⟩:=c
  cases callee with
  | builtin b =>
   have mn:∀ {mx:Bool} {x y:AV},(wR mx x y).All gJ:=by
    intro mx x y
    unfold wR
    split
    ·exact fun v=>⟨_,rfl⟩
    ·exact trivial
   cases b <;> simp [am] at h
   all_goals simp only [opL]
   all_goals unfold dT
   all_goals split <;> first | exact trivial | exact mn | contradiction | skip
   split
   ·unfold yE
    split
    ·exact ⟨_,rfl⟩
    ·split
     ·exact ⟨_,rfl⟩
     ·exact ol fun s v=>⟨_,rfl⟩
    ·exact ol fun s v=>⟨_,rfl⟩
   ·exact trivial
  | value f=>cases f <;> simp [am] at h
  | invoke r m=>simp [am] at h
 | _=>simp [am] at h
theorem cls_A {op:Op} (h:am op=.A) (vs:List AV):(opL E id look op vs).All kX:=by
 cases op with
 | alloc t =>
  rcases vs with _ | ⟨v,r⟩ <;> first | exact trivial | skip
  simp only [opL]
  split
  ·exact ⟨_,_,rfl⟩
  ·exact trivial
 | box t x =>
  rcases vs with _ | ⟨v,_ | ⟨v',r⟩⟩ <;> first | exact trivial | skip
  simp only [opL]
  split
  ·exact dO (fun cs=>⟨_,_,rfl⟩)
  ·exact trivial
 | makeSlice t x y =>
  rcases vs with _ | ⟨v,_ | ⟨v',_ | ⟨v'',r⟩⟩⟩ <;> first | exact trivial | skip
  simp only [opL]
  split
  ·refine aK ?_ trivial
   exact fun n m=>⟨_,_,rfl⟩
  ·exact trivial
 | call c =>
  obtain ⟨callee,args,tys⟩:=c
  cases callee with
  | builtin b=>cases b <;> simp [am] at h
  | value f=>cases f <;> simp [am] at h
  | invoke r m=>simp [am] at h
 | _=>simp [am] at h
theorem iT {ps:List Prim} {b:BC} {v:AV}:(cE ps b v).plain=true->gJ (cE ps b v)\/kX (cE ps b v):=by
 cases ps with
 | nil=>exact fun _=>.inr ⟨_,_,rfl⟩
 | cons q l=>exact fun h=>by cases h
theorem uI {ps:List Prim} {v:AV}:(match ps with | []=>Eff.val v | _=>.gen ps v).plain=true->gJ (match ps with | []=>Eff.val v | _=>.gen ps v)\/kX (match ps with | []=>Eff.val v | _=>.gen ps v):=by
 cases ps with
 | nil=>exact fun _=>.inl ⟨_,rfl⟩
 | cons q l=>exact fun h=>by cases h
theorem kG {d:TyD} {x:TV} {k:Out} (h:k.All p):(jp d x k).All p:=by
 unfold jp
 exact aK h h
theorem qn {x:TV} {k:Out} (h:k.All p):∀ (ds:List TyD) (j:Nat),(fR x ds j k).All p
 | [],j=>h
 | d :: ds,j=>kG (qn h ds (j + 1))
theorem xy {ds:List TyD} {v:TV} {ps:List Prim}:(wo id ds v ps).All fun e=>e.plain=true->gJ e\/kX e:=by
 have many:∀ ds:List TyD,(Prg.chk (v.isTup ds.length) (fR v ds 0 (bif gH ds then .ret (cE ps (.tree (bn v ds 0)) (.tups (dD id v ds 0 0)))
   else .ret (match ps with | []=>.val (.tups (dD id v ds 0 0)) | _=>.gen ps (.tups (dD id v ds 0 0)))))).All fun e=>e.plain=true->gJ e\/kX e:=by
  intro ds
  refine qn ?_ ds 0
  exact aK iT uI
 match ds with
 | []=>exact many []
 | [d] =>
  simp only [wo]
  refine kG ?_
  split
  ·exact aK iT uI
  ·exact trivial
 | d :: d' :: l=>exact many _
theorem EH {ds:List TyD} {v:TV} {k:AV->Out} {p:Eff->Prop} (h:∀ av,(k av).All p):(Ef id ds v k).All p:=by
 have some:∀ (ds:List TyD) (j:Nat) (k:Out),k.All p->(fR v ds j k).All p:=by
  intro ds
  induction ds with
  | nil=>intro j k h; exact h
  | cons d ds ih=>intro j k h; exact kG (ih (j + 1) k h)
 unfold Ef
 split
 ·refine kG ?_
  split
  ·exact h _
  ·exact trivial
 ·exact some _ 0 _ (h _)
theorem BT {f:FuncId} {ld:dN} {vs:List AV}:(nM E id look f ld vs).All fun e=>e.plain=true->gJ e\/kX e:=by
 unfold nM
 split
 ·split
  ·refine aK trivial ?_
   exact pL fun xs rs=>dQ fun ys qs ts=>aK (fun v=>EH fun av=>fun h=>by simp [Eff.plain] at h) trivial
  ·exact trivial
 ·exact trivial
theorem Ck {f:FuncId} {c:Nat × Nat} {vs:List AV}:(yF look f c vs).All fun e=>e.plain=true->gJ e\/kX e:=by
 exact trivial
theorem Bn {f:FuncId} {vs:List AV}:(sJ look f vs).All fun e=>e.plain=true->gJ e\/kX e:=by
 exact trivial
theorem Du {f:FuncId} {i:Nat} {vs:List AV}:(CH E id look f i vs).All fun e=>e.plain=true->gJ e\/kX e:=by
 exact trivial
theorem cls_B {op:Op} (h:am op=.B) (vs:List AV):(opL E id look op vs).All fun e=>e.plain=true->gJ e\/kX e:=by
 cases op with
 | buildSlice t len parts =>
  simp only [opL]
  refine aK ?_ ?_
  ·exact trivial
  unfold iz
  split
  ·refine t7 (fun cs=>?_) _ _ _
   refine aK (fun _=>.inr ⟨_,_,rfl⟩) ?_
   refine dI fun ys qs ts=>?_
   exact aK iT trivial
  ·exact trivial
 | call c =>
  obtain ⟨callee,args,tys⟩:=c
  cases callee with
  | builtin b=>cases b <;> simp [am] at h
  | value f =>
   cases f with
   | func f =>
    rcases vs with _ | ⟨v,r⟩
    ·exact trivial
    ·simp only [opL,mK]
     refine aK Bn (aK trivial ?_)
     split
     ·exact Ck
     split
     ·exact BT
     ·split
      ·refine aK ?_ ?_
       ·exact pR fun xs=>fun v=>xy
       ·exact pL fun xs rs=>aK (fun v=>xy) trivial
      ·exact trivial
   | tmp t =>
    rcases vs with _ | ⟨v,r⟩
    ·exact trivial
    ·simp only [opL]
     split
     ·exact fun f=>pR fun xs v=>fun _=>.inl ⟨_,rfl⟩
     ·split
      ·exact Du
      ·exact trivial
   | _=>simp [am] at h
  | invoke r m=>simp [am] at h
 | _=>simp [am] at h
abbrev isUpd (look:Look) (e:Eff):Prop:=∃ i b v,e=.upd i b v/\(look i).isSome=true
theorem Dg {op : Op} (h : am op = .W) (vs : List AV) : (opL E id look op vs).All fun e => e.plain = true → isUpd look e := by
 cases op with
 | store t x y =>
  rcases vs with _ | ⟨v,_ | ⟨v',_ | ⟨v'',r⟩⟩⟩ <;> first | exact trivial | skip
  simp only [opL]
  split
  ·unfold wF
   split
   ·refine aK trivial ?_
    split
    ·rename_i cs xs hrow
     refine dO (fun ps=>?_)
     split
     ·exact fun _=>⟨_,_,_,rfl,by simp [(i6 hrow).1]⟩
     ·exact trivial
    ·exact trivial
   ·refine dO (fun ps=>?_)
    split
    ·rename_i cs hl
     exact aK (fun _=>⟨_,_,_,rfl,by simp [hl]⟩) trivial
    ·exact trivial
   ·refine dO (fun ps=>?_)
    split
    ·refine aK trivial (aK ?_ ?_)
     ·refine dQ fun ys qs ts=>aK ?_ trivial
      exact lQ fun s e=>fun x' hp=>by cases hp
     ·refine dQ fun ys qs ts=>?_
      split
      ·refine aK ?_ trivial
       refine lQ fun s e=>?_
       simp only [Prg.All]
       intro x'
       split
       ·rename_i b hb
        refine fun _=>⟨_,_,_,rfl,?_⟩
        unfold ca at hb
        split at hb
        ·rename_i hl; simp [hl]
        ·cases hb
       ·exact trivial
      ·exact trivial
    ·exact trivial
   ·exact trivial
  ·exact trivial
 | call c =>
  obtain ⟨callee,args,tys⟩:=c
  cases callee with
  | builtin b=>cases b <;> simp [am] at h
  | value f=>cases f <;> simp [am] at h
  | invoke r m=>simp [am] at h
 | _=>simp [am] at h
theorem wU {d:TyD} {s:AV} {news:List (List TV)} {ps:List Prim}:(oE id look d s news ps).All fun e=>e.plain=true->gJ e\/kX e:=by
 unfold oE
 split
 ·exact aK (fun y=>iT) trivial
 ·split
  ·split
   ·split
    ·exact fun y h=>by cases h
    ·exact fun z y x' h=>by cases h
   ·exact trivial
  ·split
   ·split
    ·exact fun z y h=>by cases h
    ·exact fun z0 z y x' h=>by cases h
   ·exact trivial
  ·exact trivial
theorem CN {d:TyD} {dest:Option Nat} {x:AV} {k:List (List TV)->List Prim->Out} (h:∀ xs ps,(k xs ps).All p):(xL look d dest x k).All p:=by
 unfold xL
 split
 ·exact fun xs=>h _ _
 ·split
  ·refine aK ?_ ?_
   ·split
    ·split
     ·split
      ·exact aK trivial (fun xs=>h _ _)
      ·exact fun y=>fun xs=>h _ _
     ·exact trivial
    ·split
     ·split
      ·exact aK trivial (fun y xs=>h _ _)
      ·exact fun z y=>fun xs=>h _ _
     ·exact trivial
    ·exact trivial
   ·exact fm (fun s xs=>h _ _)
  ·exact trivial
theorem cls_P {op:Op} (h:am op=.P) (vs:List AV):(opL E id look op vs).All fun e=>e.plain=true->gJ e\/kX e:=by
 cases op with
 | call c =>
  obtain ⟨callee,args,tys⟩:=c
  cases callee with
  | builtin b =>
   cases b <;> simp [am] at h
   simp only [opL]
   unfold dT
   split <;> try (first | exact trivial | contradiction)
   split
   ·refine aK ?_ ?_
    ·unfold oO
     exact aK (CN (fun xs ps=>wU)) trivial
    ·split
     ·exact trivial
     ·exact trivial
   ·exact trivial
  | value f=>cases f <;> simp [am] at h
  | invoke r m=>simp [am] at h
 | _=>simp [am] at h
theorem uA {op:Op} (h:am op=.N\/am op=.A) (vs:List AV):opL E id look op vs=opL E id look' op vs:=by
 cases op <;> first
  | (rcases vs with _ | ⟨a,_ | ⟨b,_ | ⟨c,_ | ⟨d,r⟩⟩⟩⟩ <;> rfl)
  | (simp [am] at h; done)
  | (rename_i fn _ _; cases fn <;> rfl)
  | (rename_i ok; cases ok <;> rcases vs with _ | ⟨a,_ | ⟨b,r⟩⟩ <;> rfl)
  | skip
 all_goals
  rename_i c
  obtain ⟨callee,args,tys⟩:=c
  cases callee with
  | builtin b=>cases b <;> simp [am] at h
  | value f=>cases f <;> simp [am] at h
  | invoke r m=>simp [am] at h
end
end Go.Ab
end

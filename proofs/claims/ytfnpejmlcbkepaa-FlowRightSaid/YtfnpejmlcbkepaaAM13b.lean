import Derived.Test.YtfnpejmlcbkepaaAM12b
set_option linter.all false
section
namespace Go.Ab
open Go.RowKit
structure gh (P:Program) (G:Laid) (E:Env) (C:Cal):Prop where
 ty:∀ t d,E.T t=some d->aK P t d
 call:vd P G E C
section
variable {P:Program} {E:Env} {C:Cal} {w0:Bs} {w w':World} {I0 I R:Nat->Prop} {g g':Gh} {st st':ASt} {a:Act} {ov:List Value} {look:Look} {Q:Exit->Act->World->Prop} {id:Nat}
theorem zG (hE:gh P w0.G E C) (hlk:∀ i b,look i=some b->st.look i=some b) (hs:ai w0 I0 NoR g st a ov w) {o:Oper} {e:Eff} (hh:(opL E (st.nid o.dst) look o.op (o.op.operands.toList.map st.ev)).hits C e) (ha:e.app st o.dst=some st') :
  Good P w0 I0 ov o st' a w Q:=by
 obtain ⟨dst,op,type,pos,after,guard⟩:=o
 cases op with
 | move x=>exact BE hs hh ha
 | assign x=>exact yc hs hh ha
 | pick c x y=>exact Bh hs hh ha
 | alloc t=>exact zM hE.ty hs hh ha
 | box t x=>exact op_box hE.ty hs hh ha
 | build t parts=>exact zA hE.ty hs hh ha
 | makeFunc fn first cap=>exact vI hs hh ha
 | buildSlice t len parts =>
  simp only [opL] at hh
  cases hc:E.cold t && !(len.beq 0) with
  | true=>rw [hc] at hh; exact BV hE.ty hlk hs hh ha
  | false=>rw [hc] at hh; exact r9 hE.ty hlk hs hh ha
 | load t x=>exact BG hE.ty hlk hs hh ha
 | store t x y=>exact Ay hE.ty hlk hs hh ha
 | nilCheck x=>exact vS hs hh ha
 | binOp op xt x y yt=>exact op_bin hE.ty hlk hs hh ha
 | unOp op xt x=>exact op_un hs hh ha
 | convert xt dt x=>exact wy hE.ty hlk hs hh ha
 | makeSlice t x y=>exact uh hE.ty hs hh ha
 | makeInterface t x=>exact op_ifc hE.ty hs hh ha
 | typeAssert x xt t ok=>exact BO hE.ty hs hh ha
 | slice t x lo hi mx=>exact zN hE.ty hlk hs hh ha
 | fieldAddr t x f=>exact tS hE.ty hs hh ha
 | field t x f=>exact Az hE.ty hs hh ha
 | indexAddr t x y=>exact tZ hE.ty hlk hs hh ha
 | index t x y=>exact Ax hE.ty hs hh ha
 | extract x j=>exact wW hs hh ha
 | call c =>
  obtain ⟨callee,args,tys⟩:=c
  cases callee with
  | builtin b =>
   have hops:(Op.call ⟨.builtin b,args,tys⟩).operands.toList=args.toList:=by simp [Op.operands,Call.operands]
   simp only [hops] at hh
   simp only [opL] at hh
   unfold dO at hh
   split at hh
   ·rename_i x ty hargs htys
    obtain ⟨ox,rfl,hox⟩:=list1 hargs
    have:=arr1 htys
    subst this
    split at hh
    ·rename_i d hT
     rw [<- hox] at hh
     exact xc hlk hs (hE.ty _ _ hT) hh ha
    ·exact hh.elim
   ·rename_i s x ty ty' hargs htys
    obtain ⟨os,ox,rfl,hos,hox⟩:=list2 hargs
    have:=arr2 htys
    subst this
    split at hh
    ·rename_i e1 d hel
     cases hb:Nat.beq ty ty' with
     | false =>
      simp only [hb,cond_false] at hh
      split at hh
      ·rename_i hu
       rw [<- hos,<- hox] at hh
       exact rT hE.ty hlk hs hel hu rfl hh ha
      ·exact hh.elim
     | true =>
      simp only [hb,cond_true] at hh
      have:=(ao _ _).1 hb
      subst this
      rw [<- hos,<- hox] at hh
      exact sd hE.ty hlk hs hel hh ha
    ·exact hh.elim
   ·rename_i s x ty ty' hargs htys
    obtain ⟨os,ox,rfl,hos,hox⟩:=list2 hargs
    have:=arr2 htys
    subst this
    split at hh
    ·rename_i e1 d hel
     cases hb:Nat.beq ty ty' with
     | false=>simp [hb,Prg.hits] at hh
     | true =>
      simp only [hb,cond_true] at hh
      have:=(ao _ _).1 hb
      subst this
      rw [<- hos,<- hox] at hh
      exact vi hE.ty hlk hs hel hh ha
    ·exact hh.elim
   ·rename_i s ty hargs htys
    obtain ⟨os,rfl,hos⟩:=list1 hargs
    have:=arr1 htys
    subst this
    split at hh
    ·rename_i e1 d hel
     rw [<- hos] at hh
     exact tY hE.ty hlk hs hel hh ha
    ·exact hh.elim
   ·rename_i x y hargs
    obtain ⟨ox,oy,rfl,hox,hoy⟩:=list2 hargs
    rw [<- hox,<- hoy] at hh
    exact qV hs hh ha
   ·rename_i x y hargs
    obtain ⟨ox,oy,rfl,hox,hoy⟩:=list2 hargs
    rw [<- hox,<- hoy] at hh
    exact qV hs hh ha
   ·exact hh.elim
  | value f =>
   cases f with
   | func f =>
    have hops:(Op.call ⟨.value (.func f),args,tys⟩).operands.toList=.func f :: args.toList:=by simp [Op.operands,Call.operands]
    simp only [hops,List.map_cons] at hh
    exact BM hE.call hE.ty hlk hs hh ha
   | tmp t =>
    have hops:(Op.call ⟨.value (.tmp t),args,tys⟩).operands.toList=.tmp t :: args.toList:=by simp [Op.operands,Call.operands]
    simp only [hops,List.map_cons] at hh
    exact op_dyn hE.call hE.ty hlk hs hh ha
   | _=>simp [opL,Prg.hits] at hh
  | invoke r m=>simp [opL,Prg.hits] at hh
 | _=>simp [opL,Prg.hits] at hh
def AV.nf:AV->AV
 | .one (.t (.lit (.bool b)))=>.bl b
 | .tv (.lit (.bool b))=>.bl b
 | v=>v
def Eff.nfE:Eff->Eff
 | .val v=>.val v.nf
 | .new b v=>.new b v.nf
 | .upd i b v=>.upd i b v.nf
 | .gen ps v=>.gen ps v.nf
def ASt.nfS (st:ASt):ASt:=⟨st.slots.map AV.nf,st.boxes,st.out⟩
theorem aA (v:AV):v.nf=v\/∃ b,v.nf=.bl b/\(v=.one (.t (.lit (.bool b)))\/v=.tv (.lit (.bool b))):=by
 unfold AV.nf
 split
 ·exact .inr ⟨_,rfl,.inl rfl⟩
 ·exact .inr ⟨_,rfl,.inr rfl⟩
 ·exact .inl rfl
theorem tf (v:AV):v.nf.nf=v.nf:=by
 rcases aA v with h | ⟨b,h,_⟩
 ·rw [h,h]
 ·rw [h]; rfl
theorem fS (v:AV):v.nf.tv? = v.tv? := by
 rcases aA v with h | ⟨b,h,rfl | rfl⟩
 ·rw [h]
 ·rfl
 ·rfl
theorem zF {v:AV} {u:Value}:bA w g look v.nf u ↔ bA w g look v u:=by
 rcases aA v with h | ⟨b,h,rfl | rfl⟩
 ·rw [h]
 ·rw [h]
  constructor
  ·intro h'
   have:u=.bool b:=h'
   subst this
   exact ⟨.lit _,rfl⟩
  ·intro h'
   exact bj h'.1
 ·rw [h]
  constructor
  ·intro h'
   have:u=.bool b:=h'
   subst this
   exact .lit _
  ·intro h'
   exact bj h'
theorem lx (v:AV):v.nf.dA=v.dA:=by
 rcases aA v with h | ⟨b,h,rfl | rfl⟩
 ·rw [h]
 ·rw [h]; rfl
 ·rw [h]; rfl
theorem bW (e:Eff):cZ e.nfE=cZ e:=by cases e <;> simp only [Eff.nfE,cZ,lx]
theorem mS (e:Eff):e.nfE.plain=e.plain:=by cases e <;> rfl
theorem vv (base:Nat) (own:List (List Nat × List Nat)) (e:Eff):e.nfE.lZ base own=e.lZ base own:=by cases e <;> rfl
theorem vP {S:Type} {agg:Bool} {n:Nat} {v:AV} {k k':List CA->Prg S} {e:S} (hk:∀ cs,(k cs).hits C e->(k' cs).hits C e) (h:(v.aQ agg n k).hits C e):(v.aQ agg n k').hits C e:=by
 unfold AV.aQ at h ⊢
 split at h
 ·rename_i c
  cases hc:c.kept with
  | true=>rw [hc] at h; exact hk _ h
  | false=>rw [hc] at h; exact h.elim
 ·exact ⟨h.1,hk _ h.2⟩
 ·exact hk _ h
 ·exact hk _ h
 ·rename_i cs
  cases hc:cs.length.beq n with
  | true=>rw [hc] at h; exact hk _ h
  | false=>rw [hc] at h; exact h.elim
 ·exact ⟨h.1,hk _ h.2⟩
 ·exact h.elim
theorem eP {S:Type} {agg:Bool} {n:Nat} {v:AV} {k:List CA->Prg S} {e:S} (h:(v.aQ agg n k).hits C e):(v.nf.aQ agg n k).hits C e:=by
 rcases aA v with h1 | ⟨b,h1,rfl | rfl⟩
 ·rwa [h1]
 ·rw [h1]
  cases agg with
  | false=>exact h
  | true=>exact h.elim
 ·rw [h1]
  cases agg with
  | false=>exact h.2
  | true=>exact (by simp [AV.aQ,TV.isAgg,Prg.hits] at h)
theorem kH {S:Type} {e:S}:∀ {vs:List AV} {k:List CA->Prg S},(jK vs k).hits C e->(jK (vs.map AV.nf) k).hits C e
 | [],k,h=>h
 | x :: vs, k, h => by
  simp only [jK,List.map_cons] at h ⊢
  refine eP ?_
  unfold AV.aQ at h ⊢
  split at h
  ·rename_i c _
   cases hc:c.kept with
   | false=>simp [hc,Prg.hits] at h
   | true=>simp only [hc,cond_true] at h ⊢; exact kH h
  ·exact ⟨h.1,kH h.2⟩
  ·exact kH h
  ·exact kH h
  ·rename_i cs' hb; cases hb
  ·rename_i cs' hb; cases hb
  ·exact h.elim
theorem jk {f:FuncId} {e:Eff}:∀ {vs:List AV} {k:List CA->List CA},(jK vs fun cs=>(.ret (.val (.clo f (k cs))):Out)).hits C e->∃ cs,e=.val (.clo f cs)
 | [],k,h=>⟨_,h.symm⟩
 | x :: vs, k, h => by
  simp only [jK] at h
  unfold AV.aQ at h
  split at h
  ·rename_i c _
   cases hc:c.kept with
   | false=>simp [hc,Prg.hits] at h
   | true=>simp only [hc,cond_true] at h; exact jk (k:=fun cs=>k (_ ++ cs)) h
  ·exact jk (k:=fun cs=>k (_ ++ cs)) h.2
  ·exact jk (k:=fun cs=>k (_ ++ cs)) h
  ·exact jk (k:=fun cs=>k (_ ++ cs)) h
  ·rename_i hb; cases hb
  ·rename_i hb; cases hb
  ·exact h.elim
theorem pP {S:Type} {at_:Nat->Option (Nat × Bool × Nat)} {k:List CA->Prg S} {e:S}:∀ {is:List Nat} {vs:List AV} {cs:List CA},(bI at_ is vs cs k).hits C e->(bI at_ is (vs.map AV.nf) cs k).hits C e
 | [],[],cs,h=>h
 | i :: is, x :: vs, cs, h => by
  simp only [bI,List.map_cons] at h ⊢
  split at h
  ·rename_i off agg n hat
   have key:∀ ps,((bif (off + ps.length).ble cs.length && ps.length.beq n then bI at_ is vs (bM cs off ps) k else .fail):Prg S).hits C e->((bif (off + ps.length).ble cs.length && ps.length.beq n then bI at_ is (vs.map AV.nf) (bM cs off ps) k else .fail):Prg S).hits C e:=by
    intro ps hp
    cases hb:(off + ps.length).ble cs.length && ps.length.beq n with
    | false=>simp [hb,Prg.hits] at hp
    | true=>simp only [hb,cond_true] at hp ⊢; exact pP hp
   refine eP ?_
   unfold AV.aQ at h ⊢
   split at h
   ·rename_i c
    cases hc:c.kept with
    | false=>simp [hc,Prg.hits] at h
    | true=>simp only [hc,cond_true] at h ⊢; exact key _ h
   ·exact ⟨h.1,key _ h.2⟩
   ·exact key _ h
   ·exact key _ h
   ·rename_i cs'
    have:=key cs'
    cases hc:cs'.length.beq n with
    | false=>simp [hc,Prg.hits] at h
    | true=>simp only [hc,cond_true] at h this ⊢; exact this h
   ·exact ⟨h.1,key _ h.2⟩
   ·exact h.elim
  ·exact h.elim
 | [],_ :: _,cs,h=>h.elim
 | _ :: _,[],cs,h=>h.elim
theorem ut {S:Type} {v:AV} {k:TV->Prg S}:sf look v.nf k=sf look v k:=by
 rcases aA v with h | ⟨b,h,rfl | rfl⟩
 ·rw [h]
 ·rfl
 ·rfl
theorem Ap {S:Type} {v:AV} {k:TV->Prg S}:rm look v.nf k=rm look v k:=by
 rcases aA v with h | ⟨b,h,rfl | rfl⟩
 ·rw [h]
 ·rfl
 ·rfl
theorem zm {S:Type} {v:AV} {k:TV->List (Nat × Nat)->Prg S}:qP look v.nf k=qP look v k:=by
 rcases aA v with h | ⟨b,h,rfl | rfl⟩
 ·rw [h]
 ·rfl
 ·rfl
theorem i6 {S:Type}:∀ {vs:List AV} {k:List TV->Prg S},lends look (vs.map AV.nf) k=lends look vs k
 | [],k=>rfl
 | v :: vs,k=>by simp only [List.map_cons,lends,Ap,i6]
theorem qJ {S:Type}:∀ {vs:List AV} {k:List TV->List (Nat × Nat)->Prg S},hands look (vs.map AV.nf) k=hands look vs k
 | [],k=>rfl
 | v :: vs,k=>by simp only [List.map_cons,hands,zm,qJ]
theorem zy {E:Env} {id:Nat} {look:Look} {f:FuncId} {ld:eR} (vs:List AV):nE E id look f ld (vs.map AV.nf)=nE E id look f ld vs:=by
 cases vs with
 | nil=>rfl
 | cons v l =>
  rcases aA v with h | ⟨b,h,rfl | rfl⟩
  ·simp only [List.map_cons,h]
   cases v with
   | one c =>
    cases c with
    | ptr i off =>
     cases off with
     | zero=>simp only [nE,qJ]
     | succ n=>rfl
    | _=>rfl
   | _=>rfl
  ·simp only [List.map_cons,h]; rfl
  ·simp only [List.map_cons,h]; rfl
theorem A0 {look:Look} {f:FuncId} {c:Nat × Nat} (vs:List AV):nH look f c (vs.map AV.nf)=nH look f c vs:=by
 cases vs with
 | nil=>rfl
 | cons v l =>
  rcases aA v with h | ⟨b,h,rfl | rfl⟩
  ·simp only [List.map_cons,h]
   cases v with
   | one c =>
    cases c with
    | ptr i off =>
     cases off with
     | zero=>simp only [nH,i6]
     | succ n=>rfl
    | _=>rfl
   | _=>rfl
  ·simp only [List.map_cons,h]; rfl
  ·simp only [List.map_cons,h]; rfl
theorem zZ {look:Look} {f:FuncId} (vs:List AV):kT look f (vs.map AV.nf)=kT look f vs:=by
 cases vs with
 | nil=>rfl
 | cons v l =>
  rcases aA v with h | ⟨b,h,rfl | rfl⟩
  ·simp only [List.map_cons,h]
   cases v with
   | one c=>cases c <;> simp only [kT,i6]
   | _=>rfl
  ·simp only [List.map_cons,h]; rfl
  ·simp only [List.map_cons,h]; rfl
theorem Bk {E:Env} {id:Nat} {look:Look} {f:FuncId} {i:Nat} (vs:List AV):uV E id look f i (vs.map AV.nf)=uV E id look f i vs:=by
 simp only [uV,i6]
theorem BL (d:TyD) (t:TypeId) (v:AV):A5 d t v.nf=A5 d t v:=by
 rcases aA v with h | ⟨b,h,rfl | rfl⟩
 ·rw [h]
 ·rfl
 ·rfl
theorem Aa (d:TyD) (t:TypeId) (v:AV):tB d t v.nf=tB d t v:=by
 simp only [tB,fS]
theorem yD {S:Type} {v:Option AV} {k:Option Nat->Prg S}:fd (v.map AV.nf) k=fd v k:=by
 cases v with
 | none=>rfl
 | some v=>simp only [fd,CG,fS]
theorem sJ (v:AV):qK v.nf=qK v:=by
 rcases aA v with h | ⟨b,h,rfl | rfl⟩
 ·rw [h]
 ·rfl
 ·rfl
theorem xR {S:Type} {d:TyD} {dest:Option Nat} {v:AV} {k:List (List TV)->List Prim->Prg S}:vR look d dest v.nf k=vR look d dest v k:=by
 rcases aA v with h | ⟨b,h,rfl | rfl⟩
 ·rw [h]
 ·rfl
 ·rfl
theorem lv {kd:Kd} {sz:Nat} {x:AV} {lo hi:Option AV}:ie look kd sz x.nf (lo.map AV.nf) (hi.map AV.nf)=ie look kd sz x lo hi:=by
 simp only [ie,fS,yD]
 rcases aA x with h | ⟨b,h,rfl | rfl⟩
 ·rw [h]
  cases lo <;> rfl
 ·rfl
 ·rfl
theorem AS (v:AV):sR v.nf=sR v:=by
 rcases aA v with h | ⟨b,h,rfl | rfl⟩
 ·rw [h]
 ·rfl
 ·rfl
theorem opL_nf {op : Op} {vs : List AV} {e : Eff} (h : (opL E id look op vs).hits C e) : ∃ e', (opL E id look op (vs.map AV.nf)).hits C e' ∧ e'.nfE = e.nfE := by
 cases op with
 | move x =>
  rcases vs with _ | ⟨v,_ | ⟨v',r⟩⟩ <;> first | exact h.elim | skip
  cases h
  exact ⟨_,rfl,by simp [Eff.nfE,tf]⟩
 | assign x =>
  rcases vs with _ | ⟨v,_ | ⟨v',r⟩⟩ <;> first | exact h.elim | skip
  cases h
  exact ⟨_,rfl,by simp [Eff.nfE,tf]⟩
 | pick c x y =>
  rcases vs with _ | ⟨v,_ | ⟨v',_ | ⟨v'',_ | ⟨v3,r⟩⟩⟩⟩ <;> first | exact h.elim | skip
  simp only [opL] at h
  split at h
  ·rename_i b
   cases h
   refine ⟨_,rfl,?_⟩
   cases b <;> simp [Eff.nfE,tf]
  ·rename_i v
   obtain ⟨b,hb,h⟩:=h
   have hv:v=.lit (.bool b):=by
    unfold asBool at hb
    split at hb
    ·cases hb; rfl
    ·cases hb
   subst hv
   rcases h with ⟨rfl,h⟩ | ⟨rfl,h⟩ <;> (cases h; exact ⟨_,rfl,by simp [Eff.nfE,tf]⟩)
  ·rename_i v
   obtain ⟨b,hb,h⟩:=h
   have hv:v=.lit (.bool b):=by
    unfold asBool at hb
    split at hb
    ·cases hb; rfl
    ·cases hb
   subst hv
   rcases h with ⟨rfl,h⟩ | ⟨rfl,h⟩ <;> (cases h; exact ⟨_,rfl,by simp [Eff.nfE,tf]⟩)
  ·exact h.elim
 | alloc t =>
  rcases vs with _ | ⟨v,r⟩ <;> first | exact h.elim | exact ⟨e,h,rfl⟩
 | box t x =>
  rcases vs with _ | ⟨v,_ | ⟨v',r⟩⟩ <;> first | exact h.elim | skip
  refine ⟨e,?_,rfl⟩
  simp only [opL,List.map_cons,List.map_nil] at h ⊢
  split at h
  ·exact eP h
  ·exact h.elim
 | makeFunc fn first cap =>
  cases fn with
  | func f =>
   have:∃ cs,e=.val (.clo f cs):=by
    simp only [opL] at h
    cases hb:first.size.beq 0 with
    | false=>simp [hb,Prg.hits] at h
    | true =>
     simp only [hb,cond_true] at h
     exact jk (k:=fun l=>l) h
   obtain ⟨cs,rfl⟩:=this
   refine ⟨_,?_,rfl⟩
   simp only [opL] at h ⊢
   cases hb:first.size.beq 0 with
   | false=>simp [hb,Prg.hits] at h
   | true=>simp only [hb,cond_true] at h ⊢; exact kH h
  | _=>exact h.elim
 | build t parts =>
  refine ⟨e,?_,rfl⟩
  simp only [opL] at h ⊢
  split at h
  ·rename_i d hd
   cases hb:kF E.T d.kd with
   | false=>simp [hb,Prg.hits] at h
   | true=>simp only [hb,cond_true] at h ⊢; exact pP h
  ·exact h.elim
 | buildSlice t len parts =>
  refine ⟨e,?_,rfl⟩
  simp only [opL] at h ⊢
  cases hc:E.cold t && !(len.beq 0) with
  | true =>
   rw [hc] at h
   simp only [cond_true] at h ⊢
   unfold rq at h ⊢
   split at h
   ·exact pP h
   ·exact h.elim
  | false =>
   rw [hc] at h
   simp only [cond_false] at h ⊢
   unfold gZ at h ⊢
   split at h
   ·exact pP h
   ·exact h.elim
 | load t x =>
  rcases vs with _ | ⟨v,_ | ⟨v',r⟩⟩ <;> first | exact h.elim | skip
  refine ⟨e,?_,rfl⟩
  rcases aA v with h1 | ⟨b,h1,rfl | rfl⟩
  ·simpa only [List.map_cons,List.map_nil,h1] using h
  ·simp only [opL] at h; split at h <;> exact h.elim
  ·simp only [opL] at h; split at h <;> exact h.elim
 | store t x y =>
  rcases vs with _ | ⟨v,_ | ⟨v',_ | ⟨v'',r⟩⟩⟩ <;> first | exact h.elim | skip
  refine ⟨e,?_,rfl⟩
  simp only [opL,List.map_cons,List.map_nil] at h ⊢
  split at h
  ·rcases aA v with h1 | ⟨b,h1,rfl | rfl⟩
   ·rw [h1]
    unfold tX at h ⊢
    split at h
    ·rename_i e0 _ _ i0 off0 len0 n0
     cases hk0:e0.kd.isAgg with
     | true=>rw [hk0] at h; exact h.elim
     | false =>
      rw [hk0] at h
      simp only [cond_false] at h ⊢
      split at h
      ·exact eP h
      ·exact h.elim
    ·exact eP h
    ·exact eP h
    ·exact h.elim
   ·exact h.elim
   ·exact h.elim
  ·exact h.elim
 | nilCheck x =>
  rcases vs with _ | ⟨v,_ | ⟨v',r⟩⟩ <;> first | exact h.elim | skip
  refine ⟨e,?_,rfl⟩
  rcases aA v with h1 | ⟨b,h1,rfl | rfl⟩
  ·simpa only [List.map_cons,List.map_nil,h1] using h
  ·exact h.elim
  ·exact h.elim
 | binOp op xt x y yt =>
  rcases vs with _ | ⟨v,_ | ⟨v',_ | ⟨v'',r⟩⟩⟩ <;> first | exact h.elim | skip
  refine ⟨e,?_,rfl⟩
  simp only [opL,List.map_cons,List.map_nil] at h ⊢
  split at h
  ·unfold BH at h ⊢
   split at h
   ·split at h
    ·exact eP (vP (fun cs h=>eP h) h)
    ·exact h.elim
   ·simp only [BI,AS] at h ⊢
    exact h
   ·simp only [Bc,ut,fS] at h ⊢
    exact h
  ·exact h.elim
 | unOp op xt x =>
  rcases vs with _ | ⟨v,_ | ⟨v',r⟩⟩ <;> first | exact h.elim | skip
  rcases aA v with h1 | ⟨b,h1,h2⟩
  ·refine ⟨e,?_,rfl⟩
   simpa only [List.map_cons,List.map_nil,h1] using h
  ·have hv:∃ t,(opL E id look (.unOp op xt x) [v]).hits C e->(Prg.tv (pun op (.lit (.bool b))) vt).hits C e:=⟨(),by rcases h2 with rfl | rfl <;> intro h <;> cases op <;> exact h⟩
   obtain ⟨_,hv⟩:=hv
   obtain ⟨z,hz,hh⟩:=hv h
   cases op with
   | not =>
    simp only [pun,Cs] at hz
    subst hz
    cases hh
    refine ⟨.val (.bl !b),?_,rfl⟩
    simp only [List.map_cons,List.map_nil,h1]
    rfl
   | _=>simp [pun] at hz
 | convert xt dt x =>
  rcases vs with _ | ⟨v,_ | ⟨v',r⟩⟩ <;> first | exact h.elim | skip
  refine ⟨e,?_,rfl⟩
  simp only [opL,List.map_cons,List.map_nil,xN,fS,ut] at h ⊢
  exact h
 | makeSlice t x y =>
  rcases vs with _ | ⟨v,_ | ⟨v',_ | ⟨v'',r⟩⟩⟩ <;> first | exact h.elim | skip
  refine ⟨e,?_,rfl⟩
  simp only [opL,List.map_cons,List.map_nil,fS] at h ⊢
  exact h
 | slice t x lo hi mx =>
  refine ⟨e,?_,rfl⟩
  cases mx with
  | some m=>rcases vs with _ | ⟨v,r⟩ <;> exact h.elim
  | none =>
   rcases vs with _ | ⟨v,r⟩
   ·exact h.elim
   ·simp only [opL, List.map_cons] at h ⊢
    split at h
    ·rename_i d hT
     split at h
     ·rename_i sz hsz
      cases lo with
      | none =>
       cases hi with
       | none =>
        rcases r with _ | ⟨l,r⟩
        ·have:=lv (look:=look) (kd:=d.kd) (sz:=sz) (x:=v) (lo:=none) (hi:=none)
         simp only [Option.map_none] at this
         simp only [List.map_nil]
         rw [this]; exact h
        ·exact h.elim
       | some hh =>
        rcases r with _ | ⟨l,_ | ⟨l',r⟩⟩
        ·exact h.elim
        ·have:=lv (look:=look) (kd:=d.kd) (sz:=sz) (x:=v) (lo:=none) (hi:=some l)
         simp only [Option.map_none,CG] at this
         simp only [List.map_cons,List.map_nil]
         rw [this]; exact h
        ·exact h.elim
      | some ll =>
       cases hi with
       | none =>
        rcases r with _ | ⟨l,_ | ⟨l',r⟩⟩
        ·exact h.elim
        ·have:=lv (look:=look) (kd:=d.kd) (sz:=sz) (x:=v) (lo:=some l) (hi:=none)
         simp only [Option.map_none,CG] at this
         simp only [List.map_cons,List.map_nil]
         rw [this]; exact h
        ·exact h.elim
       | some hh =>
        rcases r with _ | ⟨l,_ | ⟨l',_ | ⟨l'',r⟩⟩⟩
        ·exact h.elim
        ·exact h.elim
        ·have:=lv (look:=look) (kd:=d.kd) (sz:=sz) (x:=v) (lo:=some l) (hi:=some l')
         simp only [CG] at this
         simp only [List.map_cons,List.map_nil]
         rw [this]; exact h
        ·exact h.elim
     ·exact h.elim
    ·exact h.elim
 | fieldAddr t x f =>
  rcases vs with _ | ⟨v,_ | ⟨v',r⟩⟩ <;> first | exact h.elim | skip
  refine ⟨e,?_,rfl⟩
  rcases aA v with h1 | ⟨b,h1,rfl | rfl⟩
  ·simpa only [List.map_cons,List.map_nil,h1] using h
  ·simp only [opL] at h
   split at h
   ·rename_i hv
    cases hv
    split at h
    ·rename_i n _ _
     cases hb:Nat.blt 0 n <;> simp [hb,CA.add,Prg.hits] at h
    ·exact h.elim
   ·exact h.elim
  ·simp only [opL] at h
   split at h
   ·rename_i hv; cases hv
   ·exact h.elim
 | field t x f =>
  rcases vs with _ | ⟨v,_ | ⟨v',r⟩⟩ <;> first | exact h.elim | skip
  refine ⟨e,?_,rfl⟩
  rcases aA v with h1 | ⟨b,h1,rfl | rfl⟩
  ·simpa only [List.map_cons,List.map_nil,h1] using h
  ·simp only [opL] at h
   split at h
   ·split at h <;> exact h.elim
   ·exact h.elim
  ·simp only [opL] at h
   split at h
   ·split at h
    ·simp [tU,TV.isAgg,Prg.hits] at h
    ·exact h.elim
   ·exact h.elim
 | indexAddr t x y =>
  rcases vs with _ | ⟨v,_ | ⟨v',_ | ⟨v'',r⟩⟩⟩ <;> first | exact h.elim | skip
  refine ⟨e,?_,rfl⟩
  simp only [opL,List.map_cons,List.map_nil] at h ⊢
  split at h
  ·rcases aA v with h1 | ⟨b,h1,rfl | rfl⟩
   ·simp only [h1,ow,fS] at h ⊢; exact h
   ·simp only [ow,fS] at h ⊢; exact h
   ·simp only [ow,fS] at h ⊢; exact h
  ·unfold pT at h ⊢
   rw [fS]
   rcases aA v with h1 | ⟨b,h1,rfl | rfl⟩
   ·rw [h1]; exact h
   ·split at h
    ·split at h <;> first | exact h.elim | (rename_i hx _; cases hx)
    ·exact h.elim
   ·split at h
    ·split at h <;> first | exact h.elim | (rename_i hx _; cases hx)
    ·exact h.elim
 | index t x y =>
  rcases vs with _ | ⟨v,_ | ⟨v',_ | ⟨v'',r⟩⟩⟩ <;> first | exact h.elim | skip
  refine ⟨e,?_,rfl⟩
  simp only [opL,List.map_cons,List.map_nil,fS] at h ⊢
  split at h
  ·exact h
  ·unfold pV at h ⊢
   rw [fS]
   rcases aA v with h1 | ⟨b,h1,rfl | rfl⟩
   ·rw [h1]; exact h
   ·split at h
    ·split at h <;> first | exact h.elim | (rename_i hx _; cases hx)
    ·exact h.elim
   ·split at h
    ·split at h <;> first | exact h.elim | (rename_i hx _; cases hx)
    ·exact h.elim
 | extract x j =>
  rcases vs with _ | ⟨v,_ | ⟨v',r⟩⟩ <;> first | exact h.elim | skip
  refine ⟨e,?_,rfl⟩
  rcases aA v with h1 | ⟨b,h1,rfl | rfl⟩
  ·simpa only [List.map_cons,List.map_nil,h1] using h
  ·exact h.elim
  ·exact h.elim
 | call c =>
  refine ⟨e,?_,rfl⟩
  obtain ⟨callee,args,tys⟩:=c
  cases callee with
  | builtin b =>
   simp only [opL] at h ⊢
   unfold dO at h
   split at h
   ·rename_i x ty htys
    simp only [htys,dO,List.map_cons,List.map_nil]
    split at h
    ·rename_i d hd
     have key:∀ kd,(wi look kd x).hits C e->(wi look kd x.nf).hits C e:=by intro kd; cases kd <;> simp only [wi,ut] <;> exact fun h=>h
     exact key _ h
    ·exact h.elim
   ·rename_i s x ty ty' htys
    simp only [htys,dO,List.map_cons,List.map_nil]
    split at h
    ·rename_i _ d hel
     cases hb:Nat.beq ty ty' with
     | false =>
      simp only [hb,cond_false] at h ⊢
      split at h
      ·rename_i hu
       unfold kJ at h ⊢
       rw [fS]
       rcases aA s with h1 | ⟨b,h1,rfl | rfl⟩
       ·rw [h1]; exact h
       ·exact h
       ·exact h
      ·exact h.elim
     | true =>
      simp only [hb,cond_true] at h ⊢
      unfold mZ at h ⊢
      rw [xR,sJ]
      rcases aA s with h1 | ⟨b,h1,rfl | rfl⟩
      ·rw [h1]; exact h
      ·exact h
      ·exact h
    ·exact h.elim
   ·rename_i s x ty ty' htys
    simp only [htys,dO,List.map_cons,List.map_nil]
    split at h
    ·rename_i _ d hel
     cases hb:Nat.beq ty ty' with
     | false=>simp [hb,Prg.hits] at h
     | true =>
      simp only [hb,cond_true] at h ⊢
      unfold xD at h ⊢
      rw [xR,sJ]
      rcases aA s with h1 | ⟨b,h1,rfl | rfl⟩
      ·rw [h1]; exact h
      ·exact h
      ·exact h
    ·exact h.elim
   ·rename_i s ty htys
    simp only [htys,dO,List.map_cons,List.map_nil]
    split at h
    ·unfold ug at h ⊢
     rcases aA s with h1 | ⟨b,h1,rfl | rfl⟩
     ·rw [h1]; exact h
     ·exfalso
      revert h
      cases Nat.blt 0 _ <;> exact fun h=>h.elim
     ·exfalso
      revert h
      cases Nat.blt 0 _ <;> exact fun h=>h.elim
    ·exact h.elim
   ·simp only [dO,List.map_cons,List.map_nil,vV,fS] at h ⊢
    exact h
   ·simp only [dO,List.map_cons,List.map_nil,vV,fS] at h ⊢
    exact h
   ·exact h.elim
  | value f =>
   cases f with
   | func f =>
    rcases vs with _ | ⟨v,r⟩
    ·exact h.elim
    ·simp only [opL,List.map_cons,lR,i6,qJ,zy,A0,zZ] at h ⊢
     exact h
   | tmp t =>
    rcases vs with _ | ⟨v,r⟩
    ·exact h.elim
    ·simp only [opL,List.map_cons,fS,i6,Bk] at h ⊢
     rcases aA v with h1 | ⟨b,h1,rfl | rfl⟩
     ·rw [h1]; exact h
     ·exact h
     ·exact h
   | _=>exact h.elim
  | invoke r m=>exact h.elim
 | makeInterface t x =>
  rcases vs with _ | ⟨v,_ | ⟨v',r⟩⟩ <;> first | exact h.elim | skip
  refine ⟨e,?_,rfl⟩
  simp only [opL,List.map_cons,List.map_nil,BL] at h ⊢
  exact h
 | typeAssert x xt t ok =>
  rcases vs with _ | ⟨v,_ | ⟨v',r⟩⟩ <;> cases ok <;> first | exact h.elim | skip
  refine ⟨e,?_,rfl⟩
  simp only [opL,List.map_cons,List.map_nil,Aa] at h ⊢
  exact h
 | _=>exact h.elim
theorem ky (st:ASt):st.nfS.look=st.look:=rfl
theorem mO (st:ASt):st.nfS.base=st.base:=rfl
theorem t8 (st:ASt) (d:Option Tmp):st.nfS.nid d=st.nid d:=by cases d <;> rfl
theorem iB (st:ASt) (d:Option Tmp) (v:AV):(st.put d v).nfS=st.nfS.put d v.nf:=by
 cases d with
 | none=>rfl
 | some d=>simp [ASt.nfS,ASt.put,ag,List.map_set]
theorem rJ (st:ASt) (i:Nat) (b:Option BC):(st.ab i b).nfS=st.nfS.ab i b:=rfl
theorem jd (st:ASt) (t:Nat):nth (.one .junk) st.nfS.slots t=(nth (.one .junk) st.slots t).nf:=by
 simp only [ASt.nfS,aI,Cx]
 cases st.slots[t]? <;> rfl
theorem yY (ps:List Nat) (st:ASt) (d:Option Nat) (e:Eff):bU ps st.nfS d e.nfE=bU ps st d e:=by
 unfold bU
 congr 1
 funext k
 cases d with
 | none=>rw [mO,bW]
 | some d=>simp only [mO,bW,jd,lx]
theorem nC (k s:Nat):∀ (l:List AV) (n:Nat),eT k s n (l.map AV.nf)=eT k s n l
 | [],n=>rfl
 | v :: l,n=>by simp only [List.map_cons,eT,lx,nC k s l (n + 1)]
theorem vO {k:Nat} {v:AV} (h:ja k v=true):ja k v.nf=true:=by
 unfold ja at h
 split at h
 ·exact h
 ·cases h
theorem g9 {e:Eff} {i:Nat} {y:TV} (h:jm e=some (i,y)):e=.gen [.drop i 0 [] false,.root i 0 y] (.one (.sref i 0 [])):=by
 unfold jm at h
 split at h
 ·rename_i i' j y' k
  cases hb:i'.beq j && i'.beq k with
  | false=>rw [hb] at h; cases h
  | true =>
   simp only [hb,cond_true,Cs,Prod.mk.injEq] at h
   simp only [Cu] at hb
   obtain ⟨rfl,rfl⟩:=h
   rw [<- (ao _ _).1 hb.1,<- (ao _ _).1 hb.2]
 ·cases h
theorem lS (i:Nat) (y:TV):jm (.gen [.drop i 0 [] false,.root i 0 y] (.one (.sref i 0 [])))=some (i,y):=by
 simp only [jm,(ao i i).2 rfl,Bool.and_self,cond_true]
theorem yn {o:Item} {st:ASt} {e:Eff} (h:cH o st e=true):cH o st.nfS e.nfE=true:=by
 unfold cH at h ⊢
 split at h
 ·rename_i s i y h1 h2
  have:=g9 h2
  subst this
  simp only [Cu] at h
  simp only [h1,Eff.nfE,AV.nf,lS,Cu]
  refine ⟨⟨⟨⟨⟨h.1.1.1.1.1,?_⟩,h.1.1.1.2⟩,?_⟩,h.1.2⟩,h.2⟩
  ·rw [jd]; exact vO h.1.1.1.1.2
  ·rw [show st.nfS.slots=st.slots.map AV.nf from rfl,nC]; exact h.1.1.2
 ·cases h
theorem qR (st:ASt) (x:Operand):st.nfS.ev x=(st.ev x).nf:=by
 cases x with
 | tmp t=>exact jd st t
 | const v =>
  cases v with
  | bool b=>rfl
  | _=>first | rfl | (simp only [ASt.ev]; cases Value.oneCell' _ <;> rfl)
 | global g=>rfl
 | func f=>rfl
theorem qr:∀ (l:List AV),b7 (l.map AV.nf)=b7 l
 | []=>rfl
 | v :: l=>by simp only [List.map_cons,b7,fS,qr l]
theorem jT (e:Eff):gR e.nfE=gR e:=by
 cases e with
 | new b v=>cases b <;> rfl
 | _=>rfl
theorem yp {i:Item} {st:ASt} {e:Eff}:gm i st.nfS e.nfE=gm i st e:=by
 unfold gm
 have:i.o.op.operands.toList.map st.nfS.ev=(i.o.op.operands.toList.map st.ev).map AV.nf:=by
  rw [List.map_map]
  exact List.map_congr_left fun x _=>qR st x
 rw [this,qr,jT,bW]
 rfl
theorem vJ:∀ (l:List AV),fm (l.map AV.nf)=fm l
 | []=>rfl
 | v :: l=>by simp only [List.map_cons,fm,lx,vJ l]
theorem od (e:Eff):la e.nfE=la e:=by cases e <;> rfl
theorem wz (e:Eff):drE e.nfE=drE e:=by cases e <;> rfl
theorem qc (k:Nat) (e:Eff):tK k e.nfE=tK k e:=by cases e <;> rfl
theorem pX (v:AV):(v.nf.bG CA.deep).dA=(v.bG CA.deep).dA:=by
 rcases aA v with h | ⟨b,h,rfl | rfl⟩
 ·rw [h]
 ·rw [h]; rfl
 ·rw [h]; rfl
theorem vH:∀ (l:List AV),fm (bK CA.deep (l.map AV.nf))=fm (bK CA.deep l)
 | []=>rfl
 | v :: l=>by simp only [List.map_cons,bK,fm,pX,vH l]
theorem pq (e:Eff):nn e.nfE=nn e:=by
 cases e with
 | val v=>exact pX v
 | new b v=>exact bW (.new b v)
 | upd i b v=>exact bW (.upd i b v)
 | gen ps v=>exact bW (.gen ps v)
theorem ym {i:Item} {st:ASt} {e:Eff}:bY i st.nfS e.nfE=bY i st e:=by
 unfold bY
 simp only [od,wz,qc]
 rfl
theorem yw {i:Item} {st:ASt} {e:Eff}:cM i st.nfS e.nfE=cM i st e:=by
 unfold cM
 have hd:∀ d b,iw st.nfS d b=iw st d b:=fun d b=>by
  cases d with
  | none=>rfl
  | some d =>
   have:=qR st (.tmp d)
   simp only [ASt.ev] at this
   simp only [iw,this,lx]
 have hd2:∀ d b,fV st.nfS d b=fV st d b:=fun d b=>by
  cases d with
  | none=>rfl
  | some d =>
   have:=qR st (.tmp d)
   simp only [ASt.ev] at this
   simp only [fV,this,pX]
 simp only [hd,hd2,bW,pq]
 have:i.o.op.operands.toList.map st.nfS.ev=(i.o.op.operands.toList.map st.ev).map AV.nf:=by
  rw [List.map_map]
  exact List.map_congr_left fun x _=>qR st x
 rw [this,vJ,vH]
 rfl
theorem okE_nf {i:Item} {st:ASt} {e:Eff} (h:okE i st e=true):okE i st.nfS e.nfE=true:=by
 unfold okE at h ⊢
 rw [Bool.or_eq_true] at h ⊢
 rcases h with h | h
 ·rw [ym]; exact .inl h
 refine .inr ?_
 rw [Bool.or_eq_true] at h ⊢
 rcases h with h | h
 ·rw [mS,vv,mO,yY,yp,yw]; exact .inl h
 ·exact .inr (yn h)
theorem t7 (hs:Sim w0 I0 st a ov w):Sim w0 I0 st.nfS a ov w:=by
 obtain ⟨g,hs⟩:=hs
 refine ⟨g,hs.below,hs.sub,hs.lt,hs.old,by simp [ASt.nfS,hs.len],hs.defers,fun t v hv=>?_,hs.olen,hs.outs,hs.cells,hs.trees,hs.foot,hs.apart,hs.apartR,hs.res,hs.base,hs.out⟩
 simp only [ASt.nfS,Cx] at hv
 cases hsl:st.slots[t]? with
 | none=>simp [hsl] at hv
 | some u =>
  simp only [hsl,CG,Cs] at hv
  subst hv
  exact zF.2 (hs.slots t u hsl)
theorem d6 (hs:Sim w0 I0 st.nfS a ov w):Sim w0 I0 st a ov w:=by
 obtain ⟨g,hs⟩:=hs
 refine ⟨g,hs.below,hs.sub,hs.lt,hs.old,by have:=hs.len; simpa [ASt.nfS] using this,hs.defers,fun t v hv=>?_,hs.olen,hs.outs,hs.cells,hs.trees,hs.foot,hs.apart,hs.apartR,hs.res,hs.base,hs.out⟩
 exact zF.1 (hs.slots t v.nf (by simp [ASt.nfS,hv]))
theorem nF (i r:Nat) (js:List Nat) (b:Bool) (v:AV):(v.bG (CA.drop i r js b)).nf=v.nf.bG (CA.drop i r js b):=by
 rcases aA v with h | ⟨b,h,rfl | rfl⟩
 ·rw [h]
  cases v with
  | one c =>
   have key:∀ c:CA,c.drop i r js b=c\/c.drop i r js b=.junk:=fun c=>by
    rcases eo i r js b c with ⟨h,_⟩ | h
    ·exact .inl h
    ·exact .inr h
   simp only [AV.bG]
   rcases key c with h' | h'
   ·rw [h',h]
   ·rw [h']; rfl
  | tv x=>exact h
  | _=>rfl
 ·rfl
 ·rfl
theorem zR (st:ASt) (i r:Nat) (js:List Nat) (b:Bool):(st.aq (CA.drop i r js b)).nfS=st.nfS.aq (CA.drop i r js b):=by
 simp only [ASt.nfS,ASt.aq]
 congr 1
 apply List.ext_getElem?
 intro t
 simp only [Cx,lh]
 cases st.slots[t]? with
 | none=>rfl
 | some v=>simp [nF]
theorem pC (i:Nat) (v:AV):(v.bG (CA.unM i)).nf=v.nf.bG (CA.unM i):=by
 cases v with
 | one c =>
  cases c with
  | t x =>
   cases x with
   | lit u=>cases u <;> rfl
   | _=>rfl
  | may j ty =>
   simp only [AV.bG,CA.unM,AV.nf]
   cases j.beq i <;> rfl
  | _=>rfl
 | tv x =>
  cases x with
  | lit u=>cases u <;> rfl
  | _=>rfl
 | _=>rfl
theorem Ba (st:ASt) (i:Nat):(st.aq (CA.unM i)).nfS=st.nfS.aq (CA.unM i):=by
 simp only [ASt.aq,ASt.nfS]
 congr 1
 induction st.slots with
 | nil=>rfl
 | cons v l ih=>simp only [bK,List.map_cons,pC,ih]
theorem sr {i:Nat} {b:BC} (h:st.bg i b=some st'):st.nfS.bg i b=some st'.nfS:=by
 obtain ⟨h1,h2,rfl⟩:=a9 h
 have h2':i.blt st.nfS.boxes.length=true:=by simpa [ASt.nfS] using h2
 simp only [ASt.bg,ky,h1,h2',cond_true,rJ]
theorem pe {d:Option Tmp}:∀ {ps:List Prim} {st st':ASt},ac d ps st=some st'->ac d ps st.nfS=some st'.nfS
 | [],st,st',h=>by simp only [ac,Cs] at h; subst h; rfl
 | p :: ps, st, st', h => by
  simp only [ac] at h ⊢
  cases h1:p.app st d with
  | none=>simp [h1] at h
  | some s1 =>
   simp only [h1] at h
   have:p.app st.nfS d=some s1.nfS:=by
    cases p with
    | drop i r js b =>
     simp only [Prim.app,Cs] at h1 ⊢
     subst h1
     rw [zR]
    | root i r x =>
     simp only [Prim.app,ky] at h1 ⊢
     split at h1
     ·rename_i b hb
      simp only [Cs] at h1
      subst h1
      rfl
     ·cases h1
    | frz i r =>
     simp only [Prim.app,ky] at h1 ⊢
     split at h1
     ·rename_i x hx
      split at h1
      ·rename_i b hb
       simp only [Cs] at h1
       subst h1
       rfl
      ·cases h1
     ·cases h1
    | unmay i =>
     simp only [Prim.app,Cs] at h1 ⊢
     subst h1
     rw [Ba]
    | newB b =>
     cases d with
     | none=>simp [Prim.app] at h1
     | some d =>
      simp only [Prim.app] at h1 ⊢
      rw [t8]
      exact sr h1
    | setB i cs =>
     simp only [Prim.app,ky] at h1 ⊢
     split at h1
     ·simp only [Cs] at h1
      subst h1
      rfl
     ·cases h1
   rw [this]
   exact pe h
theorem app_nf {e:Eff} {d:Option Tmp} (h:e.app st d=some st'):e.nfE.app st.nfS d=some st'.nfS:=by
 cases e with
 | val v =>
  simp only [Eff.app,Eff.nfE,Cs] at h ⊢
  subst h
  rw [iB]
 | new b v =>
  cases d with
  | none=>simp [Eff.app] at h
  | some d =>
   simp only [Eff.app,Eff.nfE] at h ⊢
   rw [t8]
   split at h
   ·rename_i s1 hs1
    simp only [Cs] at h
    subst h
    rw [sr hs1]
    simp only [iB]
   ·cases h
 | upd i b v =>
  simp only [Eff.app,Eff.nfE,Cs] at h ⊢
  subst h
  rw [iB,rJ]
 | gen ps v =>
  simp only [Eff.app,Eff.nfE] at h ⊢
  split at h
  ·rename_i s1 hs1
   simp only [Cs] at h
   subst h
   rw [pe hs1]
   simp only [iB]
  ·cases h
theorem jM {d:Option Tmp} {v:AV} (hs:Sim w0 I0 (st.put d v) a ov w):Sim w0 I0 (st.put d v.nf) a ov w:=by
 apply d6
 have:=t7 hs
 rw [iB] at this ⊢
 rwa [tf]
theorem xO {e:Eff} {d:Option Tmp} (h:e.nfE.app st d=some st'):∃ st1,e.app st d=some st1/\∀ w0 I0 a ov w,Sim w0 I0 st1 a ov w->Sim w0 I0 st' a ov w:=by
 cases e with
 | val v =>
  simp only [Eff.app,Eff.nfE,Cs] at h ⊢
  subst h
  exact ⟨_,rfl,fun w0 I0 a ov w hs=>jM hs⟩
 | new b v =>
  cases d with
  | none=>simp [Eff.app,Eff.nfE] at h
  | some d =>
   simp only [Eff.app,Eff.nfE] at h ⊢
   split at h
   ·rename_i s1 hs1
    simp only [Cs] at h
    subst h
    exact ⟨_,rfl,fun w0 I0 a ov w hs=>jM hs⟩
   ·cases h
 | upd i b v =>
  simp only [Eff.app,Eff.nfE,Cs] at h ⊢
  subst h
  exact ⟨_,rfl,fun w0 I0 a ov w hs=>jM hs⟩
 | gen ps v =>
  simp only [Eff.app,Eff.nfE] at h ⊢
  split at h
  ·rename_i s1 hs1
   simp only [Cs] at h
   subst h
   exact ⟨_,rfl,fun w0 I0 a ov w hs=>jM hs⟩
  ·cases h
end
end Go.Ab
end
section
namespace Go.Ab
open Go.RowKit
def Prg.All {R:Type} (p:R->Prop):Prg R->Prop
 | .fail=>True
 | .ret e=>p e
 | .tv _ k=>∀ v,(k v).All p
 | .tvs _ k=>∀ v,(k v).All p
 | .rws _ k=>∀ v,(k v).All p
 | .nat _ k=>∀ v,(k v).All p
 | .chk _ k=>k.All p
 | .ite _ t e=>t.All p/\e.All p
 | .call _ _ k=>∀ v,(k v).All p
 | .jmp _ _=>True
theorem Prg.All.hits {R:Type} {C:Cal} {p:R->Prop} {e:R}:∀ {o:Prg R},o.All p->o.hits C e->p e
 | .ret e',h,h'=>by cases h'; exact h
 | .tv _ k,h,⟨v,_,h'⟩=>(h v).hits h'
 | .tvs _ k,h,⟨v,_,h'⟩=>(h v).hits h'
 | .rws _ k,h,⟨v,_,h'⟩=>(h v).hits h'
 | .nat _ k,h,⟨v,_,h'⟩=>(h v).hits h'
 | .chk _ k,h,⟨_,h'⟩=>Prg.All.hits (o:=k) h h'
 | .ite _ t e,h,⟨v,_,.inl ⟨_,h'⟩⟩=>Prg.All.hits (o:=t) h.1 h'
 | .ite _ t e,h,⟨v,_,.inr ⟨_,h'⟩⟩=>Prg.All.hits (o:=e) h.2 h'
 | .call _ _ k,h,⟨v,_,h'⟩=>(h v).hits h'
section
variable {E:Env} {look look':Look} {p:Eff->Prop} {id:Nat}
theorem aC {b:Bool} {x y:Out} (hx:x.All p) (hy:y.All p):(bif b then x else y).All p:=by cases b <;> assumption
theorem iq {q:Way} {x:TV} {k:TV->Out} (h:∀ y,(k y).All p):(mC q x k).All p:=by
 unfold mC
 split
 ·exact h _
 ·exact h
theorem fg {c:CA} {k:TV->Out} (h:∀ y,(k y).All p):(ii look c k).All p:=by
 unfold ii
 split
 ·exact h _
 ·split
  ·exact iq h
  ·exact trivial
 ·split
  ·exact iq fun y z=>h z
  ·exact trivial
 ·exact trivial
theorem nb {v:AV} {k:TV->Out} (h:∀ y,(k y).All p):(sf look v k).All p:=by
 unfold sf
 split
 ·exact fg h
 ·exact h _
 ·exact h _
 ·exact trivial
theorem su {c:CA} {k:TV->Out} (h:∀ y,(k y).All p):(rN look c k).All p:=by
 unfold rN
 split
 ·exact h _
 ·exact fg fun y=>h _
 ·exact fg fun y=>h _
 ·exact trivial
theorem tL {k:List TV->Out}:∀ {cs:List CA} {k:List TV->Out},(∀ y,(k y).All p)->(x7 look cs k).All p
 | [],k,h=>h _
 | c :: cs,k,h=>su fun y=>tL (k:=fun _=>.fail) fun ys=>h _
theorem yM {v:AV} {k:TV->Out} (h:∀ y,(k y).All p):(rm look v k).All p:=by
 unfold rm
 split
 ·exact su h
 ·exact h _
 ·exact tL (k:=fun _=>.fail) fun ys=>h _
 ·exact trivial
 ·exact trivial
 ·exact h _
theorem fy:∀ {vs:List AV} {k:List TV->Out},(∀ y,(k y).All p)->(lends look vs k).All p
 | [],k,h=>h _
 | v :: vs,k,h=>yM fun y=>fy fun ys=>h _
theorem tH {c:CA} {k:TV->List (Nat × Nat)->Out} (h:∀ y r,(k y r).All p):(qX look c k).All p:=by
 unfold qX
 split
 ·exact h _ _
 ·split
  ·split
   ·exact h _ _
   ·exact fun y=>h _ _
  ·exact trivial
 ·split
  ·split
   ·exact fun y=>h _ _
   ·exact fun z y=>h _ _
  ·exact trivial
 ·exact trivial
theorem sK:∀ {cs:List CA} {k:List TV->List (Nat × Nat)->Out},(∀ y r,(k y r).All p)->(x6 look cs k).All p
 | [],k,h=>h _ _
 | c :: cs,k,h=>tH fun y r=>sK fun ys rs=>h _ _
theorem zh {v:AV} {k:TV->List (Nat × Nat)->Out} (h:∀ y r,(k y r).All p):(qP look v k).All p:=by
 unfold qP
 split
 ·exact tH h
 ·exact h _ _
 ·exact sK fun ys rs=>h _ _
 ·exact trivial
 ·exact trivial
 ·exact h _ _
theorem oN:∀ {vs:List AV} {k:List TV->List (Nat × Nat)->Out},(∀ y r,(k y r).All p)->(hands look vs k).All p
 | [],k,h=>h _ _
 | v :: vs,k,h=>zh fun y r=>oN fun ys rs=>h _ _
theorem dK:∀ {cs:List CA} {k:List TV->List Prim->List (Nat × Nat)->Out},(∀ y q r,(k y q r).All p)->(cj look cs k).All p
 | [],k,h=>h _ _ _
 | .t x :: l,k,h=>by
  simp only [cj]
  exact dK (cs:=l) fun xs ps ts=>h _ _ _
 | .sref i r q :: l, k, h => by
  simp only [cj]
  split
  ·split
   ·exact dK (cs:=l) fun xs ps ts=>h _ _ _
   ·exact fun y=>dK (cs:=l) fun xs ps ts=>h _ _ _
  ·exact trivial
 | .swin i r q lo len :: l, k, h => by
  simp only [cj]
  split
  ·split
   ·exact fun y=>dK (cs:=l) fun xs ps ts=>h _ _ _
   ·exact fun z y=>dK (cs:=l) fun xs ps ts=>h _ _ _
  ·exact trivial
 | .ptr _ _ :: l,k,h=>trivial
 | .ref _ _ :: l,k,h=>trivial
 | .tptr _ _ _ _ _ :: l,k,h=>trivial
 | .may _ _ :: l,k,h=>trivial
 | .aptr _ _ _ _ :: l,k,h=>trivial
 | .ifp _ _ :: l,k,h=>trivial
 | .fn1 _ _ :: l,k,h=>trivial
 | .yl _ :: l,k,h=>trivial
 | .undef :: l,k,h=>trivial
 | .junk :: l,k,h=>trivial
theorem dH:∀ {cs:List CA} {k:List TV->List Prim->List (Nat × Nat)->Out},(∀ y q r,(k y q r).All p)->(bR look cs k).All p
 | [],k,h=>h _ _ _
 | .t x :: l,k,h=>by
  simp only [bR]
  exact dH (cs:=l) fun xs ps ts=>h _ _ _
 | .sref i r q :: l, k, h => by
  simp only [bR]
  split
  ·split
   ·exact dH (cs:=l) fun xs ps ts=>h _ _ _
   ·exact fun y=>⟨dH (cs:=l) fun xs ps ts=>h _ _ _,fun x'=>dH (cs:=l) fun xs ps ts=>h _ _ _⟩
  ·exact trivial
 | .swin i r q lo len :: l, k, h => by
  simp only [bR]
  split
  ·split
   ·exact fun y=>dH (cs:=l) fun xs ps ts=>h _ _ _
   ·exact fun z y=>dH (cs:=l) fun xs ps ts=>h _ _ _
  ·exact trivial
 | .ptr _ _ :: l,k,h=>trivial
 | .ref _ _ :: l,k,h=>trivial
 | .tptr _ _ _ _ _ :: l,k,h=>trivial
 | .may _ _ :: l,k,h=>trivial
 | .aptr _ _ _ _ :: l,k,h=>trivial
 | .ifp _ _ :: l,k,h=>trivial
 | .fn1 _ _ :: l,k,h=>trivial
 | .yl _ :: l,k,h=>trivial
 | .undef :: l,k,h=>trivial
 | .junk :: l,k,h=>trivial
theorem dQ {agg:Bool} {n:Nat} {x:AV} {k:List CA->Out} (h:∀ cs,(k cs).All p):(x.aQ agg n k).All p:=by
 unfold AV.aQ
 split
 ·rename_i c; cases c.kept <;> first | exact trivial | exact h _
 ·exact h _
 ·exact h _
 ·exact h _
 ·rename_i cs; cases cs.length.beq n <;> first | exact trivial | exact h _
 ·exact h _
 ·exact trivial
theorem m6 {at_:Nat->Option (Nat × Bool × Nat)} {k:List CA->Out} (h:∀ cs,(k cs).All p):∀ (is:List Nat) (vs:List AV) (cs:List CA),(bI at_ is vs cs k).All p
 | [],[],cs=>h cs
 | i :: is, x :: vs, cs => by
  simp only [bI]
  split
  ·refine dQ (fun ps=>?_)
   exact aC (m6 h is vs _) trivial
  ·exact trivial
 | [],_ :: _,cs=>trivial
 | _ :: _,[],cs=>trivial
theorem eF {v:Option AV} {k:Option Nat->Out} (h:∀ n,(k n).All p):(fd v k).All p:=by
 unfold fd
 split
 ·exact h _
 ·split
  ·exact fun v=>h _
  ·exact trivial
abbrev cP (e:Eff):Prop:=∃ v,e=.val v
abbrev cS (e:Eff):Prop:=∃ b v,e=.new b v
theorem u9 {d:TyD} {x:List TV} {off:Nat}:(jx d x off).All cP:=by
 unfold jx
 cases d.kd.isAgg
 ·exact ⟨_,rfl⟩
 ·exact ⟨_,rfl⟩
theorem sX:∀ {vs:List AV} {k:List CA->Out},(∀ cs,(k cs).All p)->(jK vs k).All p
 | [],k,h=>h _
 | v :: vs,k,h=>dQ fun cs=>sX fun cs'=>h _
theorem B0 {op:Op} (h:ak op=.N) (vs:List AV):(opL E id look op vs).All cP:=by
 cases op with
 | move x=>rcases vs with _ | ⟨v,_ | ⟨v',r⟩⟩ <;> first | exact trivial | exact ⟨_,rfl⟩
 | assign x=>rcases vs with _ | ⟨v,_ | ⟨v',r⟩⟩ <;> first | exact trivial | exact ⟨_,rfl⟩
 | pick c x y =>
  rcases vs with _ | ⟨v,_ | ⟨v',_ | ⟨v'',_ | ⟨v3,r⟩⟩⟩⟩ <;> first | exact trivial | skip
  simp only [opL]
  split <;> first | exact trivial | exact ⟨_,rfl⟩ | exact ⟨⟨_,rfl⟩,⟨_,rfl⟩⟩
 | build t parts =>
  simp only [opL]
  split
  ·refine aC ?_ trivial
   refine m6 ?_ _ _ _
   exact fun cs=>⟨_,rfl⟩
  ·exact trivial
 | nilCheck x =>
  rcases vs with _ | ⟨v,_ | ⟨v',r⟩⟩ <;> first | exact trivial | skip
  simp only [opL]
  split <;> first | exact trivial | exact ⟨_,rfl⟩
 | unOp op xt x =>
  rcases vs with _ | ⟨v,_ | ⟨v',r⟩⟩ <;> first | exact trivial | skip
  simp only [opL]
  split
  ·exact ⟨_,rfl⟩
  ·split
   ·exact fun v=>⟨_,rfl⟩
   ·exact trivial
 | fieldAddr t x f =>
  rcases vs with _ | ⟨v,_ | ⟨v',r⟩⟩ <;> first | exact trivial | skip
  simp only [opL]
  split
  ·split
   ·refine aC ?_ trivial
    split <;> first | exact trivial | exact ⟨_,rfl⟩
   ·exact trivial
  ·exact trivial
 | field t x f =>
  rcases vs with _ | ⟨v,_ | ⟨v',r⟩⟩ <;> first | exact trivial | skip
  simp only [opL]
  split
  ·split
   ·unfold tU
    split
    ·split
     ·split <;> first | exact trivial | exact ⟨_,rfl⟩
     ·exact trivial
    ·exact ⟨_,rfl⟩
    ·exact trivial
   ·exact trivial
  ·exact trivial
 | index t x y =>
  rcases vs with _ | ⟨v,_ | ⟨v',_ | ⟨v'',r⟩⟩⟩ <;> first | exact trivial | skip
  simp only [opL]
  split
  ·exact fun v=>⟨_,rfl⟩
  ·unfold pV
   split
   ·split
    ·refine aC ?_ trivial
     split
     ·exact fun k v=>⟨_,rfl⟩
     ·exact trivial
    ·exact trivial
   ·exact trivial
 | extract x j =>
  rcases vs with _ | ⟨v,_ | ⟨v',r⟩⟩ <;> first | exact trivial | skip
  simp only [opL]
  split
  ·split
   ·split <;> first | exact trivial | exact ⟨_,rfl⟩
   ·exact trivial
  ·exact trivial
 | makeFunc fn first cap =>
  cases fn with
  | func f =>
   simp only [opL]
   exact aC (sX fun cs=>⟨_,rfl⟩) trivial
  | _=>exact trivial
 | call c =>
  obtain ⟨callee,args,tys⟩:=c
  cases callee with
  | builtin b=>cases b <;> simp [ak] at h
  | value f=>cases f <;> simp [ak] at h
  | invoke r m=>simp [ak] at h
 | makeInterface t x =>
  rcases vs with _ | ⟨v,_ | ⟨v',r⟩⟩ <;> first | exact trivial | skip
  simp only [opL]
  split
  ·unfold A5
   refine aC ?_ trivial
   split
   ·exact ⟨_,rfl⟩
   ·split
    ·exact fun v=>⟨_,rfl⟩
    ·exact trivial
  ·exact trivial
 | typeAssert x xt t ok =>
  rcases vs with _ | ⟨v,_ | ⟨v',r⟩⟩ <;> cases ok <;> first | exact trivial | skip
  simp only [opL]
  split
  ·unfold tB
   refine aC ?_ trivial
   split
   ·exact fun v=>⟨_,rfl⟩
   ·exact trivial
  ·exact trivial
 | _=>simp [ak] at h
theorem zL {op:Op} (h:ak op=.R) (vs:List AV):(opL E id look op vs).All cP:=by
 cases op with
 | load t x =>
  rcases vs with _ | ⟨v,_ | ⟨v',r⟩⟩ <;> first | exact trivial | skip
  simp only [opL]
  split
  ·unfold xH
   split
   ·refine aC trivial ?_
    split
    ·exact fun v=>⟨_,rfl⟩
    ·exact trivial
   ·split
    ·split
     ·split
      ·exact ⟨_,rfl⟩
      ·exact trivial
     ·exact trivial
    ·exact trivial
   ·exact u9
   ·split
    ·refine iq (fun s e=>?_)
     simp only [Prg.All]
     split
     ·exact ⟨_,rfl⟩
     ·exact trivial
    ·exact trivial
   ·exact trivial
  ·exact trivial
 | convert xt dt x =>
  rcases vs with _ | ⟨v,_ | ⟨v',r⟩⟩ <;> first | exact trivial | skip
  simp only [opL]
  split
  ·unfold xN
   split
   ·split
    ·exact aC (nb fun y=>fun rows=>fun v=>⟨_,rfl⟩) trivial
    ·exact trivial
   ·split
    ·exact fun v=>⟨_,rfl⟩
    ·exact trivial
  ·exact trivial
 | binOp op xt x y yt =>
  rcases vs with _ | ⟨v,_ | ⟨v',_ | ⟨v'',r⟩⟩⟩ <;> first | exact trivial | skip
  simp only [opL]
  split
  ·unfold BH
   split
   ·split
    ·refine dQ fun cs=>dQ fun cs'=>?_
     split
     ·exact fun v=>⟨_,rfl⟩
     ·exact trivial
    ·exact trivial
   ·unfold BI
    split
    ·exact ⟨_,rfl⟩
    ·exact ⟨_,rfl⟩
    ·exact trivial
   unfold Bc
   refine aC (nb fun x=>nb fun y=>fun v=>⟨_,rfl⟩) ?_
   split
   ·exact fun v=>⟨_,rfl⟩
   ·exact trivial
  ·exact trivial
 | slice t x lo hi mx =>
  have sl:∀ {kd:Kd} {sz:Nat} {x:AV} {lo hi:Option AV},(ie look kd sz x lo hi).All cP:=by
   intro kd sz x lo hi
   unfold ie
   split
   ·exact eF fun lo=>eF fun hi=>fun v=>⟨_,rfl⟩
   ·split
    ·exact fg fun s n=>eF fun lo=>eF fun hi=>⟨_,rfl⟩
    ·split
     ·exact fg fun s=>eF fun hi=>⟨_,rfl⟩
     ·exact fg fun s=>eF fun lo=>eF fun hi=>⟨_,rfl⟩
    ·exact trivial
  cases mx with
  | some m=>rcases vs with _ | ⟨v,r⟩ <;> exact trivial
  | none =>
   rcases vs with _ | ⟨v,r⟩
   ·exact trivial
   ·simp only [opL]
    split
    ·split
     ·split <;> first | exact trivial | exact sl
     ·exact trivial
    ·exact trivial
 | indexAddr t x y =>
  rcases vs with _ | ⟨v,_ | ⟨v',_ | ⟨v'',r⟩⟩⟩ <;> first | exact trivial | skip
  simp only [opL]
  split
  ·unfold ow
   split
   ·split
    ·exact fun v=>⟨_,rfl⟩
    ·split
     ·exact fg fun s n k=>⟨_,rfl⟩
     ·exact fg fun s k=>⟨_,rfl⟩
     ·exact trivial
   ·exact trivial
  ·unfold pT
   split
   ·split
    ·exact aC (fun k=>⟨_,rfl⟩) trivial
    ·exact trivial
   ·exact trivial
 | call c =>
  obtain ⟨callee,args,tys⟩:=c
  cases callee with
  | builtin b =>
   have mn:∀ {mx:Bool} {x y:AV},(vV mx x y).All cP:=by
    intro mx x y
    unfold vV
    split
    ·exact fun v=>⟨_,rfl⟩
    ·exact trivial
   cases b <;> simp [ak] at h
   all_goals simp only [opL]
   all_goals unfold dO
   all_goals split <;> first | exact trivial | exact mn | contradiction | skip
   split
   ·unfold wi
    split
    ·exact ⟨_,rfl⟩
    ·exact nb fun s v=>⟨_,rfl⟩
   ·exact trivial
  | value f=>cases f <;> simp [ak] at h
  | invoke r m=>simp [ak] at h
 | _=>simp [ak] at h
theorem cls_A {op:Op} (h:ak op=.A) (vs:List AV):(opL E id look op vs).All cS:=by
 cases op with
 | alloc t =>
  rcases vs with _ | ⟨v,r⟩ <;> first | exact trivial | skip
  simp only [opL]
  split
  ·exact ⟨_,_,rfl⟩
  ·exact trivial
 | box t x =>
  rcases vs with _ | ⟨v,_ | ⟨v',r⟩⟩ <;> first | exact trivial | skip
  simp only [opL]
  split
  ·exact dQ (fun cs=>⟨_,_,rfl⟩)
  ·exact trivial
 | makeSlice t x y =>
  rcases vs with _ | ⟨v,_ | ⟨v',_ | ⟨v'',r⟩⟩⟩ <;> first | exact trivial | skip
  simp only [opL]
  split
  ·refine aC ?_ trivial
   exact fun n m=>⟨_,_,rfl⟩
  ·exact trivial
 | call c =>
  obtain ⟨callee,args,tys⟩:=c
  cases callee with
  | builtin b=>cases b <;> simp [ak] at h
  | value f=>cases f <;> simp [ak] at h
  | invoke r m=>simp [ak] at h
 | _=>simp [ak] at h
theorem iD {ps:List Prim} {b:BC} {v:AV}:(ct ps b v).plain=true->cP (ct ps b v)\/cS (ct ps b v):=by
 cases ps with
 | nil=>exact fun _=>.inr ⟨_,_,rfl⟩
 | cons q l=>exact fun h=>by cases h
theorem tD {ps:List Prim} {v:AV}:(match ps with | []=>Eff.val v | _=>.gen ps v).plain=true->cP (match ps with | []=>Eff.val v | _=>.gen ps v)\/cS (match ps with | []=>Eff.val v | _=>.gen ps v):=by
 cases ps with
 | nil=>exact fun _=>.inl ⟨_,rfl⟩
 | cons q l=>exact fun h=>by cases h
theorem jR {d:TyD} {x:TV} {k:Out} (h:k.All p):(iM d x k).All p:=by
 unfold iM
 exact aC h h
theorem pB {x:TV} {k:Out} (h:k.All p):∀ (ds:List TyD) (j:Nat),(fK x ds j k).All p
 | [],j=>h
 | d :: ds,j=>jR (pB h ds (j + 1))
theorem qW {ds:List TyD} {v:TV} {ps:List Prim}:(sg id ds v ps).All fun e=>e.plain=true->cP e\/cS e:=by
 have many:∀ ds:List TyD,(Prg.chk (v.isTup ds.length) (fK v ds 0 (bif gk ds then .ret (ct ps (.tree (ba v ds 0)) (.tups (dp id v ds 0 0)))
   else .ret (match ps with | []=>.val (.tups (dp id v ds 0 0)) | _=>.gen ps (.tups (dp id v ds 0 0)))))).All fun e=>e.plain=true->cP e\/cS e:=by
  intro ds
  refine pB ?_ ds 0
  exact aC iD tD
 match ds with
 | []=>exact many []
 | [d] =>
  simp only [sg]
  refine jR ?_
  split
  ·exact aC iD tD
  ·exact trivial
 | d :: d' :: l=>exact many _
theorem Ag {ds:List TyD} {v:TV} {k:AV->Out} {p:Eff->Prop} (h:∀ av,(k av).All p):(Al id ds v k).All p:=by
 have some:∀ (ds:List TyD) (j:Nat) (k:Out),k.All p->(fK v ds j k).All p:=by
  intro ds
  induction ds with
  | nil=>intro j k h; exact h
  | cons d ds ih=>intro j k h; exact jR (ih (j + 1) k h)
 unfold Al
 split
 ·refine jR ?_
  split
  ·exact h _
  ·exact trivial
 ·exact some _ 0 _ (h _)
theorem yd {f:FuncId} {ld:eR} {vs:List AV}:(nE E id look f ld vs).All fun e=>e.plain=true->cP e\/cS e:=by
 unfold nE
 split
 ·split
  ·refine aC trivial ?_
   exact oN fun xs rs=>dK fun ys qs ts=>aC (fun v=>Ag fun av=>fun h=>by simp [Eff.plain] at h) trivial
  ·exact trivial
 ·exact trivial
theorem yz {f:FuncId} {c:Nat × Nat} {vs:List AV}:(nH look f c vs).All fun e=>e.plain=true->cP e\/cS e:=by
 unfold nH
 split
 ·split
  ·split
   ·exact aC (fy fun xs=>fun v=>fun _=>.inl ⟨_,rfl⟩) trivial
   ·exact trivial
  ·exact trivial
 ·exact trivial
theorem sC {p:Eff->Prop} {q:Way} {x y:TV} {k:TV->Out} (h:∀ y,(k y).All p):(vk q x y k).All p:=by
 unfold vk
 split
 ·exact h _
 ·exact fun v=>h _
theorem yK {f:FuncId} {vs:List AV}:(kT look f vs).All fun e=>e.plain=true->cP e\/cS e:=by
 unfold kT
 split
 ·split
  ·exact iq fun z=>fy fun xs=>fun v=>fun y=>sC fun x'=>fun h=>by cases h
  ·exact trivial
 ·split
  ·exact iq fun z=>fun z1=>fy fun xs=>fun v=>fun y=>sC fun x'=>fun h=>by cases h
  ·exact trivial
 ·exact trivial
theorem AP {f:FuncId} {i:Nat} {vs:List AV}:(uV E id look f i vs).All fun e=>e.plain=true->cP e\/cS e:=by
 unfold uV
 refine aC ?_ trivial
 split
 ·split
  ·exact fy fun xs=>fun v=>qW
  ·exact trivial
 ·exact trivial
theorem cls_B {op:Op} (h:ak op=.B) (vs:List AV):(opL E id look op vs).All fun e=>e.plain=true->cP e\/cS e:=by
 cases op with
 | buildSlice t len parts =>
  simp only [opL]
  refine aC ?_ ?_
  ·unfold rq
   split
   ·refine m6 (fun cs=>?_) _ _ _
    split
    ·exact aC (fun _=>.inr ⟨_,_,rfl⟩) trivial
    ·exact trivial
   ·exact trivial
  unfold gZ
  split
  ·refine m6 (fun cs=>?_) _ _ _
   refine dH fun ys qs ts=>?_
   exact aC iD trivial
  ·exact trivial
 | call c =>
  obtain ⟨callee,args,tys⟩:=c
  cases callee with
  | builtin b=>cases b <;> simp [ak] at h
  | value f =>
   cases f with
   | func f =>
    rcases vs with _ | ⟨v,r⟩
    ·exact trivial
    ·simp only [opL,lR]
     refine aC yK (aC trivial ?_)
     split
     ·exact yz
     split
     ·exact yd
     ·split
      ·refine aC ?_ ?_
       ·exact fy fun xs=>fun v=>qW
       ·exact oN fun xs rs=>aC (fun v=>qW) trivial
      ·exact trivial
   | tmp t =>
    rcases vs with _ | ⟨v,r⟩
    ·exact trivial
    ·simp only [opL]
     split
     ·exact fun f=>fy fun xs v=>fun _=>.inl ⟨_,rfl⟩
     ·split
      ·exact AP
      ·exact trivial
   | _=>simp [ak] at h
  | invoke r m=>simp [ak] at h
 | _=>simp [ak] at h
abbrev isUpd (look:Look) (e:Eff):Prop:=∃ i b v,e=.upd i b v/\(look i).isSome=true
theorem A4 {op : Op} (h : ak op = .W) (vs : List AV) : (opL E id look op vs).All fun e => e.plain = true → isUpd look e := by
 cases op with
 | store t x y =>
  rcases vs with _ | ⟨v,_ | ⟨v',_ | ⟨v'',r⟩⟩⟩ <;> first | exact trivial | skip
  simp only [opL]
  split
  ·unfold tX
   split
   ·refine aC trivial ?_
    split
    ·rename_i cs xs hrow
     refine dQ (fun ps=>?_)
     split
     ·exact fun _=>⟨_,_,_,rfl,by simp [(iC hrow).1]⟩
     ·exact trivial
    ·exact trivial
   ·refine dQ (fun ps=>?_)
    split
    ·rename_i cs hl
     exact aC (fun _=>⟨_,_,_,rfl,by simp [hl]⟩) trivial
    ·exact trivial
   ·refine dQ (fun ps=>?_)
    split
    ·refine aC trivial (aC ?_ ?_)
     ·refine dK fun ys qs ts=>aC ?_ trivial
      exact iq fun s e=>fun x' hp=>by cases hp
     ·refine dK fun ys qs ts=>?_
      split
      ·refine aC ?_ trivial
       refine iq fun s e=>?_
       simp only [Prg.All]
       intro x'
       split
       ·rename_i b hb
        refine fun _=>⟨_,_,_,rfl,?_⟩
        unfold bQ at hb
        split at hb
        ·rename_i hl; simp [hl]
        ·cases hb
       ·exact trivial
      ·exact trivial
    ·exact trivial
   ·exact trivial
  ·exact trivial
 | call c =>
  obtain ⟨callee,args,tys⟩:=c
  cases callee with
  | builtin b=>cases b <;> simp [ak] at h
  | value f=>cases f <;> simp [ak] at h
  | invoke r m=>simp [ak] at h
 | _=>simp [ak] at h
theorem pm {d:TyD} {s:AV} {news:List (List TV)} {ps:List Prim}:(li id look d s news ps).All fun e=>e.plain=true->cP e\/cS e:=by
 unfold li
 split
 ·exact aC (fun y=>iD) trivial
 ·split
  ·split
   ·split
    ·exact fun y h=>by cases h
    ·exact fun z y x' h=>by cases h
   ·exact trivial
  ·split
   ·split
    ·exact fun z y h=>by cases h
    ·exact fun z0 z y x' h=>by cases h
   ·exact trivial
  ·exact trivial
theorem A3 {d:TyD} {dest:Option Nat} {x:AV} {k:List (List TV)->List Prim->Out} (h:∀ xs ps,(k xs ps).All p):(vR look d dest x k).All p:=by
 unfold vR
 split
 ·exact fun xs=>h _ _
 ·split
  ·refine aC ?_ ?_
   ·split
    ·split
     ·split
      ·exact aC trivial (fun xs=>h _ _)
      ·exact fun y=>fun xs=>h _ _
     ·exact trivial
    ·split
     ·split
      ·exact aC trivial (fun y xs=>h _ _)
      ·exact fun z y=>fun xs=>h _ _
     ·exact trivial
    ·exact trivial
   ·exact fg (fun s xs=>h _ _)
  ·exact trivial
theorem cls_P {op:Op} (h:ak op=.P) (vs:List AV):(opL E id look op vs).All fun e=>e.plain=true->cP e\/cS e:=by
 cases op with
 | call c =>
  obtain ⟨callee,args,tys⟩:=c
  cases callee with
  | builtin b =>
   cases b <;> simp [ak] at h
   simp only [opL]
   unfold dO
   split <;> try (first | exact trivial | contradiction)
   split
   ·refine aC ?_ ?_
    ·unfold mZ
     exact aC (A3 (fun xs ps=>pm)) trivial
    ·split
     ·unfold kJ
      refine aC ?_ trivial
      split
      ·exact fun news=>pm
      ·exact trivial
     ·exact trivial
   ·exact trivial
  | value f=>cases f <;> simp [ak] at h
  | invoke r m=>simp [ak] at h
 | _=>simp [ak] at h
theorem sN {op:Op} (h:ak op=.N\/ak op=.A) (vs:List AV):opL E id look op vs=opL E id look' op vs:=by
 cases op <;> first
  | (rcases vs with _ | ⟨a,_ | ⟨b,_ | ⟨c,_ | ⟨d,r⟩⟩⟩⟩ <;> rfl)
  | (simp [ak] at h; done)
  | (rename_i fn _ _; cases fn <;> rfl)
  | (rename_i ok; cases ok <;> rcases vs with _ | ⟨a,_ | ⟨b,r⟩⟩ <;> rfl)
  | skip
 all_goals
  rename_i c
  obtain ⟨callee,args,tys⟩:=c
  cases callee with
  | builtin b=>cases b <;> simp [ak] at h
  | value f=>cases f <;> simp [ak] at h
  | invoke r m=>simp [ak] at h
end
end Go.Ab
end

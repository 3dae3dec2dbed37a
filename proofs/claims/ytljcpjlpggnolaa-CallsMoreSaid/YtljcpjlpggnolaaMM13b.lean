import Derived.Test.YtljcpjlpggnolaaMM12b
section
namespace Go.Ab
open Go.RowKit
set_option linter.unusedVariables false
structure EnvOk (P:Program) (G:Laid) (E:Env) (C:Cal):Prop where
 ty:∀ t d,E.T t=some d→TyOk P t d
 call:CalOk P G E C
section
variable {P:Program} {E:Env} {C:Cal} {w0:Bs} {w w':World} {I0 I R:Nat→Prop} {g g':Gh} {st st':ASt} {a:Act} {ov:List Value} {look:Look} {Q:Exit→Act→World→Prop} {id:Nat}
theorem op_sound (hE:EnvOk P w0.G E C) (hlk:∀ i b,look i=some b→st.look i=some b) (hs:SimI w0 I0 NoR g st a ov w) {o:Oper} {e:Eff} (hh:(opL E (st.nid o.dst) look o.op (o.op.operands.toList.map st.ev)).hits C e) (ha:e.app st o.dst=some st') :
  Good P w0 I0 ov o st' a w Q:=by
 obtain ⟨dst,op,type,pos,after,guard⟩:=o
 cases op with
 | move x=>exact op_move hs hh ha
 | assign x=>exact op_assign hs hh ha
 | pick c x y=>exact op_pick hs hh ha
 | alloc t=>exact op_alloc hE.ty hs hh ha
 | box t x=>exact op_box hE.ty hs hh ha
 | build t parts=>exact op_build hE.ty hs hh ha
 | makeFunc fn first cap=>exact op_makeFunc hs hh ha
 | buildSlice t len parts =>
  simp only [opL] at hh
  cases hc:E.cold t && !(len.beq 0) with
  | true=>rw [hc] at hh; exact op_cold hE.ty hlk hs hh ha
  | false=>rw [hc] at hh; exact op_buildSlice hE.ty hlk hs hh ha
 | load t x=>exact op_load hE.ty hlk hs hh ha
 | store t x y=>exact op_store hE.ty hlk hs hh ha
 | nilCheck x=>exact op_nilCheck hs hh ha
 | binOp op xt x y yt=>exact op_bin hE.ty hlk hs hh ha
 | unOp op xt x=>exact op_un hs hh ha
 | convert xt dt x=>exact op_convert hE.ty hlk hs hh ha
 | makeSlice t x y=>exact op_makeSlice hE.ty hs hh ha
 | makeInterface t x=>exact op_ifc hE.ty hs hh ha
 | typeAssert x xt t ok=>exact op_asrt hE.ty hs hh ha
 | slice t x lo hi mx=>exact op_slice hE.ty hlk hs hh ha
 | fieldAddr t x f=>exact op_fieldAddr hE.ty hs hh ha
 | field t x f=>exact op_field hE.ty hs hh ha
 | indexAddr t x y=>exact op_indexAddr hE.ty hlk hs hh ha
 | index t x y=>exact op_index hE.ty hs hh ha
 | extract x j=>exact op_extract hs hh ha
 | call c =>
  obtain ⟨callee,args,tys⟩:=c
  cases callee with
  | builtin b =>
   have hops:(Op.call ⟨.builtin b,args,tys⟩).operands.toList=args.toList:=by simp [Op.operands,Call.operands]
   simp only [hops] at hh
   simp only [opL] at hh
   unfold builtinO at hh
   split at hh
   ·rename_i x ty hargs htys
    obtain ⟨ox,rfl,hox⟩:=list1 hargs
    have:=arr1 htys
    subst this
    split at hh
    ·rename_i d hT
     rw [← hox] at hh
     exact lenO_sound hlk hs (hE.ty _ _ hT) hh ha
    ·exact hh.elim
   ·rename_i s x ty ty' hargs htys
    obtain ⟨os,ox,rfl,hos,hox⟩:=list2 hargs
    have:=arr2 htys
    subst this
    split at hh
    ·rename_i e1 d hel
     cases hb:Nat.beq ty ty' with
     | false =>
      simp only [hb,cond_false] at hh
      split at hh
      ·rename_i hu
       rw [← hos,← hox] at hh
       exact appendSO_sound hE.ty hlk hs hel hu rfl hh ha
      ·exact hh.elim
     | true =>
      simp only [hb,cond_true] at hh
      have:=(beq_iff _ _).1 hb
      subst this
      rw [← hos,← hox] at hh
      exact appendO_sound hE.ty hlk hs hel hh ha
    ·exact hh.elim
   ·rename_i s x ty ty' hargs htys
    obtain ⟨os,ox,rfl,hos,hox⟩:=list2 hargs
    have:=arr2 htys
    subst this
    split at hh
    ·rename_i e1 d hel
     cases hb:Nat.beq ty ty' with
     | false=>simp [hb,Prg.hits] at hh
     | true =>
      simp only [hb,cond_true] at hh
      have:=(beq_iff _ _).1 hb
      subst this
      rw [← hos,← hox] at hh
      exact copyO_sound hE.ty hlk hs hel hh ha
    ·exact hh.elim
   ·rename_i s ty hargs htys
    obtain ⟨os,rfl,hos⟩:=list1 hargs
    have:=arr1 htys
    subst this
    split at hh
    ·rename_i e1 d hel
     rw [← hos] at hh
     exact clearO_sound hE.ty hlk hs hel hh ha
    ·exact hh.elim
   ·rename_i x y hargs
    obtain ⟨ox,oy,rfl,hox,hoy⟩:=list2 hargs
    rw [← hox,← hoy] at hh
    exact minO_sound hs hh ha
   ·rename_i x y hargs
    obtain ⟨ox,oy,rfl,hox,hoy⟩:=list2 hargs
    rw [← hox,← hoy] at hh
    exact minO_sound hs hh ha
   ·exact hh.elim
  | value f =>
   cases f with
   | func f =>
    have hops:(Op.call ⟨.value (.func f),args,tys⟩).operands.toList=.func f :: args.toList:=by simp [Op.operands,Call.operands]
    simp only [hops,List.map_cons] at hh
    exact op_call hE.call hE.ty hlk hs hh ha
   | tmp t =>
    have hops:(Op.call ⟨.value (.tmp t),args,tys⟩).operands.toList=.tmp t :: args.toList:=by simp [Op.operands,Call.operands]
    simp only [hops,List.map_cons] at hh
    exact op_dyn hE.call hE.ty hlk hs hh ha
   | _=>simp [opL,Prg.hits] at hh
  | invoke r m=>simp [opL,Prg.hits] at hh
 | _=>simp [opL,Prg.hits] at hh
def AV.nf:AV→AV
 | .one (.t (.lit (.bool b)))=>.bl b
 | .tv (.lit (.bool b))=>.bl b
 | v=>v
def Eff.nfE:Eff→Eff
 | .val v=>.val v.nf
 | .new b v=>.new b v.nf
 | .upd i b v=>.upd i b v.nf
 | .gen ps v=>.gen ps v.nf
def ASt.nfS (st:ASt):ASt:=⟨st.slots.map AV.nf,st.boxes,st.out⟩
theorem nf_cases (v:AV):v.nf=v∨∃ b,v.nf=.bl b∧(v=.one (.t (.lit (.bool b)))∨v=.tv (.lit (.bool b))):=by
 unfold AV.nf
 split
 ·exact .inr ⟨_,rfl,.inl rfl⟩
 ·exact .inr ⟨_,rfl,.inr rfl⟩
 ·exact .inl rfl
theorem nf_nf (v:AV):v.nf.nf=v.nf:=by
 rcases nf_cases v with h | ⟨b,h,_⟩
 ·rw [h,h]
 ·rw [h]; rfl
theorem nf_tv (v:AV):v.nf.tv? = v.tv? := by
 rcases nf_cases v with h | ⟨b,h,rfl | rfl⟩
 ·rw [h]
 ·rfl
 ·rfl
theorem nf_rep {v:AV} {u:Value}:RepA w g look v.nf u ↔ RepA w g look v u:=by
 rcases nf_cases v with h | ⟨b,h,rfl | rfl⟩
 ·rw [h]
 ·rw [h]
  constructor
  ·intro h'
   have:u=.bool b:=h'
   subst this
   exact ⟨.lit _,rfl⟩
  ·intro h'
   exact rep_lit h'.1
 ·rw [h]
  constructor
  ·intro h'
   have:u=.bool b:=h'
   subst this
   exact .lit _
  ·intro h'
   exact rep_lit h'
theorem refA_nf (v:AV):v.nf.refA=v.refA:=by
 rcases nf_cases v with h | ⟨b,h,rfl | rfl⟩
 ·rw [h]
 ·rw [h]; rfl
 ·rw [h]; rfl
theorem effRefs_nf (e:Eff):effRefs e.nfE=effRefs e:=by cases e <;> simp only [Eff.nfE,effRefs,refA_nf]
theorem plain_nf (e:Eff):e.nfE.plain=e.plain:=by cases e <;> rfl
theorem inOwn_nf (base:Nat) (own:List (List Nat × List Nat)) (e:Eff):e.nfE.inOwn base own=e.inOwn base own:=by cases e <;> rfl
theorem cellsO_mono {S:Type} {agg:Bool} {n:Nat} {v:AV} {k k':List CA→Prg S} {e:S} (hk:∀ cs,(k cs).hits C e→(k' cs).hits C e) (h:(v.cellsO agg n k).hits C e):(v.cellsO agg n k').hits C e:=by
 unfold AV.cellsO at h ⊢
 split at h
 ·rename_i c
  cases hc:c.kept with
  | true=>rw [hc] at h; exact hk _ h
  | false=>rw [hc] at h; exact h.elim
 ·exact ⟨h.1,hk _ h.2⟩
 ·exact hk _ h
 ·exact hk _ h
 ·rename_i cs
  cases hc:cs.length.beq n with
  | true=>rw [hc] at h; exact hk _ h
  | false=>rw [hc] at h; exact h.elim
 ·exact ⟨h.1,hk _ h.2⟩
 ·exact h.elim
theorem cellsO_nf {S:Type} {agg:Bool} {n:Nat} {v:AV} {k:List CA→Prg S} {e:S} (h:(v.cellsO agg n k).hits C e):(v.nf.cellsO agg n k).hits C e:=by
 rcases nf_cases v with h1 | ⟨b,h1,rfl | rfl⟩
 ·rwa [h1]
 ·rw [h1]
  cases agg with
  | false=>exact h
  | true=>exact h.elim
 ·rw [h1]
  cases agg with
  | false=>exact h.2
  | true=>exact (by simp [AV.cellsO,TV.isAgg,Prg.hits] at h)
theorem catch_nf {S:Type} {e:S}:∀ {vs:List AV} {k:List CA→Prg S},(catchO vs k).hits C e→(catchO (vs.map AV.nf) k).hits C e
 | [],k,h=>h
 | x :: vs, k, h => by
  simp only [catchO,List.map_cons] at h ⊢
  refine cellsO_nf ?_
  unfold AV.cellsO at h ⊢
  split at h
  ·rename_i c _
   cases hc:c.kept with
   | false=>simp [hc,Prg.hits] at h
   | true=>simp only [hc,cond_true] at h ⊢; exact catch_nf h
  ·exact ⟨h.1,catch_nf h.2⟩
  ·exact catch_nf h
  ·exact catch_nf h
  ·rename_i cs' hb; cases hb
  ·rename_i cs' hb; cases hb
  ·exact h.elim
theorem catch_val {f:FuncId} {e:Eff}:∀ {vs:List AV} {k:List CA→List CA},(catchO vs fun cs=>(.ret (.val (.clo f (k cs))):Out)).hits C e→∃ cs,e=.val (.clo f cs)
 | [],k,h=>⟨_,h.symm⟩
 | x :: vs, k, h => by
  simp only [catchO] at h
  unfold AV.cellsO at h
  split at h
  ·rename_i c _
   cases hc:c.kept with
   | false=>simp [hc,Prg.hits] at h
   | true=>simp only [hc,cond_true] at h; exact catch_val (k:=fun cs=>k (_ ++ cs)) h
  ·exact catch_val (k:=fun cs=>k (_ ++ cs)) h.2
  ·exact catch_val (k:=fun cs=>k (_ ++ cs)) h
  ·exact catch_val (k:=fun cs=>k (_ ++ cs)) h
  ·rename_i hb; cases hb
  ·rename_i hb; cases hb
  ·exact h.elim
theorem fill_nf {S:Type} {at_:Nat→Option (Nat × Bool × Nat)} {k:List CA→Prg S} {e:S}:∀ {is:List Nat} {vs:List AV} {cs:List CA},(fillParts at_ is vs cs k).hits C e→(fillParts at_ is (vs.map AV.nf) cs k).hits C e
 | [],[],cs,h=>h
 | i :: is, x :: vs, cs, h => by
  simp only [fillParts,List.map_cons] at h ⊢
  split at h
  ·rename_i off agg n hat
   have key:∀ ps,((bif (off + ps.length).ble cs.length && ps.length.beq n then fillParts at_ is vs (setCells cs off ps) k else .fail):Prg S).hits C e→((bif (off + ps.length).ble cs.length && ps.length.beq n then fillParts at_ is (vs.map AV.nf) (setCells cs off ps) k else .fail):Prg S).hits C e:=by
    intro ps hp
    cases hb:(off + ps.length).ble cs.length && ps.length.beq n with
    | false=>simp [hb,Prg.hits] at hp
    | true=>simp only [hb,cond_true] at hp ⊢; exact fill_nf hp
   refine cellsO_nf ?_
   unfold AV.cellsO at h ⊢
   split at h
   ·rename_i c
    cases hc:c.kept with
    | false=>simp [hc,Prg.hits] at h
    | true=>simp only [hc,cond_true] at h ⊢; exact key _ h
   ·exact ⟨h.1,key _ h.2⟩
   ·exact key _ h
   ·exact key _ h
   ·rename_i cs'
    have:=key cs'
    cases hc:cs'.length.beq n with
    | false=>simp [hc,Prg.hits] at h
    | true=>simp only [hc,cond_true] at h this ⊢; exact this h
   ·exact ⟨h.1,key _ h.2⟩
   ·exact h.elim
  ·exact h.elim
 | [],_ :: _,cs,h=>h.elim
 | _ :: _,[],cs,h=>h.elim
theorem resA_nf {S:Type} {v:AV} {k:TV→Prg S}:resA look v.nf k=resA look v k:=by
 rcases nf_cases v with h | ⟨b,h,rfl | rfl⟩
 ·rw [h]
 ·rfl
 ·rfl
theorem lendA_nf {S:Type} {v:AV} {k:TV→Prg S}:lendA look v.nf k=lendA look v k:=by
 rcases nf_cases v with h | ⟨b,h,rfl | rfl⟩
 ·rw [h]
 ·rfl
 ·rfl
theorem handA_nf {S:Type} {v:AV} {k:TV→List (Nat × Nat)→Prg S}:handA look v.nf k=handA look v k:=by
 rcases nf_cases v with h | ⟨b,h,rfl | rfl⟩
 ·rw [h]
 ·rfl
 ·rfl
theorem lends_nf {S:Type}:∀ {vs:List AV} {k:List TV→Prg S},lends look (vs.map AV.nf) k=lends look vs k
 | [],k=>rfl
 | v :: vs,k=>by simp only [List.map_cons,lends,lendA_nf,lends_nf]
theorem hands_nf {S:Type}:∀ {vs:List AV} {k:List TV→List (Nat × Nat)→Prg S},hands look (vs.map AV.nf) k=hands look vs k
 | [],k=>rfl
 | v :: vs,k=>by simp only [List.map_cons,hands,handA_nf,hands_nf]
theorem lentO_nf {E:Env} {id:Nat} {look:Look} {f:FuncId} {ld:LentD} (vs:List AV):lentO E id look f ld (vs.map AV.nf)=lentO E id look f ld vs:=by
 cases vs with
 | nil=>rfl
 | cons v l =>
  rcases nf_cases v with h | ⟨b,h,rfl | rfl⟩
  ·simp only [List.map_cons,h]
   cases v with
   | one c =>
    cases c with
    | ptr i off =>
     cases off with
     | zero=>simp only [lentO,hands_nf]
     | succ n=>rfl
    | _=>rfl
   | _=>rfl
  ·simp only [List.map_cons,h]; rfl
  ·simp only [List.map_cons,h]; rfl
theorem peekO_nf {look:Look} {f:FuncId} {c:Nat × Nat} (vs:List AV):peekO look f c (vs.map AV.nf)=peekO look f c vs:=by
 cases vs with
 | nil=>rfl
 | cons v l =>
  rcases nf_cases v with h | ⟨b,h,rfl | rfl⟩
  ·simp only [List.map_cons,h]
   cases v with
   | one c =>
    cases c with
    | ptr i off =>
     cases off with
     | zero=>simp only [peekO,lends_nf]
     | succ n=>rfl
    | _=>rfl
   | _=>rfl
  ·simp only [List.map_cons,h]; rfl
  ·simp only [List.map_cons,h]; rfl
theorem turnO_nf {look:Look} {f:FuncId} (vs:List AV):turnO look f (vs.map AV.nf)=turnO look f vs:=by
 cases vs with
 | nil=>rfl
 | cons v l =>
  rcases nf_cases v with h | ⟨b,h,rfl | rfl⟩
  ·simp only [List.map_cons,h]
   cases v with
   | one c=>cases c <;> simp only [turnO,lends_nf]
   | _=>rfl
  ·simp only [List.map_cons,h]; rfl
  ·simp only [List.map_cons,h]; rfl
theorem eyeO_nf {E:Env} {id:Nat} {look:Look} {f:FuncId} {i:Nat} (vs:List AV):eyeO E id look f i (vs.map AV.nf)=eyeO E id look f i vs:=by
 simp only [eyeO,lends_nf]
theorem ifcO_nf (d:TyD) (t:TypeId) (v:AV):ifcO d t v.nf=ifcO d t v:=by
 rcases nf_cases v with h | ⟨b,h,rfl | rfl⟩
 ·rw [h]
 ·rfl
 ·rfl
theorem asrtO_nf (d:TyD) (t:TypeId) (v:AV):asrtO d t v.nf=asrtO d t v:=by
 simp only [asrtO,nf_tv]
theorem optNat_nf {S:Type} {v:Option AV} {k:Option Nat→Prg S}:optNat (v.map AV.nf) k=optNat v k:=by
 cases v with
 | none=>rfl
 | some v=>simp only [optNat,Option.map_some,nf_tv]
theorem destOf_nf (v:AV):destOf v.nf=destOf v:=by
 rcases nf_cases v with h | ⟨b,h,rfl | rfl⟩
 ·rw [h]
 ·rfl
 ·rfl
theorem srcO_nf {S:Type} {d:TyD} {dest:Option Nat} {v:AV} {k:List (List TV)→List Prim→Prg S}:srcO look d dest v.nf k=srcO look d dest v k:=by
 rcases nf_cases v with h | ⟨b,h,rfl | rfl⟩
 ·rw [h]
 ·rfl
 ·rfl
theorem sliceO_nf {kd:Kd} {sz:Nat} {x:AV} {lo hi:Option AV}:sliceO look kd sz x.nf (lo.map AV.nf) (hi.map AV.nf)=sliceO look kd sz x lo hi:=by
 simp only [sliceO,nf_tv,optNat_nf]
 rcases nf_cases x with h | ⟨b,h,rfl | rfl⟩
 ·rw [h]
  cases lo <;> rfl
 ·rfl
 ·rfl
theorem ptrOf_nf (v:AV):ptrOf v.nf=ptrOf v:=by
 rcases nf_cases v with h | ⟨b,h,rfl | rfl⟩
 ·rw [h]
 ·rfl
 ·rfl
theorem opL_nf {op : Op} {vs : List AV} {e : Eff} (h : (opL E id look op vs).hits C e) : ∃ e', (opL E id look op (vs.map AV.nf)).hits C e' ∧ e'.nfE = e.nfE := by
 cases op with
 | move x =>
  rcases vs with _ | ⟨v,_ | ⟨v',r⟩⟩ <;> first | exact h.elim | skip
  cases h
  exact ⟨_,rfl,by simp [Eff.nfE,nf_nf]⟩
 | assign x =>
  rcases vs with _ | ⟨v,_ | ⟨v',r⟩⟩ <;> first | exact h.elim | skip
  cases h
  exact ⟨_,rfl,by simp [Eff.nfE,nf_nf]⟩
 | pick c x y =>
  rcases vs with _ | ⟨v,_ | ⟨v',_ | ⟨v'',_ | ⟨v3,r⟩⟩⟩⟩ <;> first | exact h.elim | skip
  simp only [opL] at h
  split at h
  ·rename_i b
   cases h
   refine ⟨_,rfl,?_⟩
   cases b <;> simp [Eff.nfE,nf_nf]
  ·exact h.elim
 | alloc t =>
  rcases vs with _ | ⟨v,r⟩ <;> first | exact h.elim | exact ⟨e,h,rfl⟩
 | box t x =>
  rcases vs with _ | ⟨v,_ | ⟨v',r⟩⟩ <;> first | exact h.elim | skip
  refine ⟨e,?_,rfl⟩
  simp only [opL,List.map_cons,List.map_nil] at h ⊢
  split at h
  ·exact cellsO_nf h
  ·exact h.elim
 | makeFunc fn first cap =>
  cases fn with
  | func f =>
   have:∃ cs,e=.val (.clo f cs):=by
    simp only [opL] at h
    cases hb:first.size.beq 0 with
    | false=>simp [hb,Prg.hits] at h
    | true =>
     simp only [hb,cond_true] at h
     exact catch_val (k:=fun l=>l) h
   obtain ⟨cs,rfl⟩:=this
   refine ⟨_,?_,rfl⟩
   simp only [opL] at h ⊢
   cases hb:first.size.beq 0 with
   | false=>simp [hb,Prg.hits] at h
   | true=>simp only [hb,cond_true] at h ⊢; exact catch_nf h
  | _=>exact h.elim
 | build t parts =>
  refine ⟨e,?_,rfl⟩
  simp only [opL] at h ⊢
  split at h
  ·rename_i d hd
   cases hb:canBuild E.T d.kd with
   | false=>simp [hb,Prg.hits] at h
   | true=>simp only [hb,cond_true] at h ⊢; exact fill_nf h
  ·exact h.elim
 | buildSlice t len parts =>
  refine ⟨e,?_,rfl⟩
  simp only [opL] at h ⊢
  cases hc:E.cold t && !(len.beq 0) with
  | true =>
   rw [hc] at h
   simp only [cond_true] at h ⊢
   unfold coldO at h ⊢
   split at h
   ·exact fill_nf h
   ·exact h.elim
  | false =>
   rw [hc] at h
   simp only [cond_false] at h ⊢
   unfold buildSlO at h ⊢
   split at h
   ·exact fill_nf h
   ·exact h.elim
 | load t x =>
  rcases vs with _ | ⟨v,_ | ⟨v',r⟩⟩ <;> first | exact h.elim | skip
  refine ⟨e,?_,rfl⟩
  rcases nf_cases v with h1 | ⟨b,h1,rfl | rfl⟩
  ·simpa only [List.map_cons,List.map_nil,h1] using h
  ·simp only [opL] at h; split at h <;> exact h.elim
  ·simp only [opL] at h; split at h <;> exact h.elim
 | store t x y =>
  rcases vs with _ | ⟨v,_ | ⟨v',_ | ⟨v'',r⟩⟩⟩ <;> first | exact h.elim | skip
  refine ⟨e,?_,rfl⟩
  simp only [opL,List.map_cons,List.map_nil] at h ⊢
  split at h
  ·rcases nf_cases v with h1 | ⟨b,h1,rfl | rfl⟩
   ·rw [h1]
    unfold storeO at h ⊢
    split at h
    ·rename_i e0 _ _ i0 off0 len0 n0
     cases hk0:e0.kd.isAgg with
     | true=>rw [hk0] at h; exact h.elim
     | false =>
      rw [hk0] at h
      simp only [cond_false] at h ⊢
      split at h
      ·exact cellsO_nf h
      ·exact h.elim
    ·exact cellsO_nf h
    ·exact cellsO_nf h
    ·exact h.elim
   ·exact h.elim
   ·exact h.elim
  ·exact h.elim
 | nilCheck x =>
  rcases vs with _ | ⟨v,_ | ⟨v',r⟩⟩ <;> first | exact h.elim | skip
  refine ⟨e,?_,rfl⟩
  rcases nf_cases v with h1 | ⟨b,h1,rfl | rfl⟩
  ·simpa only [List.map_cons,List.map_nil,h1] using h
  ·exact h.elim
  ·exact h.elim
 | binOp op xt x y yt =>
  rcases vs with _ | ⟨v,_ | ⟨v',_ | ⟨v'',r⟩⟩⟩ <;> first | exact h.elim | skip
  refine ⟨e,?_,rfl⟩
  simp only [opL,List.map_cons,List.map_nil] at h ⊢
  split at h
  ·unfold binT at h ⊢
   split at h
   ·split at h
    ·exact cellsO_nf (cellsO_mono (fun cs h=>cellsO_nf h) h)
    ·exact h.elim
   ·simp only [binP,ptrOf_nf] at h ⊢
    exact h
   ·simp only [binO,resA_nf,nf_tv] at h ⊢
    exact h
  ·exact h.elim
 | unOp op xt x =>
  rcases vs with _ | ⟨v,_ | ⟨v',r⟩⟩ <;> first | exact h.elim | skip
  rcases nf_cases v with h1 | ⟨b,h1,h2⟩
  ·refine ⟨e,?_,rfl⟩
   simpa only [List.map_cons,List.map_nil,h1] using h
  ·have hv:∃ t,(opL E id look (.unOp op xt x) [v]).hits C e→(Prg.tv (pun op (.lit (.bool b))) vt).hits C e:=⟨(),by rcases h2 with rfl | rfl <;> intro h <;> cases op <;> exact h⟩
   obtain ⟨_,hv⟩:=hv
   obtain ⟨z,hz,hh⟩:=hv h
   cases op with
   | not =>
    simp only [pun,Option.some.injEq] at hz
    subst hz
    cases hh
    refine ⟨.val (.bl !b),?_,rfl⟩
    simp only [List.map_cons,List.map_nil,h1]
    rfl
   | _=>simp [pun] at hz
 | convert xt dt x =>
  rcases vs with _ | ⟨v,_ | ⟨v',r⟩⟩ <;> first | exact h.elim | skip
  refine ⟨e,?_,rfl⟩
  simp only [opL,List.map_cons,List.map_nil,convO,nf_tv,resA_nf] at h ⊢
  exact h
 | makeSlice t x y =>
  rcases vs with _ | ⟨v,_ | ⟨v',_ | ⟨v'',r⟩⟩⟩ <;> first | exact h.elim | skip
  refine ⟨e,?_,rfl⟩
  simp only [opL,List.map_cons,List.map_nil,nf_tv] at h ⊢
  exact h
 | slice t x lo hi mx =>
  refine ⟨e,?_,rfl⟩
  cases mx with
  | some m=>rcases vs with _ | ⟨v,r⟩ <;> exact h.elim
  | none =>
   rcases vs with _ | ⟨v,r⟩
   ·exact h.elim
   ·simp only [opL, List.map_cons] at h ⊢
    split at h
    ·rename_i d hT
     split at h
     ·rename_i sz hsz
      cases lo with
      | none =>
       cases hi with
       | none =>
        rcases r with _ | ⟨l,r⟩
        ·have:=sliceO_nf (look:=look) (kd:=d.kd) (sz:=sz) (x:=v) (lo:=none) (hi:=none)
         simp only [Option.map_none] at this
         simp only [List.map_nil]
         rw [this]; exact h
        ·exact h.elim
       | some hh =>
        rcases r with _ | ⟨l,_ | ⟨l',r⟩⟩
        ·exact h.elim
        ·have:=sliceO_nf (look:=look) (kd:=d.kd) (sz:=sz) (x:=v) (lo:=none) (hi:=some l)
         simp only [Option.map_none,Option.map_some] at this
         simp only [List.map_cons,List.map_nil]
         rw [this]; exact h
        ·exact h.elim
      | some ll =>
       cases hi with
       | none =>
        rcases r with _ | ⟨l,_ | ⟨l',r⟩⟩
        ·exact h.elim
        ·have:=sliceO_nf (look:=look) (kd:=d.kd) (sz:=sz) (x:=v) (lo:=some l) (hi:=none)
         simp only [Option.map_none,Option.map_some] at this
         simp only [List.map_cons,List.map_nil]
         rw [this]; exact h
        ·exact h.elim
       | some hh =>
        rcases r with _ | ⟨l,_ | ⟨l',_ | ⟨l'',r⟩⟩⟩
        ·exact h.elim
        ·exact h.elim
        ·have:=sliceO_nf (look:=look) (kd:=d.kd) (sz:=sz) (x:=v) (lo:=some l) (hi:=some l')
         simp only [Option.map_some] at this
         simp only [List.map_cons,List.map_nil]
         rw [this]; exact h
        ·exact h.elim
     ·exact h.elim
    ·exact h.elim
 | fieldAddr t x f =>
  rcases vs with _ | ⟨v,_ | ⟨v',r⟩⟩ <;> first | exact h.elim | skip
  refine ⟨e,?_,rfl⟩
  rcases nf_cases v with h1 | ⟨b,h1,rfl | rfl⟩
  ·simpa only [List.map_cons,List.map_nil,h1] using h
  ·simp only [opL] at h
   split at h
   ·rename_i hv
    cases hv
    split at h
    ·rename_i n _ _
     cases hb:Nat.blt 0 n <;> simp [hb,CA.add,Prg.hits] at h
    ·exact h.elim
   ·exact h.elim
  ·simp only [opL] at h
   split at h
   ·rename_i hv; cases hv
   ·exact h.elim
 | field t x f =>
  rcases vs with _ | ⟨v,_ | ⟨v',r⟩⟩ <;> first | exact h.elim | skip
  refine ⟨e,?_,rfl⟩
  rcases nf_cases v with h1 | ⟨b,h1,rfl | rfl⟩
  ·simpa only [List.map_cons,List.map_nil,h1] using h
  ·simp only [opL] at h
   split at h
   ·split at h <;> exact h.elim
   ·exact h.elim
  ·simp only [opL] at h
   split at h
   ·split at h
    ·simp [fieldO,TV.isAgg,Prg.hits] at h
    ·exact h.elim
   ·exact h.elim
 | indexAddr t x y =>
  rcases vs with _ | ⟨v,_ | ⟨v',_ | ⟨v'',r⟩⟩⟩ <;> first | exact h.elim | skip
  refine ⟨e,?_,rfl⟩
  simp only [opL,List.map_cons,List.map_nil] at h ⊢
  split at h
  ·rcases nf_cases v with h1 | ⟨b,h1,rfl | rfl⟩
   ·simp only [h1,indexO,nf_tv] at h ⊢; exact h
   ·simp only [indexO,nf_tv] at h ⊢; exact h
   ·simp only [indexO,nf_tv] at h ⊢; exact h
  ·unfold arrIdxO at h ⊢
   rw [nf_tv]
   rcases nf_cases v with h1 | ⟨b,h1,rfl | rfl⟩
   ·rw [h1]; exact h
   ·split at h
    ·split at h <;> first | exact h.elim | (rename_i hx _; cases hx)
    ·exact h.elim
   ·split at h
    ·split at h <;> first | exact h.elim | (rename_i hx _; cases hx)
    ·exact h.elim
 | index t x y =>
  rcases vs with _ | ⟨v,_ | ⟨v',_ | ⟨v'',r⟩⟩⟩ <;> first | exact h.elim | skip
  refine ⟨e,?_,rfl⟩
  simp only [opL,List.map_cons,List.map_nil,nf_tv] at h ⊢
  split at h
  ·exact h
  ·unfold arrValO at h ⊢
   rw [nf_tv]
   rcases nf_cases v with h1 | ⟨b,h1,rfl | rfl⟩
   ·rw [h1]; exact h
   ·split at h
    ·split at h <;> first | exact h.elim | (rename_i hx _; cases hx)
    ·exact h.elim
   ·split at h
    ·split at h <;> first | exact h.elim | (rename_i hx _; cases hx)
    ·exact h.elim
 | extract x j =>
  rcases vs with _ | ⟨v,_ | ⟨v',r⟩⟩ <;> first | exact h.elim | skip
  refine ⟨e,?_,rfl⟩
  rcases nf_cases v with h1 | ⟨b,h1,rfl | rfl⟩
  ·simpa only [List.map_cons,List.map_nil,h1] using h
  ·exact h.elim
  ·exact h.elim
 | call c =>
  refine ⟨e,?_,rfl⟩
  obtain ⟨callee,args,tys⟩:=c
  cases callee with
  | builtin b =>
   simp only [opL] at h ⊢
   unfold builtinO at h
   split at h
   ·rename_i x ty htys
    simp only [htys,builtinO,List.map_cons,List.map_nil]
    split at h
    ·rename_i d hd
     have key:∀ kd,(lenO look kd x).hits C e→(lenO look kd x.nf).hits C e:=by intro kd; cases kd <;> simp only [lenO,resA_nf] <;> exact fun h=>h
     exact key _ h
    ·exact h.elim
   ·rename_i s x ty ty' htys
    simp only [htys,builtinO,List.map_cons,List.map_nil]
    split at h
    ·rename_i _ d hel
     cases hb:Nat.beq ty ty' with
     | false =>
      simp only [hb,cond_false] at h ⊢
      split at h
      ·rename_i hu
       unfold appendSO at h ⊢
       rw [nf_tv]
       rcases nf_cases s with h1 | ⟨b,h1,rfl | rfl⟩
       ·rw [h1]; exact h
       ·exact h
       ·exact h
      ·exact h.elim
     | true =>
      simp only [hb,cond_true] at h ⊢
      unfold appendO at h ⊢
      rw [srcO_nf,destOf_nf]
      rcases nf_cases s with h1 | ⟨b,h1,rfl | rfl⟩
      ·rw [h1]; exact h
      ·exact h
      ·exact h
    ·exact h.elim
   ·rename_i s x ty ty' htys
    simp only [htys,builtinO,List.map_cons,List.map_nil]
    split at h
    ·rename_i _ d hel
     cases hb:Nat.beq ty ty' with
     | false=>simp [hb,Prg.hits] at h
     | true =>
      simp only [hb,cond_true] at h ⊢
      unfold copyO at h ⊢
      rw [srcO_nf,destOf_nf]
      rcases nf_cases s with h1 | ⟨b,h1,rfl | rfl⟩
      ·rw [h1]; exact h
      ·exact h
      ·exact h
    ·exact h.elim
   ·rename_i s ty htys
    simp only [htys,builtinO,List.map_cons,List.map_nil]
    split at h
    ·unfold clearO at h ⊢
     rcases nf_cases s with h1 | ⟨b,h1,rfl | rfl⟩
     ·rw [h1]; exact h
     ·exfalso
      revert h
      cases Nat.blt 0 _ <;> exact fun h=>h.elim
     ·exfalso
      revert h
      cases Nat.blt 0 _ <;> exact fun h=>h.elim
    ·exact h.elim
   ·simp only [builtinO,List.map_cons,List.map_nil,minO,nf_tv] at h ⊢
    exact h
   ·simp only [builtinO,List.map_cons,List.map_nil,minO,nf_tv] at h ⊢
    exact h
   ·exact h.elim
  | value f =>
   cases f with
   | func f =>
    rcases vs with _ | ⟨v,r⟩
    ·exact h.elim
    ·simp only [opL,List.map_cons,callO,lends_nf,hands_nf,lentO_nf,peekO_nf,turnO_nf] at h ⊢
     exact h
   | tmp t =>
    rcases vs with _ | ⟨v,r⟩
    ·exact h.elim
    ·simp only [opL,List.map_cons,nf_tv,lends_nf,eyeO_nf] at h ⊢
     rcases nf_cases v with h1 | ⟨b,h1,rfl | rfl⟩
     ·rw [h1]; exact h
     ·exact h
     ·exact h
   | _=>exact h.elim
  | invoke r m=>exact h.elim
 | makeInterface t x =>
  rcases vs with _ | ⟨v,_ | ⟨v',r⟩⟩ <;> first | exact h.elim | skip
  refine ⟨e,?_,rfl⟩
  simp only [opL,List.map_cons,List.map_nil,ifcO_nf] at h ⊢
  exact h
 | typeAssert x xt t ok =>
  rcases vs with _ | ⟨v,_ | ⟨v',r⟩⟩ <;> cases ok <;> first | exact h.elim | skip
  refine ⟨e,?_,rfl⟩
  simp only [opL,List.map_cons,List.map_nil,asrtO_nf] at h ⊢
  exact h
 | _=>exact h.elim
theorem nfS_look (st:ASt):st.nfS.look=st.look:=rfl
theorem nfS_base (st:ASt):st.nfS.base=st.base:=rfl
theorem nfS_nid (st:ASt) (d:Option Tmp):st.nfS.nid d=st.nid d:=by cases d <;> rfl
theorem nfS_put (st:ASt) (d:Option Tmp) (v:AV):(st.put d v).nfS=st.nfS.put d v.nf:=by
 cases d with
 | none=>rfl
 | some d=>simp [ASt.nfS,ASt.put,setNth_eq,List.map_set]
theorem nfS_setBox (st:ASt) (i:Nat) (b:Option BC):(st.setBox i b).nfS=st.nfS.setBox i b:=rfl
theorem nfS_slot (st:ASt) (t:Nat):nth (.one .junk) st.nfS.slots t=(nth (.one .junk) st.slots t).nf:=by
 simp only [ASt.nfS,nth_eq,List.getElem?_map]
 cases st.slots[t]? <;> rfl
theorem cleanE_nf (ps:List Nat) (st:ASt) (d:Option Nat) (e:Eff):cleanE ps st.nfS d e.nfE=cleanE ps st d e:=by
 unfold cleanE
 congr 1
 funext k
 cases d with
 | none=>rw [nfS_base,effRefs_nf]
 | some d=>simp only [nfS_base,effRefs_nf,nfS_slot,refA_nf]
theorem slotsFree_nf (k s:Nat):∀ (l:List AV) (n:Nat),slotsFree k s n (l.map AV.nf)=slotsFree k s n l
 | [],n=>rfl
 | v :: l,n=>by simp only [List.map_cons,slotsFree,refA_nf,slotsFree_nf k s l (n + 1)]
theorem isRootAt_nf {k:Nat} {v:AV} (h:isRootAt k v=true):isRootAt k v.nf=true:=by
 unfold isRootAt at h
 split at h
 ·exact h
 ·cases h
theorem pushParts_some {e:Eff} {i:Nat} {y:TV} (h:pushParts e=some (i,y)):e=.gen [.drop i 0 [] false,.root i 0 y] (.one (.sref i 0 [])):=by
 unfold pushParts at h
 split at h
 ·rename_i i' j y' k
  cases hb:i'.beq j && i'.beq k with
  | false=>rw [hb] at h; cases h
  | true =>
   simp only [hb,cond_true,Option.some.injEq,Prod.mk.injEq] at h
   simp only [Bool.and_eq_true] at hb
   obtain ⟨rfl,rfl⟩:=h
   rw [← (beq_iff _ _).1 hb.1,← (beq_iff _ _).1 hb.2]
 ·cases h
theorem pushParts_gen (i:Nat) (y:TV):pushParts (.gen [.drop i 0 [] false,.root i 0 y] (.one (.sref i 0 [])))=some (i,y):=by
 simp only [pushParts,(beq_iff i i).2 rfl,Bool.and_self,cond_true]
theorem pushOk_nf {o:Item} {st:ASt} {e:Eff} (h:pushOk o st e=true):pushOk o st.nfS e.nfE=true:=by
 unfold pushOk at h ⊢
 split at h
 ·rename_i s i y h1 h2
  have:=pushParts_some h2
  subst this
  simp only [Bool.and_eq_true] at h
  simp only [h1,Eff.nfE,AV.nf,pushParts_gen,Bool.and_eq_true]
  refine ⟨⟨⟨⟨⟨h.1.1.1.1.1,?_⟩,h.1.1.1.2⟩,?_⟩,h.1.2⟩,h.2⟩
  ·rw [nfS_slot]; exact isRootAt_nf h.1.1.1.1.2
  ·rw [show st.nfS.slots=st.slots.map AV.nf from rfl,slotsFree_nf]; exact h.1.1.2
 ·cases h
theorem nfS_ev (st:ASt) (x:Operand):st.nfS.ev x=(st.ev x).nf:=by
 cases x with
 | tmp t=>exact nfS_slot st t
 | const v =>
  cases v with
  | bool b=>rfl
  | _=>first | rfl | (simp only [ASt.ev]; cases Value.oneCell' _ <;> rfl)
 | global g=>rfl
 | func f=>rfl
theorem closedL_nf:∀ (l:List AV),closedL (l.map AV.nf)=closedL l
 | []=>rfl
 | v :: l=>by simp only [List.map_cons,closedL,nf_tv,closedL_nf l]
theorem treeOrVal_nf (e:Eff):treeOrVal e.nfE=treeOrVal e:=by
 cases e with
 | new b v=>cases b <;> rfl
 | _=>rfl
theorem shutOk_nf {i:Item} {st:ASt} {e:Eff}:shutOk i st.nfS e.nfE=shutOk i st e:=by
 unfold shutOk
 have:i.o.op.operands.toList.map st.nfS.ev=(i.o.op.operands.toList.map st.ev).map AV.nf:=by
  rw [List.map_map]
  exact List.map_congr_left fun x _=>nfS_ev st x
 rw [this,closedL_nf,treeOrVal_nf,effRefs_nf]
 rfl
theorem refAs_nf:∀ (l:List AV),refAs (l.map AV.nf)=refAs l
 | []=>rfl
 | v :: l=>by simp only [List.map_cons,refAs,refA_nf,refAs_nf l]
theorem takenE_nf (e:Eff):takenE e.nfE=takenE e:=by cases e <;> rfl
theorem drE_nf (e:Eff):drE e.nfE=drE e:=by cases e <;> rfl
theorem deepE_nf (k:Nat) (e:Eff):deepE k e.nfE=deepE k e:=by cases e <;> rfl
theorem refD_nf (v:AV):(v.nf.mapA CA.deep).refA=(v.mapA CA.deep).refA:=by
 rcases nf_cases v with h | ⟨b,h,rfl | rfl⟩
 ·rw [h]
 ·rw [h]; rfl
 ·rw [h]; rfl
theorem refDs_nf:∀ (l:List AV),refAs (mapAs CA.deep (l.map AV.nf))=refAs (mapAs CA.deep l)
 | []=>rfl
 | v :: l=>by simp only [List.map_cons,mapAs,refAs,refD_nf,refDs_nf l]
theorem effRefsD_nf (e:Eff):effRefsD e.nfE=effRefsD e:=by
 cases e with
 | val v=>exact refD_nf v
 | new b v=>exact effRefs_nf (.new b v)
 | upd i b v=>exact effRefs_nf (.upd i b v)
 | gen ps v=>exact effRefs_nf (.gen ps v)
theorem takeOk_nf {i:Item} {st:ASt} {e:Eff}:takeOk i st.nfS e.nfE=takeOk i st e:=by
 unfold takeOk
 simp only [takenE_nf,drE_nf,deepE_nf]
 rfl
theorem dullOk_nf {i:Item} {st:ASt} {e:Eff}:dullOk i st.nfS e.nfE=dullOk i st e:=by
 unfold dullOk
 have hd:∀ d b,dstFree st.nfS d b=dstFree st d b:=fun d b=>by
  cases d with
  | none=>rfl
  | some d =>
   have:=nfS_ev st (.tmp d)
   simp only [ASt.ev] at this
   simp only [dstFree,this,refA_nf]
 have hd2:∀ d b,dstFreeD st.nfS d b=dstFreeD st d b:=fun d b=>by
  cases d with
  | none=>rfl
  | some d =>
   have:=nfS_ev st (.tmp d)
   simp only [ASt.ev] at this
   simp only [dstFreeD,this,refD_nf]
 simp only [hd,hd2,effRefs_nf,effRefsD_nf]
 have:i.o.op.operands.toList.map st.nfS.ev=(i.o.op.operands.toList.map st.ev).map AV.nf:=by
  rw [List.map_map]
  exact List.map_congr_left fun x _=>nfS_ev st x
 rw [this,refAs_nf,refDs_nf]
 rfl
theorem okE_nf {i:Item} {st:ASt} {e:Eff} (h:okE i st e=true):okE i st.nfS e.nfE=true:=by
 unfold okE at h ⊢
 rw [Bool.or_eq_true] at h ⊢
 rcases h with h | h
 ·rw [takeOk_nf]; exact .inl h
 refine .inr ?_
 rw [Bool.or_eq_true] at h ⊢
 rcases h with h | h
 ·rw [plain_nf,inOwn_nf,nfS_base,cleanE_nf,shutOk_nf,dullOk_nf]; exact .inl h
 ·exact .inr (pushOk_nf h)
theorem sim_nf (hs:Sim w0 I0 st a ov w):Sim w0 I0 st.nfS a ov w:=by
 obtain ⟨g,hs⟩:=hs
 refine ⟨g,hs.below,hs.sub,hs.lt,hs.old,by simp [ASt.nfS,hs.len],hs.defers,fun t v hv=>?_,hs.olen,hs.outs,hs.cells,hs.trees,hs.foot,hs.apart,hs.apartR,hs.res,hs.base,hs.out⟩
 simp only [ASt.nfS,List.getElem?_map] at hv
 cases hsl:st.slots[t]? with
 | none=>simp [hsl] at hv
 | some u =>
  simp only [hsl,Option.map_some,Option.some.injEq] at hv
  subst hv
  exact nf_rep.2 (hs.slots t u hsl)
theorem sim_of_nf (hs:Sim w0 I0 st.nfS a ov w):Sim w0 I0 st a ov w:=by
 obtain ⟨g,hs⟩:=hs
 refine ⟨g,hs.below,hs.sub,hs.lt,hs.old,by have:=hs.len; simpa [ASt.nfS] using this,hs.defers,fun t v hv=>?_,hs.olen,hs.outs,hs.cells,hs.trees,hs.foot,hs.apart,hs.apartR,hs.res,hs.base,hs.out⟩
 exact nf_rep.1 (hs.slots t v.nf (by simp [ASt.nfS,hv]))
theorem drop_mapA_nf (i r:Nat) (js:List Nat) (b:Bool) (v:AV):(v.mapA (CA.drop i r js b)).nf=v.nf.mapA (CA.drop i r js b):=by
 rcases nf_cases v with h | ⟨b,h,rfl | rfl⟩
 ·rw [h]
  cases v with
  | one c =>
   have key:∀ c:CA,c.drop i r js b=c∨c.drop i r js b=.junk:=fun c=>by
    rcases drop_ok i r js b c with ⟨h,_⟩ | h
    ·exact .inl h
    ·exact .inr h
   simp only [AV.mapA]
   rcases key c with h' | h'
   ·rw [h',h]
   ·rw [h']; rfl
  | tv x=>exact h
  | _=>rfl
 ·rfl
 ·rfl
theorem nfS_drop (st:ASt) (i r:Nat) (js:List Nat) (b:Bool):(st.mapS (CA.drop i r js b)).nfS=st.nfS.mapS (CA.drop i r js b):=by
 simp only [ASt.nfS,ASt.mapS]
 congr 1
 apply List.ext_getElem?
 intro t
 simp only [List.getElem?_map,mapAs_get]
 cases st.slots[t]? with
 | none=>rfl
 | some v=>simp [drop_mapA_nf]
theorem unM_mapA_nf (i:Nat) (v:AV):(v.mapA (CA.unM i)).nf=v.nf.mapA (CA.unM i):=by
 cases v with
 | one c =>
  cases c with
  | t x =>
   cases x with
   | lit u=>cases u <;> rfl
   | _=>rfl
  | may j ty =>
   simp only [AV.mapA,CA.unM,AV.nf]
   cases j.beq i <;> rfl
  | _=>rfl
 | tv x =>
  cases x with
  | lit u=>cases u <;> rfl
  | _=>rfl
 | _=>rfl
theorem nfS_unM (st:ASt) (i:Nat):(st.mapS (CA.unM i)).nfS=st.nfS.mapS (CA.unM i):=by
 simp only [ASt.mapS,ASt.nfS]
 congr 1
 induction st.slots with
 | nil=>rfl
 | cons v l ih=>simp only [mapAs,List.map_cons,unM_mapA_nf,ih]
theorem addBox_nf {i:Nat} {b:BC} (h:st.addBox i b=some st'):st.nfS.addBox i b=some st'.nfS:=by
 obtain ⟨h1,h2,rfl⟩:=addBox_some h
 have h2':i.blt st.nfS.boxes.length=true:=by simpa [ASt.nfS] using h2
 simp only [ASt.addBox,nfS_look,h1,h2',cond_true,nfS_setBox]
theorem primsApp_nf {d:Option Tmp}:∀ {ps:List Prim} {st st':ASt},primsApp d ps st=some st'→primsApp d ps st.nfS=some st'.nfS
 | [],st,st',h=>by simp only [primsApp,Option.some.injEq] at h; subst h; rfl
 | p :: ps, st, st', h => by
  simp only [primsApp] at h ⊢
  cases h1:p.app st d with
  | none=>simp [h1] at h
  | some s1 =>
   simp only [h1] at h
   have:p.app st.nfS d=some s1.nfS:=by
    cases p with
    | drop i r js b =>
     simp only [Prim.app,Option.some.injEq] at h1 ⊢
     subst h1
     rw [nfS_drop]
    | root i r x =>
     simp only [Prim.app,nfS_look] at h1 ⊢
     split at h1
     ·rename_i b hb
      simp only [Option.some.injEq] at h1
      subst h1
      rfl
     ·cases h1
    | frz i r =>
     simp only [Prim.app,nfS_look] at h1 ⊢
     split at h1
     ·rename_i x hx
      split at h1
      ·rename_i b hb
       simp only [Option.some.injEq] at h1
       subst h1
       rfl
      ·cases h1
     ·cases h1
    | unmay i =>
     simp only [Prim.app,Option.some.injEq] at h1 ⊢
     subst h1
     rw [nfS_unM]
    | newB b =>
     cases d with
     | none=>simp [Prim.app] at h1
     | some d =>
      simp only [Prim.app] at h1 ⊢
      rw [nfS_nid]
      exact addBox_nf h1
    | setB i cs =>
     simp only [Prim.app,nfS_look] at h1 ⊢
     split at h1
     ·simp only [Option.some.injEq] at h1
      subst h1
      rfl
     ·cases h1
   rw [this]
   exact primsApp_nf h
theorem app_nf {e:Eff} {d:Option Tmp} (h:e.app st d=some st'):e.nfE.app st.nfS d=some st'.nfS:=by
 cases e with
 | val v =>
  simp only [Eff.app,Eff.nfE,Option.some.injEq] at h ⊢
  subst h
  rw [nfS_put]
 | new b v =>
  cases d with
  | none=>simp [Eff.app] at h
  | some d =>
   simp only [Eff.app,Eff.nfE] at h ⊢
   rw [nfS_nid]
   split at h
   ·rename_i s1 hs1
    simp only [Option.some.injEq] at h
    subst h
    rw [addBox_nf hs1]
    simp only [nfS_put]
   ·cases h
 | upd i b v =>
  simp only [Eff.app,Eff.nfE,Option.some.injEq] at h ⊢
  subst h
  rw [nfS_put,nfS_setBox]
 | gen ps v =>
  simp only [Eff.app,Eff.nfE] at h ⊢
  split at h
  ·rename_i s1 hs1
   simp only [Option.some.injEq] at h
   subst h
   rw [primsApp_nf hs1]
   simp only [nfS_put]
  ·cases h
theorem sim_put_nf {d:Option Tmp} {v:AV} (hs:Sim w0 I0 (st.put d v) a ov w):Sim w0 I0 (st.put d v.nf) a ov w:=by
 apply sim_of_nf
 have:=sim_nf hs
 rw [nfS_put] at this ⊢
 rwa [nf_nf]
theorem nfE_app {e:Eff} {d:Option Tmp} (h:e.nfE.app st d=some st'):∃ st1,e.app st d=some st1∧∀ w0 I0 a ov w,Sim w0 I0 st1 a ov w→Sim w0 I0 st' a ov w:=by
 cases e with
 | val v =>
  simp only [Eff.app,Eff.nfE,Option.some.injEq] at h ⊢
  subst h
  exact ⟨_,rfl,fun w0 I0 a ov w hs=>sim_put_nf hs⟩
 | new b v =>
  cases d with
  | none=>simp [Eff.app,Eff.nfE] at h
  | some d =>
   simp only [Eff.app,Eff.nfE] at h ⊢
   split at h
   ·rename_i s1 hs1
    simp only [Option.some.injEq] at h
    subst h
    exact ⟨_,rfl,fun w0 I0 a ov w hs=>sim_put_nf hs⟩
   ·cases h
 | upd i b v =>
  simp only [Eff.app,Eff.nfE,Option.some.injEq] at h ⊢
  subst h
  exact ⟨_,rfl,fun w0 I0 a ov w hs=>sim_put_nf hs⟩
 | gen ps v =>
  simp only [Eff.app,Eff.nfE] at h ⊢
  split at h
  ·rename_i s1 hs1
   simp only [Option.some.injEq] at h
   subst h
   exact ⟨_,rfl,fun w0 I0 a ov w hs=>sim_put_nf hs⟩
  ·cases h
end
end Go.Ab
end
section
namespace Go.Ab
open Go.RowKit
set_option linter.unusedVariables false
def Prg.All {R:Type} (p:R→Prop):Prg R→Prop
 | .fail=>True
 | .ret e=>p e
 | .tv _ k=>∀ v,(k v).All p
 | .tvs _ k=>∀ v,(k v).All p
 | .rws _ k=>∀ v,(k v).All p
 | .nat _ k=>∀ v,(k v).All p
 | .chk _ k=>k.All p
 | .ite _ t e=>t.All p∧e.All p
 | .call _ _ k=>∀ v,(k v).All p
 | .jmp _ _=>True
theorem Prg.All.hits {R:Type} {C:Cal} {p:R→Prop} {e:R}:∀ {o:Prg R},o.All p→o.hits C e→p e
 | .ret e',h,h'=>by cases h'; exact h
 | .tv _ k,h,⟨v,_,h'⟩=>(h v).hits h'
 | .tvs _ k,h,⟨v,_,h'⟩=>(h v).hits h'
 | .rws _ k,h,⟨v,_,h'⟩=>(h v).hits h'
 | .nat _ k,h,⟨v,_,h'⟩=>(h v).hits h'
 | .chk _ k,h,⟨_,h'⟩=>Prg.All.hits (o:=k) h h'
 | .ite _ t e,h,⟨v,_,.inl ⟨_,h'⟩⟩=>Prg.All.hits (o:=t) h.1 h'
 | .ite _ t e,h,⟨v,_,.inr ⟨_,h'⟩⟩=>Prg.All.hits (o:=e) h.2 h'
 | .call _ _ k,h,⟨v,_,h'⟩=>(h v).hits h'
section
variable {E:Env} {look look':Look} {p:Eff→Prop} {id:Nat}
theorem all_bif {b:Bool} {x y:Out} (hx:x.All p) (hy:y.All p):(bif b then x else y).All p:=by cases b <;> assumption
theorem all_getO {q:Way} {x:TV} {k:TV→Out} (h:∀ y,(k y).All p):(getO q x k).All p:=by
 unfold getO
 split
 ·exact h _
 ·exact h
theorem all_resT {c:CA} {k:TV→Out} (h:∀ y,(k y).All p):(resT look c k).All p:=by
 unfold resT
 split
 ·exact h _
 ·split
  ·exact all_getO h
  ·exact trivial
 ·split
  ·exact all_getO fun y z=>h z
  ·exact trivial
 ·exact trivial
theorem all_resA {v:AV} {k:TV→Out} (h:∀ y,(k y).All p):(resA look v k).All p:=by
 unfold resA
 split
 ·exact all_resT h
 ·exact h _
 ·exact h _
 ·exact trivial
theorem all_lendC {c:CA} {k:TV→Out} (h:∀ y,(k y).All p):(lendC look c k).All p:=by
 unfold lendC
 split
 ·exact h _
 ·exact all_resT fun y=>h _
 ·exact all_resT fun y=>h _
 ·exact trivial
theorem all_lendL {k:List TV→Out}:∀ {cs:List CA} {k:List TV→Out},(∀ y,(k y).All p)→(lendL look cs k).All p
 | [],k,h=>h _
 | c :: cs,k,h=>all_lendC fun y=>all_lendL (k:=fun _=>.fail) fun ys=>h _
theorem all_lendA {v:AV} {k:TV→Out} (h:∀ y,(k y).All p):(lendA look v k).All p:=by
 unfold lendA
 split
 ·exact all_lendC h
 ·exact h _
 ·exact all_lendL (k:=fun _=>.fail) fun ys=>h _
 ·exact trivial
 ·exact trivial
 ·exact h _
theorem all_lends:∀ {vs:List AV} {k:List TV→Out},(∀ y,(k y).All p)→(lends look vs k).All p
 | [],k,h=>h _
 | v :: vs,k,h=>all_lendA fun y=>all_lends fun ys=>h _
theorem all_handC {c:CA} {k:TV→List (Nat × Nat)→Out} (h:∀ y r,(k y r).All p):(handC look c k).All p:=by
 unfold handC
 split
 ·exact h _ _
 ·split
  ·split
   ·exact h _ _
   ·exact fun y=>h _ _
  ·exact trivial
 ·split
  ·split
   ·exact fun y=>h _ _
   ·exact fun z y=>h _ _
  ·exact trivial
 ·exact trivial
theorem all_handL:∀ {cs:List CA} {k:List TV→List (Nat × Nat)→Out},(∀ y r,(k y r).All p)→(handL look cs k).All p
 | [],k,h=>h _ _
 | c :: cs,k,h=>all_handC fun y r=>all_handL fun ys rs=>h _ _
theorem all_handA {v:AV} {k:TV→List (Nat × Nat)→Out} (h:∀ y r,(k y r).All p):(handA look v k).All p:=by
 unfold handA
 split
 ·exact all_handC h
 ·exact h _ _
 ·exact all_handL fun ys rs=>h _ _
 ·exact trivial
 ·exact trivial
 ·exact h _ _
theorem all_hands:∀ {vs:List AV} {k:List TV→List (Nat × Nat)→Out},(∀ y r,(k y r).All p)→(hands look vs k).All p
 | [],k,h=>h _ _
 | v :: vs,k,h=>all_handA fun y r=>all_hands fun ys rs=>h _ _
theorem all_gather:∀ {cs:List CA} {k:List TV→List Prim→List (Nat × Nat)→Out},(∀ y q r,(k y q r).All p)→(gatherO look cs k).All p
 | [],k,h=>h _ _ _
 | .t x :: l,k,h=>by
  simp only [gatherO]
  exact all_gather (cs:=l) fun xs ps ts=>h _ _ _
 | .sref i r q :: l, k, h => by
  simp only [gatherO]
  split
  ·split
   ·exact all_gather (cs:=l) fun xs ps ts=>h _ _ _
   ·exact fun y=>all_gather (cs:=l) fun xs ps ts=>h _ _ _
  ·exact trivial
 | .swin i r q lo len :: l, k, h => by
  simp only [gatherO]
  split
  ·split
   ·exact fun y=>all_gather (cs:=l) fun xs ps ts=>h _ _ _
   ·exact fun z y=>all_gather (cs:=l) fun xs ps ts=>h _ _ _
  ·exact trivial
 | .ptr _ _ :: l,k,h=>trivial
 | .ref _ _ :: l,k,h=>trivial
 | .tptr _ _ _ _ _ :: l,k,h=>trivial
 | .may _ _ :: l,k,h=>trivial
 | .aptr _ _ _ _ :: l,k,h=>trivial
 | .ifp _ _ :: l,k,h=>trivial
 | .fn1 _ _ :: l,k,h=>trivial
 | .yl _ :: l,k,h=>trivial
 | .undef :: l,k,h=>trivial
 | .junk :: l,k,h=>trivial
theorem all_gatherT:∀ {cs:List CA} {k:List TV→List Prim→List (Nat × Nat)→Out},(∀ y q r,(k y q r).All p)→(gatherT look cs k).All p
 | [],k,h=>h _ _ _
 | .t x :: l,k,h=>by
  simp only [gatherT]
  exact all_gatherT (cs:=l) fun xs ps ts=>h _ _ _
 | .sref i r q :: l, k, h => by
  simp only [gatherT]
  split
  ·split
   ·exact all_gatherT (cs:=l) fun xs ps ts=>h _ _ _
   ·exact fun y=>⟨all_gatherT (cs:=l) fun xs ps ts=>h _ _ _,fun x'=>all_gatherT (cs:=l) fun xs ps ts=>h _ _ _⟩
  ·exact trivial
 | .swin i r q lo len :: l, k, h => by
  simp only [gatherT]
  split
  ·split
   ·exact fun y=>all_gatherT (cs:=l) fun xs ps ts=>h _ _ _
   ·exact fun z y=>all_gatherT (cs:=l) fun xs ps ts=>h _ _ _
  ·exact trivial
 | .ptr _ _ :: l,k,h=>trivial
 | .ref _ _ :: l,k,h=>trivial
 | .tptr _ _ _ _ _ :: l,k,h=>trivial
 | .may _ _ :: l,k,h=>trivial
 | .aptr _ _ _ _ :: l,k,h=>trivial
 | .ifp _ _ :: l,k,h=>trivial
 | .fn1 _ _ :: l,k,h=>trivial
 | .yl _ :: l,k,h=>trivial
 | .undef :: l,k,h=>trivial
 | .junk :: l,k,h=>trivial
theorem all_cellsO {agg:Bool} {n:Nat} {x:AV} {k:List CA→Out} (h:∀ cs,(k cs).All p):(x.cellsO agg n k).All p:=by
 unfold AV.cellsO
 split
 ·rename_i c; cases c.kept <;> first | exact trivial | exact h _
 ·exact h _
 ·exact h _
 ·exact h _
 ·rename_i cs; cases cs.length.beq n <;> first | exact trivial | exact h _
 ·exact h _
 ·exact trivial
theorem all_fill {at_:Nat→Option (Nat × Bool × Nat)} {k:List CA→Out} (h:∀ cs,(k cs).All p):∀ (is:List Nat) (vs:List AV) (cs:List CA),(fillParts at_ is vs cs k).All p
 | [],[],cs=>h cs
 | i :: is, x :: vs, cs => by
  simp only [fillParts]
  split
  ·refine all_cellsO (fun ps=>?_)
   exact all_bif (all_fill h is vs _) trivial
  ·exact trivial
 | [],_ :: _,cs=>trivial
 | _ :: _,[],cs=>trivial
theorem all_optNat {v:Option AV} {k:Option Nat→Out} (h:∀ n,(k n).All p):(optNat v k).All p:=by
 unfold optNat
 split
 ·exact h _
 ·split
  ·exact fun v=>h _
  ·exact trivial
abbrev isVal (e:Eff):Prop:=∃ v,e=.val v
abbrev isNew (e:Eff):Prop:=∃ b v,e=.new b v
theorem all_loadRef {d:TyD} {x:List TV} {off:Nat}:(loadRef d x off).All isVal:=by
 unfold loadRef
 cases d.kd.isAgg
 ·exact ⟨_,rfl⟩
 ·exact ⟨_,rfl⟩
theorem all_catch:∀ {vs:List AV} {k:List CA→Out},(∀ cs,(k cs).All p)→(catchO vs k).All p
 | [],k,h=>h _
 | v :: vs,k,h=>all_cellsO fun cs=>all_catch fun cs'=>h _
theorem cls_N {op:Op} (h:clsOf op=.N) (vs:List AV):(opL E id look op vs).All isVal:=by
 cases op with
 | move x=>rcases vs with _ | ⟨v,_ | ⟨v',r⟩⟩ <;> first | exact trivial | exact ⟨_,rfl⟩
 | assign x=>rcases vs with _ | ⟨v,_ | ⟨v',r⟩⟩ <;> first | exact trivial | exact ⟨_,rfl⟩
 | pick c x y =>
  rcases vs with _ | ⟨v,_ | ⟨v',_ | ⟨v'',_ | ⟨v3,r⟩⟩⟩⟩ <;> first | exact trivial | skip
  simp only [opL]
  split <;> first | exact trivial | exact ⟨_,rfl⟩
 | build t parts =>
  simp only [opL]
  split
  ·refine all_bif ?_ trivial
   refine all_fill ?_ _ _ _
   exact fun cs=>⟨_,rfl⟩
  ·exact trivial
 | nilCheck x =>
  rcases vs with _ | ⟨v,_ | ⟨v',r⟩⟩ <;> first | exact trivial | skip
  simp only [opL]
  split <;> first | exact trivial | exact ⟨_,rfl⟩
 | unOp op xt x =>
  rcases vs with _ | ⟨v,_ | ⟨v',r⟩⟩ <;> first | exact trivial | skip
  simp only [opL]
  split
  ·exact ⟨_,rfl⟩
  ·split
   ·exact fun v=>⟨_,rfl⟩
   ·exact trivial
 | fieldAddr t x f =>
  rcases vs with _ | ⟨v,_ | ⟨v',r⟩⟩ <;> first | exact trivial | skip
  simp only [opL]
  split
  ·split
   ·refine all_bif ?_ trivial
    split <;> first | exact trivial | exact ⟨_,rfl⟩
   ·exact trivial
  ·exact trivial
 | field t x f =>
  rcases vs with _ | ⟨v,_ | ⟨v',r⟩⟩ <;> first | exact trivial | skip
  simp only [opL]
  split
  ·split
   ·unfold fieldO
    split
    ·split
     ·split <;> first | exact trivial | exact ⟨_,rfl⟩
     ·exact trivial
    ·exact ⟨_,rfl⟩
    ·exact trivial
   ·exact trivial
  ·exact trivial
 | index t x y =>
  rcases vs with _ | ⟨v,_ | ⟨v',_ | ⟨v'',r⟩⟩⟩ <;> first | exact trivial | skip
  simp only [opL]
  split
  ·exact fun v=>⟨_,rfl⟩
  ·unfold arrValO
   split
   ·split
    ·refine all_bif ?_ trivial
     split
     ·exact fun k v=>⟨_,rfl⟩
     ·exact trivial
    ·exact trivial
   ·exact trivial
 | extract x j =>
  rcases vs with _ | ⟨v,_ | ⟨v',r⟩⟩ <;> first | exact trivial | skip
  simp only [opL]
  split
  ·split
   ·split <;> first | exact trivial | exact ⟨_,rfl⟩
   ·exact trivial
  ·exact trivial
 | makeFunc fn first cap =>
  cases fn with
  | func f =>
   simp only [opL]
   exact all_bif (all_catch fun cs=>⟨_,rfl⟩) trivial
  | _=>exact trivial
 | call c =>
  obtain ⟨callee,args,tys⟩:=c
  cases callee with
  | builtin b=>cases b <;> simp [clsOf] at h
  | value f=>cases f <;> simp [clsOf] at h
  | invoke r m=>simp [clsOf] at h
 | makeInterface t x =>
  rcases vs with _ | ⟨v,_ | ⟨v',r⟩⟩ <;> first | exact trivial | skip
  simp only [opL]
  split
  ·unfold ifcO
   refine all_bif ?_ trivial
   split
   ·exact ⟨_,rfl⟩
   ·split
    ·exact fun v=>⟨_,rfl⟩
    ·exact trivial
  ·exact trivial
 | typeAssert x xt t ok =>
  rcases vs with _ | ⟨v,_ | ⟨v',r⟩⟩ <;> cases ok <;> first | exact trivial | skip
  simp only [opL]
  split
  ·unfold asrtO
   refine all_bif ?_ trivial
   split
   ·exact fun v=>⟨_,rfl⟩
   ·exact trivial
  ·exact trivial
 | _=>simp [clsOf] at h
theorem cls_R {op:Op} (h:clsOf op=.R) (vs:List AV):(opL E id look op vs).All isVal:=by
 cases op with
 | load t x =>
  rcases vs with _ | ⟨v,_ | ⟨v',r⟩⟩ <;> first | exact trivial | skip
  simp only [opL]
  split
  ·unfold loadO
   split
   ·refine all_bif trivial ?_
    split
    ·exact fun v=>⟨_,rfl⟩
    ·exact trivial
   ·split
    ·split
     ·split
      ·exact ⟨_,rfl⟩
      ·exact trivial
     ·exact trivial
    ·exact trivial
   ·exact all_loadRef
   ·split
    ·refine all_getO (fun s e=>?_)
     simp only [Prg.All]
     split
     ·exact ⟨_,rfl⟩
     ·exact trivial
    ·exact trivial
   ·exact trivial
  ·exact trivial
 | convert xt dt x =>
  rcases vs with _ | ⟨v,_ | ⟨v',r⟩⟩ <;> first | exact trivial | skip
  simp only [opL]
  split
  ·unfold convO
   split
   ·split
    ·exact all_bif (all_resA fun y=>fun rows=>fun v=>⟨_,rfl⟩) trivial
    ·exact trivial
   ·split
    ·exact fun v=>⟨_,rfl⟩
    ·exact trivial
  ·exact trivial
 | binOp op xt x y yt =>
  rcases vs with _ | ⟨v,_ | ⟨v',_ | ⟨v'',r⟩⟩⟩ <;> first | exact trivial | skip
  simp only [opL]
  split
  ·unfold binT
   split
   ·split
    ·refine all_cellsO fun cs=>all_cellsO fun cs'=>?_
     split
     ·exact fun v=>⟨_,rfl⟩
     ·exact trivial
    ·exact trivial
   ·unfold binP
    split
    ·exact ⟨_,rfl⟩
    ·exact ⟨_,rfl⟩
    ·exact trivial
   unfold binO
   refine all_bif (all_resA fun x=>all_resA fun y=>fun v=>⟨_,rfl⟩) ?_
   split
   ·exact fun v=>⟨_,rfl⟩
   ·exact trivial
  ·exact trivial
 | slice t x lo hi mx =>
  have sl:∀ {kd:Kd} {sz:Nat} {x:AV} {lo hi:Option AV},(sliceO look kd sz x lo hi).All isVal:=by
   intro kd sz x lo hi
   unfold sliceO
   split
   ·exact all_optNat fun lo=>all_optNat fun hi=>fun v=>⟨_,rfl⟩
   ·split
    ·exact all_resT fun s n=>all_optNat fun lo=>all_optNat fun hi=>⟨_,rfl⟩
    ·split
     ·exact all_resT fun s=>all_optNat fun hi=>⟨_,rfl⟩
     ·exact all_resT fun s=>all_optNat fun lo=>all_optNat fun hi=>⟨_,rfl⟩
    ·exact trivial
  cases mx with
  | some m=>rcases vs with _ | ⟨v,r⟩ <;> exact trivial
  | none =>
   rcases vs with _ | ⟨v,r⟩
   ·exact trivial
   ·simp only [opL]
    split
    ·split
     ·split <;> first | exact trivial | exact sl
     ·exact trivial
    ·exact trivial
 | indexAddr t x y =>
  rcases vs with _ | ⟨v,_ | ⟨v',_ | ⟨v'',r⟩⟩⟩ <;> first | exact trivial | skip
  simp only [opL]
  split
  ·unfold indexO
   split
   ·split
    ·exact fun v=>⟨_,rfl⟩
    ·split
     ·exact all_resT fun s n k=>⟨_,rfl⟩
     ·exact all_resT fun s k=>⟨_,rfl⟩
     ·exact trivial
   ·exact trivial
  ·unfold arrIdxO
   split
   ·split
    ·exact all_bif (fun k=>⟨_,rfl⟩) trivial
    ·exact trivial
   ·exact trivial
 | call c =>
  obtain ⟨callee,args,tys⟩:=c
  cases callee with
  | builtin b =>
   have mn:∀ {mx:Bool} {x y:AV},(minO mx x y).All isVal:=by
    intro mx x y
    unfold minO
    split
    ·exact fun v=>⟨_,rfl⟩
    ·exact trivial
   cases b <;> simp [clsOf] at h
   all_goals simp only [opL]
   all_goals unfold builtinO
   all_goals split <;> first | exact trivial | exact mn | contradiction | skip
   split
   ·unfold lenO
    split
    ·exact ⟨_,rfl⟩
    ·exact all_resA fun s v=>⟨_,rfl⟩
   ·exact trivial
  | value f=>cases f <;> simp [clsOf] at h
  | invoke r m=>simp [clsOf] at h
 | _=>simp [clsOf] at h
theorem cls_A {op:Op} (h:clsOf op=.A) (vs:List AV):(opL E id look op vs).All isNew:=by
 cases op with
 | alloc t =>
  rcases vs with _ | ⟨v,r⟩ <;> first | exact trivial | skip
  simp only [opL]
  split
  ·exact ⟨_,_,rfl⟩
  ·exact trivial
 | box t x =>
  rcases vs with _ | ⟨v,_ | ⟨v',r⟩⟩ <;> first | exact trivial | skip
  simp only [opL]
  split
  ·exact all_cellsO (fun cs=>⟨_,_,rfl⟩)
  ·exact trivial
 | makeSlice t x y =>
  rcases vs with _ | ⟨v,_ | ⟨v',_ | ⟨v'',r⟩⟩⟩ <;> first | exact trivial | skip
  simp only [opL]
  split
  ·refine all_bif ?_ trivial
   exact fun n m=>⟨_,_,rfl⟩
  ·exact trivial
 | call c =>
  obtain ⟨callee,args,tys⟩:=c
  cases callee with
  | builtin b=>cases b <;> simp [clsOf] at h
  | value f=>cases f <;> simp [clsOf] at h
  | invoke r m=>simp [clsOf] at h
 | _=>simp [clsOf] at h
theorem mkNew_plain {ps:List Prim} {b:BC} {v:AV}:(mkNew ps b v).plain=true→isVal (mkNew ps b v)∨isNew (mkNew ps b v):=by
 cases ps with
 | nil=>exact fun _=>.inr ⟨_,_,rfl⟩
 | cons q l=>exact fun h=>by cases h
theorem ans_plain {ps:List Prim} {v:AV}:(match ps with | []=>Eff.val v | _=>.gen ps v).plain=true→isVal (match ps with | []=>Eff.val v | _=>.gen ps v)∨isNew (match ps with | []=>Eff.val v | _=>.gen ps v):=by
 cases ps with
 | nil=>exact fun _=>.inl ⟨_,rfl⟩
 | cons q l=>exact fun h=>by cases h
theorem all_ansOne {d:TyD} {x:TV} {k:Out} (h:k.All p):(ansOne d x k).All p:=by
 unfold ansOne
 exact all_bif h h
theorem all_ansSome {x:TV} {k:Out} (h:k.All p):∀ (ds:List TyD) (j:Nat),(ansSome x ds j k).All p
 | [],j=>h
 | d :: ds,j=>all_ansOne (all_ansSome h ds (j + 1))
theorem all_ansO {ds:List TyD} {v:TV} {ps:List Prim}:(ansO id ds v ps).All fun e=>e.plain=true→isVal e∨isNew e:=by
 have many:∀ ds:List TyD,(Prg.chk (v.isTup ds.length) (ansSome v ds 0 (bif anySl ds then .ret (mkNew ps (.tree (ansAllRoots v ds 0)) (.tups (ansAll id v ds 0 0)))
   else .ret (match ps with | []=>.val (.tups (ansAll id v ds 0 0)) | _=>.gen ps (.tups (ansAll id v ds 0 0)))))).All fun e=>e.plain=true→isVal e∨isNew e:=by
  intro ds
  refine all_ansSome ?_ ds 0
  exact all_bif mkNew_plain ans_plain
 match ds with
 | []=>exact many []
 | [d] =>
  simp only [ansO]
  refine all_ansOne ?_
  split
  ·exact all_bif mkNew_plain ans_plain
  ·exact trivial
 | d :: d' :: l=>exact many _
theorem all_ansV {ds:List TyD} {v:TV} {k:AV→Out} {p:Eff→Prop} (h:∀ av,(k av).All p):(ansV id ds v k).All p:=by
 have some:∀ (ds:List TyD) (j:Nat) (k:Out),k.All p→(ansSome v ds j k).All p:=by
  intro ds
  induction ds with
  | nil=>intro j k h; exact h
  | cons d ds ih=>intro j k h; exact all_ansOne (ih (j + 1) k h)
 unfold ansV
 split
 ·refine all_ansOne ?_
  split
  ·exact h _
  ·exact trivial
 ·exact some _ 0 _ (h _)
theorem all_lentO {f:FuncId} {ld:LentD} {vs:List AV}:(lentO E id look f ld vs).All fun e=>e.plain=true→isVal e∨isNew e:=by
 unfold lentO
 split
 ·split
  ·refine all_bif trivial ?_
   exact all_hands fun xs rs=>all_gather fun ys qs ts=>all_bif (fun v=>all_ansV fun av=>fun h=>by simp [Eff.plain] at h) trivial
  ·exact trivial
 ·exact trivial
theorem all_peekO {f:FuncId} {c:Nat × Nat} {vs:List AV}:(peekO look f c vs).All fun e=>e.plain=true→isVal e∨isNew e:=by
 unfold peekO
 split
 ·split
  ·split
   ·exact all_bif (all_lends fun xs=>fun v=>fun _=>.inl ⟨_,rfl⟩) trivial
   ·exact trivial
  ·exact trivial
 ·exact trivial
theorem all_setO' {p:Eff→Prop} {q:Way} {x y:TV} {k:TV→Out} (h:∀ y,(k y).All p):(setO q x y k).All p:=by
 unfold setO
 split
 ·exact h _
 ·exact fun v=>h _
theorem all_turnO {f:FuncId} {vs:List AV}:(turnO look f vs).All fun e=>e.plain=true→isVal e∨isNew e:=by
 unfold turnO
 split
 ·split
  ·exact all_getO fun z=>all_lends fun xs=>fun v=>fun y=>all_setO' fun x'=>fun h=>by cases h
  ·exact trivial
 ·split
  ·exact all_getO fun z=>fun z1=>all_lends fun xs=>fun v=>fun y=>all_setO' fun x'=>fun h=>by cases h
  ·exact trivial
 ·exact trivial
theorem all_eyeO {f:FuncId} {i:Nat} {vs:List AV}:(eyeO E id look f i vs).All fun e=>e.plain=true→isVal e∨isNew e:=by
 unfold eyeO
 refine all_bif ?_ trivial
 split
 ·split
  ·exact all_lends fun xs=>fun v=>all_ansO
  ·exact trivial
 ·exact trivial
theorem cls_B {op:Op} (h:clsOf op=.B) (vs:List AV):(opL E id look op vs).All fun e=>e.plain=true→isVal e∨isNew e:=by
 cases op with
 | buildSlice t len parts =>
  simp only [opL]
  refine all_bif ?_ ?_
  ·unfold coldO
   split
   ·refine all_fill (fun cs=>?_) _ _ _
    split
    ·exact all_bif (fun _=>.inr ⟨_,_,rfl⟩) trivial
    ·exact trivial
   ·exact trivial
  unfold buildSlO
  split
  ·refine all_fill (fun cs=>?_) _ _ _
   refine all_gatherT fun ys qs ts=>?_
   exact all_bif mkNew_plain trivial
  ·exact trivial
 | call c =>
  obtain ⟨callee,args,tys⟩:=c
  cases callee with
  | builtin b=>cases b <;> simp [clsOf] at h
  | value f =>
   cases f with
   | func f =>
    rcases vs with _ | ⟨v,r⟩
    ·exact trivial
    ·simp only [opL,callO]
     refine all_bif all_turnO (all_bif trivial ?_)
     split
     ·exact all_peekO
     split
     ·exact all_lentO
     ·split
      ·refine all_bif ?_ ?_
       ·exact all_lends fun xs=>fun v=>all_ansO
       ·exact all_hands fun xs rs=>all_bif (fun v=>all_ansO) trivial
      ·exact trivial
   | tmp t =>
    rcases vs with _ | ⟨v,r⟩
    ·exact trivial
    ·simp only [opL]
     split
     ·exact fun f=>all_lends fun xs v=>fun _=>.inl ⟨_,rfl⟩
     ·split
      ·exact all_eyeO
      ·exact trivial
   | _=>simp [clsOf] at h
  | invoke r m=>simp [clsOf] at h
 | _=>simp [clsOf] at h
abbrev isUpd (look:Look) (e:Eff):Prop:=∃ i b v,e=.upd i b v∧(look i).isSome=true
theorem cls_W {op : Op} (h : clsOf op = .W) (vs : List AV) : (opL E id look op vs).All fun e => e.plain = true → isUpd look e := by
 cases op with
 | store t x y =>
  rcases vs with _ | ⟨v,_ | ⟨v',_ | ⟨v'',r⟩⟩⟩ <;> first | exact trivial | skip
  simp only [opL]
  split
  ·unfold storeO
   split
   ·refine all_bif trivial ?_
    split
    ·rename_i cs xs hrow
     refine all_cellsO (fun ps=>?_)
     split
     ·exact fun _=>⟨_,_,_,rfl,by simp [(rowOfC_spec hrow).1]⟩
     ·exact trivial
    ·exact trivial
   ·refine all_cellsO (fun ps=>?_)
    split
    ·rename_i cs hl
     exact all_bif (fun _=>⟨_,_,_,rfl,by simp [hl]⟩) trivial
    ·exact trivial
   ·refine all_cellsO (fun ps=>?_)
    split
    ·refine all_bif trivial (all_bif ?_ ?_)
     ·refine all_gather fun ys qs ts=>all_bif ?_ trivial
      exact all_getO fun s e=>fun x' hp=>by cases hp
     ·refine all_gather fun ys qs ts=>?_
      split
      ·refine all_bif ?_ trivial
       refine all_getO fun s e=>?_
       simp only [Prg.All]
       intro x'
       split
       ·rename_i b hb
        refine fun _=>⟨_,_,_,rfl,?_⟩
        unfold setRoot at hb
        split at hb
        ·rename_i hl; simp [hl]
        ·cases hb
       ·exact trivial
      ·exact trivial
    ·exact trivial
   ·exact trivial
  ·exact trivial
 | call c =>
  obtain ⟨callee,args,tys⟩:=c
  cases callee with
  | builtin b=>cases b <;> simp [clsOf] at h
  | value f=>cases f <;> simp [clsOf] at h
  | invoke r m=>simp [clsOf] at h
 | _=>simp [clsOf] at h
theorem all_appendK {d:TyD} {s:AV} {news:List (List TV)} {ps:List Prim}:(appendK id look d s news ps).All fun e=>e.plain=true→isVal e∨isNew e:=by
 unfold appendK
 split
 ·exact all_bif (fun y=>mkNew_plain) trivial
 ·split
  ·split
   ·split
    ·exact fun y h=>by cases h
    ·exact fun z y x' h=>by cases h
   ·exact trivial
  ·split
   ·split
    ·exact fun z y h=>by cases h
    ·exact fun z0 z y x' h=>by cases h
   ·exact trivial
  ·exact trivial
theorem all_srcO {d:TyD} {dest:Option Nat} {x:AV} {k:List (List TV)→List Prim→Out} (h:∀ xs ps,(k xs ps).All p):(srcO look d dest x k).All p:=by
 unfold srcO
 split
 ·exact fun xs=>h _ _
 ·split
  ·refine all_bif ?_ ?_
   ·split
    ·split
     ·split
      ·exact all_bif trivial (fun xs=>h _ _)
      ·exact fun y=>fun xs=>h _ _
     ·exact trivial
    ·split
     ·split
      ·exact all_bif trivial (fun y xs=>h _ _)
      ·exact fun z y=>fun xs=>h _ _
     ·exact trivial
    ·exact trivial
   ·exact all_resT (fun s xs=>h _ _)
  ·exact trivial
theorem cls_P {op:Op} (h:clsOf op=.P) (vs:List AV):(opL E id look op vs).All fun e=>e.plain=true→isVal e∨isNew e:=by
 cases op with
 | call c =>
  obtain ⟨callee,args,tys⟩:=c
  cases callee with
  | builtin b =>
   cases b <;> simp [clsOf] at h
   simp only [opL]
   unfold builtinO
   split <;> try (first | exact trivial | contradiction)
   split
   ·refine all_bif ?_ ?_
    ·unfold appendO
     exact all_bif (all_srcO (fun xs ps=>all_appendK)) trivial
    ·split
     ·unfold appendSO
      refine all_bif ?_ trivial
      split
      ·exact fun news=>all_appendK
      ·exact trivial
     ·exact trivial
   ·exact trivial
  | value f=>cases f <;> simp [clsOf] at h
  | invoke r m=>simp [clsOf] at h
 | _=>simp [clsOf] at h
theorem look_free {op:Op} (h:clsOf op=.N∨clsOf op=.A) (vs:List AV):opL E id look op vs=opL E id look' op vs:=by
 cases op <;> first
  | (rcases vs with _ | ⟨a,_ | ⟨b,_ | ⟨c,_ | ⟨d,r⟩⟩⟩⟩ <;> rfl)
  | (simp [clsOf] at h; done)
  | (rename_i fn _ _; cases fn <;> rfl)
  | (rename_i ok; cases ok <;> rcases vs with _ | ⟨a,_ | ⟨b,r⟩⟩ <;> rfl)
  | skip
 all_goals
  rename_i c
  obtain ⟨callee,args,tys⟩:=c
  cases callee with
  | builtin b=>cases b <;> simp [clsOf] at h
  | value f=>cases f <;> simp [clsOf] at h
  | invoke r m=>simp [clsOf] at h
end
end Go.Ab
end

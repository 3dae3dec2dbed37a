import Derived.Test.YtfnpejmlcbkepaaBM12b
set_option linter.all false
section
namespace Go.Ab
open Go.RowKit
structure gc (P:Program) (G:Laid) (E:Env) (C:Cal):Prop where
 ty:∀ t d,E.T t=some d→aJ P t d
 call:vo P G E C
section
variable {P:Program} {E:Env} {C:Cal} {w0:Bs} {w w':World} {I0 I R:Nat→Prop} {g g':Gh} {st st':ASt} {a:Act} {ov:List Value} {look:Look} {Q:Exit→Act→World→Prop} {id:Nat}
theorem zB (hE:gc P w0.G E C) (hlk:∀ i b,look i=some b→st.look i=some b) (hs:ah w0 I0 NoR g st a ov w) {o:Oper} {e:Eff} (hh:(opL E (st.nid o.dst) look o.op (o.op.operands.toList.map st.ev)).hits C e) (ha:e.app st o.dst=some st') :
  Good P w0 I0 ov o st' a w Q:=by
 obtain ⟨dst,op,type,pos,after,guard⟩:=o
 cases op with
 | move x=>exact Bi hs hh ha
 | assign x=>exact yb hs hh ha
 | pick c x y=>exact AU hs hh ha
 | alloc t=>exact zW hE.ty hs hh ha
 | box t x=>exact op_box hE.ty hs hh ha
 | build t parts=>exact zj hE.ty hs hh ha
 | makeFunc fn first cap=>exact u6 hs hh ha
 | buildSlice t len parts =>
  simp only [opL] at hh
  cases hc:E.cold t && !(len.beq 0) with
  | true=>rw [hc] at hh; exact AZ hE.ty hlk hs hh ha
  | false=>rw [hc] at hh; exact rO hE.ty hlk hs hh ha
 | load t x=>exact A6 hE.ty hlk hs hh ha
 | store t x y=>exact Ah hE.ty hlk hs hh ha
 | nilCheck x=>exact uQ hs hh ha
 | binOp op xt x y yt=>exact op_bin hE.ty hlk hs hh ha
 | unOp op xt x=>exact op_un hs hh ha
 | convert xt dt x=>exact vQ hE.ty hlk hs hh ha
 | makeSlice t x y=>exact t9 hE.ty hs hh ha
 | makeInterface t x=>exact op_ifc hE.ty hs hh ha
 | typeAssert x xt t ok=>exact Bn hE.ty hs hh ha
 | slice t x lo hi mx=>exact AF hE.ty hlk hs hh ha
 | fieldAddr t x f=>exact tT hE.ty hs hh ha
 | field t x f=>exact zi hE.ty hs hh ha
 | indexAddr t x y=>exact tE hE.ty hlk hs hh ha
 | index t x y=>exact zx hE.ty hs hh ha
 | extract x j=>exact wn hs hh ha
 | call c =>
  obtain ⟨callee,args,tys⟩:=c
  cases callee with
  | builtin b =>
   have hops:(Op.call ⟨.builtin b,args,tys⟩).operands.toList=args.toList:=by simp [Op.operands,Call.operands]
   simp only [hops] at hh
   simp only [opL] at hh
   unfold dO at hh
   split at hh
   ·rename_i x ty hargs htys
    obtain ⟨ox,rfl,hox⟩:=list1 hargs
    have:=arr1 htys
    subst this
    split at hh
    ·rename_i d hT
     rw [← hox] at hh
     exact vY hlk hs (hE.ty _ _ hT) hh ha
    ·exact hh.elim
   ·rename_i s x ty ty' hargs htys
    obtain ⟨os,ox,rfl,hos,hox⟩:=list2 hargs
    have:=arr2 htys
    subst this
    split at hh
    ·rename_i e1 d hel
     cases hb:Nat.beq ty ty' with
     | false =>
      simp only [hb,cond_false] at hh
      split at hh
      ·rename_i hu
       rw [← hos,← hox] at hh
       exact qH hE.ty hlk hs hel hu rfl hh ha
      ·exact hh.elim
     | true =>
      simp only [hb,cond_true] at hh
      have:=(am _ _).1 hb
      subst this
      rw [← hos,← hox] at hh
      exact rR hE.ty hlk hs hel hh ha
    ·exact hh.elim
   ·rename_i s x ty ty' hargs htys
    obtain ⟨os,ox,rfl,hos,hox⟩:=list2 hargs
    have:=arr2 htys
    subst this
    split at hh
    ·rename_i e1 d hel
     cases hb:Nat.beq ty ty' with
     | false=>simp [hb,Prg.hits] at hh
     | true =>
      simp only [hb,cond_true] at hh
      have:=(am _ _).1 hb
      subst this
      rw [← hos,← hox] at hh
      exact uS hE.ty hlk hs hel hh ha
    ·exact hh.elim
   ·rename_i s ty hargs htys
    obtain ⟨os,rfl,hos⟩:=list1 hargs
    have:=arr1 htys
    subst this
    split at hh
    ·rename_i e1 d hel
     rw [← hos] at hh
     exact tM hE.ty hlk hs hel hh ha
    ·exact hh.elim
   ·rename_i x y hargs
    obtain ⟨ox,oy,rfl,hox,hoy⟩:=list2 hargs
    rw [← hox,← hoy] at hh
    exact qw hs hh ha
   ·rename_i x y hargs
    obtain ⟨ox,oy,rfl,hox,hoy⟩:=list2 hargs
    rw [← hox,← hoy] at hh
    exact qw hs hh ha
   ·exact hh.elim
  | value f =>
   cases f with
   | func f =>
    have hops:(Op.call ⟨.value (.func f),args,tys⟩).operands.toList=.func f :: args.toList:=by simp [Op.operands,Call.operands]
    simp only [hops,List.map_cons] at hh
    exact Bc hE.call hE.ty hlk hs hh ha
   | tmp t =>
    have hops:(Op.call ⟨.value (.tmp t),args,tys⟩).operands.toList=.tmp t :: args.toList:=by simp [Op.operands,Call.operands]
    simp only [hops,List.map_cons] at hh
    exact op_dyn hE.call hE.ty hlk hs hh ha
   | _=>simp [opL,Prg.hits] at hh
  | invoke r m=>simp [opL,Prg.hits] at hh
 | _=>simp [opL,Prg.hits] at hh
def AV.nf:AV→AV
 | .one (.t (.lit (.bool b)))=>.bl b
 | .tv (.lit (.bool b))=>.bl b
 | v=>v
def Eff.nfE:Eff→Eff
 | .val v=>.val v.nf
 | .new b v=>.new b v.nf
 | .upd i b v=>.upd i b v.nf
 | .gen ps v=>.gen ps v.nf
def ASt.nfS (st:ASt):ASt:=⟨st.slots.map AV.nf,st.boxes,st.out⟩
theorem az (v:AV):v.nf=v∨∃ b,v.nf=.bl b∧(v=.one (.t (.lit (.bool b)))∨v=.tv (.lit (.bool b))):=by
 unfold AV.nf
 split
 ·exact .inr ⟨_,rfl,.inl rfl⟩
 ·exact .inr ⟨_,rfl,.inr rfl⟩
 ·exact .inl rfl
theorem ss (v:AV):v.nf.nf=v.nf:=by
 rcases az v with h | ⟨b,h,_⟩
 ·rw [h,h]
 ·rw [h]; rfl
theorem fJ (v:AV):v.nf.tv? = v.tv? := by
 rcases az v with h | ⟨b,h,rfl | rfl⟩
 ·rw [h]
 ·rfl
 ·rfl
theorem AB {v:AV} {u:Value}:bv w g look v.nf u ↔ bv w g look v u:=by
 rcases az v with h | ⟨b,h,rfl | rfl⟩
 ·rw [h]
 ·rw [h]
  constructor
  ·intro h'
   have:u=.bool b:=h'
   subst this
   exact ⟨.lit _,rfl⟩
  ·intro h'
   exact be h'.1
 ·rw [h]
  constructor
  ·intro h'
   have:u=.bool b:=h'
   subst this
   exact .lit _
  ·intro h'
   exact be h'
theorem kU (v:AV):v.nf.dp=v.dp:=by
 rcases az v with h | ⟨b,h,rfl | rfl⟩
 ·rw [h]
 ·rw [h]; rfl
 ·rw [h]; rfl
theorem bS (e:Eff):cR e.nfE=cR e:=by cases e <;> simp only [Eff.nfE,cR,kU]
theorem mI (e:Eff):e.nfE.plain=e.plain:=by cases e <;> rfl
theorem vi (base:Nat) (own:List (List Nat × List Nat)) (e:Eff):e.nfE.lP base own=e.lP base own:=by cases e <;> rfl
theorem uI {S:Type} {agg:Bool} {n:Nat} {v:AV} {k k':List CA→Prg S} {e:S} (hk:∀ cs,(k cs).hits C e→(k' cs).hits C e) (h:(v.aP agg n k).hits C e):(v.aP agg n k').hits C e:=by
 unfold AV.aP at h ⊢
 split at h
 ·rename_i c
  cases hc:c.kept with
  | true=>rw [hc] at h; exact hk _ h
  | false=>rw [hc] at h; exact h.elim
 ·exact ⟨h.1,hk _ h.2⟩
 ·exact hk _ h
 ·exact hk _ h
 ·rename_i cs
  cases hc:cs.length.beq n with
  | true=>rw [hc] at h; exact hk _ h
  | false=>rw [hc] at h; exact h.elim
 ·exact ⟨h.1,hk _ h.2⟩
 ·exact h.elim
theorem eM {S:Type} {agg:Bool} {n:Nat} {v:AV} {k:List CA→Prg S} {e:S} (h:(v.aP agg n k).hits C e):(v.nf.aP agg n k).hits C e:=by
 rcases az v with h1 | ⟨b,h1,rfl | rfl⟩
 ·rwa [h1]
 ·rw [h1]
  cases agg with
  | false=>exact h
  | true=>exact h.elim
 ·rw [h1]
  cases agg with
  | false=>exact h.2
  | true=>exact (by simp [AV.aP,TV.isAgg,Prg.hits] at h)
theorem kG {S:Type} {e:S}:∀ {vs:List AV} {k:List CA→Prg S},(jP vs k).hits C e→(jP (vs.map AV.nf) k).hits C e
 | [],k,h=>h
 | x :: vs, k, h => by
  simp only [jP,List.map_cons] at h ⊢
  refine eM ?_
  unfold AV.aP at h ⊢
  split at h
  ·rename_i c _
   cases hc:c.kept with
   | false=>simp [hc,Prg.hits] at h
   | true=>simp only [hc,cond_true] at h ⊢; exact kG h
  ·exact ⟨h.1,kG h.2⟩
  ·exact kG h
  ·exact kG h
  ·rename_i cs' hb; cases hb
  ·rename_i cs' hb; cases hb
  ·exact h.elim
theorem jh {f:FuncId} {e:Eff}:∀ {vs:List AV} {k:List CA→List CA},(jP vs fun cs=>(.ret (.val (.clo f (k cs))):Out)).hits C e→∃ cs,e=.val (.clo f cs)
 | [],k,h=>⟨_,h.symm⟩
 | x :: vs, k, h => by
  simp only [jP] at h
  unfold AV.aP at h
  split at h
  ·rename_i c _
   cases hc:c.kept with
   | false=>simp [hc,Prg.hits] at h
   | true=>simp only [hc,cond_true] at h; exact jh (k:=fun cs=>k (_ ++ cs)) h
  ·exact jh (k:=fun cs=>k (_ ++ cs)) h.2
  ·exact jh (k:=fun cs=>k (_ ++ cs)) h
  ·exact jh (k:=fun cs=>k (_ ++ cs)) h
  ·rename_i hb; cases hb
  ·rename_i hb; cases hb
  ·exact h.elim
theorem pI {S:Type} {at_:Nat→Option (Nat × Bool × Nat)} {k:List CA→Prg S} {e:S}:∀ {is:List Nat} {vs:List AV} {cs:List CA},(bE at_ is vs cs k).hits C e→(bE at_ is (vs.map AV.nf) cs k).hits C e
 | [],[],cs,h=>h
 | i :: is, x :: vs, cs, h => by
  simp only [bE,List.map_cons] at h ⊢
  split at h
  ·rename_i off agg n hat
   have key:∀ ps,((bif (off + ps.length).ble cs.length && ps.length.beq n then bE at_ is vs (bJ cs off ps) k else .fail):Prg S).hits C e→((bif (off + ps.length).ble cs.length && ps.length.beq n then bE at_ is (vs.map AV.nf) (bJ cs off ps) k else .fail):Prg S).hits C e:=by
    intro ps hp
    cases hb:(off + ps.length).ble cs.length && ps.length.beq n with
    | false=>simp [hb,Prg.hits] at hp
    | true=>simp only [hb,cond_true] at hp ⊢; exact pI hp
   refine eM ?_
   unfold AV.aP at h ⊢
   split at h
   ·rename_i c
    cases hc:c.kept with
    | false=>simp [hc,Prg.hits] at h
    | true=>simp only [hc,cond_true] at h ⊢; exact key _ h
   ·exact ⟨h.1,key _ h.2⟩
   ·exact key _ h
   ·exact key _ h
   ·rename_i cs'
    have:=key cs'
    cases hc:cs'.length.beq n with
    | false=>simp [hc,Prg.hits] at h
    | true=>simp only [hc,cond_true] at h this ⊢; exact this h
   ·exact ⟨h.1,key _ h.2⟩
   ·exact h.elim
  ·exact h.elim
 | [],_ :: _,cs,h=>h.elim
 | _ :: _,[],cs,h=>h.elim
theorem ud {S:Type} {v:AV} {k:TV→Prg S}:rS look v.nf k=rS look v k:=by
 rcases az v with h | ⟨b,h,rfl | rfl⟩
 ·rw [h]
 ·rfl
 ·rfl
theorem zM {S:Type} {v:AV} {k:TV→Prg S}:qL look v.nf k=qL look v k:=by
 rcases az v with h | ⟨b,h,rfl | rfl⟩
 ·rw [h]
 ·rfl
 ·rfl
theorem zo {S:Type} {v:AV} {k:TV→List (Nat × Nat)→Prg S}:qj look v.nf k=qj look v k:=by
 rcases az v with h | ⟨b,h,rfl | rfl⟩
 ·rw [h]
 ·rfl
 ·rfl
theorem ja {S:Type}:∀ {vs:List AV} {k:List TV→Prg S},lends look (vs.map AV.nf) k=lends look vs k
 | [],k=>rfl
 | v :: vs,k=>by simp only [List.map_cons,lends,zM,ja]
theorem qV {S:Type}:∀ {vs:List AV} {k:List TV→List (Nat × Nat)→Prg S},hands look (vs.map AV.nf) k=hands look vs k
 | [],k=>rfl
 | v :: vs,k=>by simp only [List.map_cons,hands,zo,qV]
theorem Aq {E:Env} {id:Nat} {look:Look} {f:FuncId} {ld:eP} (vs:List AV):mD E id look f ld (vs.map AV.nf)=mD E id look f ld vs:=by
 cases vs with
 | nil=>rfl
 | cons v l =>
  rcases az v with h | ⟨b,h,rfl | rfl⟩
  ·simp only [List.map_cons,h]
   cases v with
   | one c =>
    cases c with
    | ptr i off =>
     cases off with
     | zero=>simp only [mD,qV]
     | succ n=>rfl
    | _=>rfl
   | _=>rfl
  ·simp only [List.map_cons,h]; rfl
  ·simp only [List.map_cons,h]; rfl
theorem zA {look:Look} {f:FuncId} {c:Nat × Nat} (vs:List AV):nh look f c (vs.map AV.nf)=nh look f c vs:=by
 cases vs with
 | nil=>rfl
 | cons v l =>
  rcases az v with h | ⟨b,h,rfl | rfl⟩
  ·simp only [List.map_cons,h]
   cases v with
   | one c =>
    cases c with
    | ptr i off =>
     cases off with
     | zero=>simp only [nh,ja]
     | succ n=>rfl
    | _=>rfl
   | _=>rfl
  ·simp only [List.map_cons,h]; rfl
  ·simp only [List.map_cons,h]; rfl
theorem zS {look:Look} {f:FuncId} (vs:List AV):kJ look f (vs.map AV.nf)=kJ look f vs:=by
 cases vs with
 | nil=>rfl
 | cons v l =>
  rcases az v with h | ⟨b,h,rfl | rfl⟩
  ·simp only [List.map_cons,h]
   cases v with
   | one c=>cases c <;> simp only [kJ,ja]
   | _=>rfl
  ·simp only [List.map_cons,h]; rfl
  ·simp only [List.map_cons,h]; rfl
theorem BB {E:Env} {id:Nat} {look:Look} {f:FuncId} {i:Nat} (vs:List AV):uB E id look f i (vs.map AV.nf)=uB E id look f i vs:=by
 simp only [uB,ja]
theorem Bv (d:TyD) (t:TypeId) (v:AV):Aa d t v.nf=Aa d t v:=by
 rcases az v with h | ⟨b,h,rfl | rfl⟩
 ·rw [h]
 ·rfl
 ·rfl
theorem zZ (d:TyD) (t:TypeId) (v:AV):rX d t v.nf=rX d t v:=by
 simp only [rX,fJ]
theorem yH {S:Type} {v:Option AV} {k:Option Nat→Prg S}:eX (v.map AV.nf) k=eX v k:=by
 cases v with
 | none=>rfl
 | some v=>simp only [eX,Co,fJ]
theorem sg (v:AV):qc v.nf=qc v:=by
 rcases az v with h | ⟨b,h,rfl | rfl⟩
 ·rw [h]
 ·rfl
 ·rfl
theorem wU {S:Type} {d:TyD} {dest:Option Nat} {v:AV} {k:List (List TV)→List Prim→Prg S}:ur look d dest v.nf k=ur look d dest v k:=by
 rcases az v with h | ⟨b,h,rfl | rfl⟩
 ·rw [h]
 ·rfl
 ·rfl
theorem ln {kd:Kd} {sz:Nat} {x:AV} {lo hi:Option AV}:ii look kd sz x.nf (lo.map AV.nf) (hi.map AV.nf)=ii look kd sz x lo hi:=by
 simp only [ii,fJ,yH]
 rcases az x with h | ⟨b,h,rfl | rfl⟩
 ·rw [h]
  cases lo <;> rfl
 ·rfl
 ·rfl
theorem AM (v:AV):rW v.nf=rW v:=by
 rcases az v with h | ⟨b,h,rfl | rfl⟩
 ·rw [h]
 ·rfl
 ·rfl
theorem opL_nf {op : Op} {vs : List AV} {e : Eff} (h : (opL E id look op vs).hits C e) : ∃ e', (opL E id look op (vs.map AV.nf)).hits C e' ∧ e'.nfE = e.nfE := by
 cases op with
 | move x =>
  rcases vs with _ | ⟨v,_ | ⟨v',r⟩⟩ <;> first | exact h.elim | skip
  cases h
  exact ⟨_,rfl,by simp [Eff.nfE,ss]⟩
 | assign x =>
  rcases vs with _ | ⟨v,_ | ⟨v',r⟩⟩ <;> first | exact h.elim | skip
  cases h
  exact ⟨_,rfl,by simp [Eff.nfE,ss]⟩
 | pick c x y =>
  rcases vs with _ | ⟨v,_ | ⟨v',_ | ⟨v'',_ | ⟨v3,r⟩⟩⟩⟩ <;> first | exact h.elim | skip
  simp only [opL] at h
  split at h
  ·rename_i b
   cases h
   refine ⟨_,rfl,?_⟩
   cases b <;> simp [Eff.nfE,ss]
  ·rename_i v
   obtain ⟨b,hb,h⟩:=h
   have hv:v=.lit (.bool b):=by
    unfold asBool at hb
    split at hb
    ·cases hb; rfl
    ·cases hb
   subst hv
   rcases h with ⟨rfl,h⟩ | ⟨rfl,h⟩ <;> (cases h; exact ⟨_,rfl,by simp [Eff.nfE,ss]⟩)
  ·rename_i v
   obtain ⟨b,hb,h⟩:=h
   have hv:v=.lit (.bool b):=by
    unfold asBool at hb
    split at hb
    ·cases hb; rfl
    ·cases hb
   subst hv
   rcases h with ⟨rfl,h⟩ | ⟨rfl,h⟩ <;> (cases h; exact ⟨_,rfl,by simp [Eff.nfE,ss]⟩)
  ·exact h.elim
 | alloc t =>
  rcases vs with _ | ⟨v,r⟩ <;> first | exact h.elim | exact ⟨e,h,rfl⟩
 | box t x =>
  rcases vs with _ | ⟨v,_ | ⟨v',r⟩⟩ <;> first | exact h.elim | skip
  refine ⟨e,?_,rfl⟩
  simp only [opL,List.map_cons,List.map_nil] at h ⊢
  split at h
  ·exact eM h
  ·exact h.elim
 | makeFunc fn first cap =>
  cases fn with
  | func f =>
   have:∃ cs,e=.val (.clo f cs):=by
    simp only [opL] at h
    cases hb:first.size.beq 0 with
    | false=>simp [hb,Prg.hits] at h
    | true =>
     simp only [hb,cond_true] at h
     exact jh (k:=fun l=>l) h
   obtain ⟨cs,rfl⟩:=this
   refine ⟨_,?_,rfl⟩
   simp only [opL] at h ⊢
   cases hb:first.size.beq 0 with
   | false=>simp [hb,Prg.hits] at h
   | true=>simp only [hb,cond_true] at h ⊢; exact kG h
  | _=>exact h.elim
 | build t parts =>
  refine ⟨e,?_,rfl⟩
  simp only [opL] at h ⊢
  split at h
  ·rename_i d hd
   cases hb:kt E.T d.kd with
   | false=>simp [hb,Prg.hits] at h
   | true=>simp only [hb,cond_true] at h ⊢; exact pI h
  ·exact h.elim
 | buildSlice t len parts =>
  refine ⟨e,?_,rfl⟩
  simp only [opL] at h ⊢
  cases hc:E.cold t && !(len.beq 0) with
  | true =>
   rw [hc] at h
   simp only [cond_true] at h ⊢
   unfold qW at h ⊢
   split at h
   ·exact pI h
   ·exact h.elim
  | false =>
   rw [hc] at h
   simp only [cond_false] at h ⊢
   unfold ic at h ⊢
   split at h
   ·exact pI h
   ·exact h.elim
 | load t x =>
  rcases vs with _ | ⟨v,_ | ⟨v',r⟩⟩ <;> first | exact h.elim | skip
  refine ⟨e,?_,rfl⟩
  rcases az v with h1 | ⟨b,h1,rfl | rfl⟩
  ·simpa only [List.map_cons,List.map_nil,h1] using h
  ·simp only [opL] at h; split at h <;> exact h.elim
  ·simp only [opL] at h; split at h <;> exact h.elim
 | store t x y =>
  rcases vs with _ | ⟨v,_ | ⟨v',_ | ⟨v'',r⟩⟩⟩ <;> first | exact h.elim | skip
  refine ⟨e,?_,rfl⟩
  simp only [opL,List.map_cons,List.map_nil] at h ⊢
  split at h
  ·rcases az v with h1 | ⟨b,h1,rfl | rfl⟩
   ·rw [h1]
    unfold tB at h ⊢
    split at h
    ·rename_i e0 _ _ i0 off0 len0 n0
     cases hk0:e0.kd.isAgg with
     | true=>rw [hk0] at h; exact h.elim
     | false =>
      rw [hk0] at h
      simp only [cond_false] at h ⊢
      split at h
      ·exact eM h
      ·exact h.elim
    ·exact eM h
    ·exact eM h
    ·exact h.elim
   ·exact h.elim
   ·exact h.elim
  ·exact h.elim
 | nilCheck x =>
  rcases vs with _ | ⟨v,_ | ⟨v',r⟩⟩ <;> first | exact h.elim | skip
  refine ⟨e,?_,rfl⟩
  rcases az v with h1 | ⟨b,h1,rfl | rfl⟩
  ·simpa only [List.map_cons,List.map_nil,h1] using h
  ·exact h.elim
  ·exact h.elim
 | binOp op xt x y yt =>
  rcases vs with _ | ⟨v,_ | ⟨v',_ | ⟨v'',r⟩⟩⟩ <;> first | exact h.elim | skip
  refine ⟨e,?_,rfl⟩
  simp only [opL,List.map_cons,List.map_nil] at h ⊢
  split at h
  ·unfold Bp at h ⊢
   split at h
   ·split at h
    ·exact eM (uI (fun cs h=>eM h) h)
    ·exact h.elim
   ·simp only [Ba,AM] at h ⊢
    exact h
   ·simp only [A3,ud,fJ] at h ⊢
    exact h
  ·exact h.elim
 | unOp op xt x =>
  rcases vs with _ | ⟨v,_ | ⟨v',r⟩⟩ <;> first | exact h.elim | skip
  rcases az v with h1 | ⟨b,h1,h2⟩
  ·refine ⟨e,?_,rfl⟩
   simpa only [List.map_cons,List.map_nil,h1] using h
  ·have hv:∃ t,(opL E id look (.unOp op xt x) [v]).hits C e→(Prg.tv (pun op (.lit (.bool b))) vt).hits C e:=⟨(),by rcases h2 with rfl | rfl <;> intro h <;> cases op <;> exact h⟩
   obtain ⟨_,hv⟩:=hv
   obtain ⟨z,hz,hh⟩:=hv h
   cases op with
   | not =>
    simp only [pun,Cd] at hz
    subst hz
    cases hh
    refine ⟨.val (.bl !b),?_,rfl⟩
    simp only [List.map_cons,List.map_nil,h1]
    rfl
   | _=>simp [pun] at hz
 | convert xt dt x =>
  rcases vs with _ | ⟨v,_ | ⟨v',r⟩⟩ <;> first | exact h.elim | skip
  refine ⟨e,?_,rfl⟩
  simp only [opL,List.map_cons,List.map_nil,wQ,fJ,ud] at h ⊢
  exact h
 | makeSlice t x y =>
  rcases vs with _ | ⟨v,_ | ⟨v',_ | ⟨v'',r⟩⟩⟩ <;> first | exact h.elim | skip
  refine ⟨e,?_,rfl⟩
  simp only [opL,List.map_cons,List.map_nil,fJ] at h ⊢
  exact h
 | slice t x lo hi mx =>
  refine ⟨e,?_,rfl⟩
  cases mx with
  | some m=>rcases vs with _ | ⟨v,r⟩ <;> exact h.elim
  | none =>
   rcases vs with _ | ⟨v,r⟩
   ·exact h.elim
   ·simp only [opL, List.map_cons] at h ⊢
    split at h
    ·rename_i d hT
     split at h
     ·rename_i sz hsz
      cases lo with
      | none =>
       cases hi with
       | none =>
        rcases r with _ | ⟨l,r⟩
        ·have:=ln (look:=look) (kd:=d.kd) (sz:=sz) (x:=v) (lo:=none) (hi:=none)
         simp only [Option.map_none] at this
         simp only [List.map_nil]
         rw [this]; exact h
        ·exact h.elim
       | some hh =>
        rcases r with _ | ⟨l,_ | ⟨l',r⟩⟩
        ·exact h.elim
        ·have:=ln (look:=look) (kd:=d.kd) (sz:=sz) (x:=v) (lo:=none) (hi:=some l)
         simp only [Option.map_none,Co] at this
         simp only [List.map_cons,List.map_nil]
         rw [this]; exact h
        ·exact h.elim
      | some ll =>
       cases hi with
       | none =>
        rcases r with _ | ⟨l,_ | ⟨l',r⟩⟩
        ·exact h.elim
        ·have:=ln (look:=look) (kd:=d.kd) (sz:=sz) (x:=v) (lo:=some l) (hi:=none)
         simp only [Option.map_none,Co] at this
         simp only [List.map_cons,List.map_nil]
         rw [this]; exact h
        ·exact h.elim
       | some hh =>
        rcases r with _ | ⟨l,_ | ⟨l',_ | ⟨l'',r⟩⟩⟩
        ·exact h.elim
        ·exact h.elim
        ·have:=ln (look:=look) (kd:=d.kd) (sz:=sz) (x:=v) (lo:=some l) (hi:=some l')
         simp only [Co] at this
         simp only [List.map_cons,List.map_nil]
         rw [this]; exact h
        ·exact h.elim
     ·exact h.elim
    ·exact h.elim
 | fieldAddr t x f =>
  rcases vs with _ | ⟨v,_ | ⟨v',r⟩⟩ <;> first | exact h.elim | skip
  refine ⟨e,?_,rfl⟩
  rcases az v with h1 | ⟨b,h1,rfl | rfl⟩
  ·simpa only [List.map_cons,List.map_nil,h1] using h
  ·simp only [opL] at h
   split at h
   ·rename_i hv
    cases hv
    split at h
    ·rename_i n _ _
     cases hb:Nat.blt 0 n <;> simp [hb,CA.add,Prg.hits] at h
    ·exact h.elim
   ·exact h.elim
  ·simp only [opL] at h
   split at h
   ·rename_i hv; cases hv
   ·exact h.elim
 | field t x f =>
  rcases vs with _ | ⟨v,_ | ⟨v',r⟩⟩ <;> first | exact h.elim | skip
  refine ⟨e,?_,rfl⟩
  rcases az v with h1 | ⟨b,h1,rfl | rfl⟩
  ·simpa only [List.map_cons,List.map_nil,h1] using h
  ·simp only [opL] at h
   split at h
   ·split at h <;> exact h.elim
   ·exact h.elim
  ·simp only [opL] at h
   split at h
   ·split at h
    ·simp [tC,TV.isAgg,Prg.hits] at h
    ·exact h.elim
   ·exact h.elim
 | indexAddr t x y =>
  rcases vs with _ | ⟨v,_ | ⟨v',_ | ⟨v'',r⟩⟩⟩ <;> first | exact h.elim | skip
  refine ⟨e,?_,rfl⟩
  simp only [opL,List.map_cons,List.map_nil] at h ⊢
  split at h
  ·rcases az v with h1 | ⟨b,h1,rfl | rfl⟩
   ·simp only [h1,ow,fJ] at h ⊢; exact h
   ·simp only [ow,fJ] at h ⊢; exact h
   ·simp only [ow,fJ] at h ⊢; exact h
  ·unfold pz at h ⊢
   rw [fJ]
   rcases az v with h1 | ⟨b,h1,rfl | rfl⟩
   ·rw [h1]; exact h
   ·split at h
    ·split at h <;> first | exact h.elim | (rename_i hx _; cases hx)
    ·exact h.elim
   ·split at h
    ·split at h <;> first | exact h.elim | (rename_i hx _; cases hx)
    ·exact h.elim
 | index t x y =>
  rcases vs with _ | ⟨v,_ | ⟨v',_ | ⟨v'',r⟩⟩⟩ <;> first | exact h.elim | skip
  refine ⟨e,?_,rfl⟩
  simp only [opL,List.map_cons,List.map_nil,fJ] at h ⊢
  split at h
  ·exact h
  ·unfold pA at h ⊢
   rw [fJ]
   rcases az v with h1 | ⟨b,h1,rfl | rfl⟩
   ·rw [h1]; exact h
   ·split at h
    ·split at h <;> first | exact h.elim | (rename_i hx _; cases hx)
    ·exact h.elim
   ·split at h
    ·split at h <;> first | exact h.elim | (rename_i hx _; cases hx)
    ·exact h.elim
 | extract x j =>
  rcases vs with _ | ⟨v,_ | ⟨v',r⟩⟩ <;> first | exact h.elim | skip
  refine ⟨e,?_,rfl⟩
  rcases az v with h1 | ⟨b,h1,rfl | rfl⟩
  ·simpa only [List.map_cons,List.map_nil,h1] using h
  ·exact h.elim
  ·exact h.elim
 | call c =>
  refine ⟨e,?_,rfl⟩
  obtain ⟨callee,args,tys⟩:=c
  cases callee with
  | builtin b =>
   simp only [opL] at h ⊢
   unfold dO at h
   split at h
   ·rename_i x ty htys
    simp only [htys,dO,List.map_cons,List.map_nil]
    split at h
    ·rename_i d hd
     have key:∀ kd,(vZ look kd x).hits C e→(vZ look kd x.nf).hits C e:=by intro kd; cases kd <;> simp only [vZ,ud] <;> exact fun h=>h
     exact key _ h
    ·exact h.elim
   ·rename_i s x ty ty' htys
    simp only [htys,dO,List.map_cons,List.map_nil]
    split at h
    ·rename_i _ d hel
     cases hb:Nat.beq ty ty' with
     | false =>
      simp only [hb,cond_false] at h ⊢
      split at h
      ·rename_i hu
       unfold kM at h ⊢
       rw [fJ]
       rcases az s with h1 | ⟨b,h1,rfl | rfl⟩
       ·rw [h1]; exact h
       ·exact h
       ·exact h
      ·exact h.elim
     | true =>
      simp only [hb,cond_true] at h ⊢
      unfold mA at h ⊢
      rw [wU,sg]
      rcases az s with h1 | ⟨b,h1,rfl | rfl⟩
      ·rw [h1]; exact h
      ·exact h
      ·exact h
    ·exact h.elim
   ·rename_i s x ty ty' htys
    simp only [htys,dO,List.map_cons,List.map_nil]
    split at h
    ·rename_i _ d hel
     cases hb:Nat.beq ty ty' with
     | false=>simp [hb,Prg.hits] at h
     | true =>
      simp only [hb,cond_true] at h ⊢
      unfold xk at h ⊢
      rw [wU,sg]
      rcases az s with h1 | ⟨b,h1,rfl | rfl⟩
      ·rw [h1]; exact h
      ·exact h
      ·exact h
    ·exact h.elim
   ·rename_i s ty htys
    simp only [htys,dO,List.map_cons,List.map_nil]
    split at h
    ·unfold tV at h ⊢
     rcases az s with h1 | ⟨b,h1,rfl | rfl⟩
     ·rw [h1]; exact h
     ·exfalso
      revert h
      cases Nat.blt 0 _ <;> exact fun h=>h.elim
     ·exfalso
      revert h
      cases Nat.blt 0 _ <;> exact fun h=>h.elim
    ·exact h.elim
   ·simp only [dO,List.map_cons,List.map_nil,vu,fJ] at h ⊢
    exact h
   ·simp only [dO,List.map_cons,List.map_nil,vu,fJ] at h ⊢
    exact h
   ·exact h.elim
  | value f =>
   cases f with
   | func f =>
    rcases vs with _ | ⟨v,r⟩
    ·exact h.elim
    ·simp only [opL,List.map_cons,lO,ja,qV,Aq,zA,zS] at h ⊢
     exact h
   | tmp t =>
    rcases vs with _ | ⟨v,r⟩
    ·exact h.elim
    ·simp only [opL,List.map_cons,fJ,ja,BB] at h ⊢
     rcases az v with h1 | ⟨b,h1,rfl | rfl⟩
     ·rw [h1]; exact h
     ·exact h
     ·exact h
   | _=>exact h.elim
  | invoke r m=>exact h.elim
 | makeInterface t x =>
  rcases vs with _ | ⟨v,_ | ⟨v',r⟩⟩ <;> first | exact h.elim | skip
  refine ⟨e,?_,rfl⟩
  simp only [opL,List.map_cons,List.map_nil,Bv] at h ⊢
  exact h
 | typeAssert x xt t ok =>
  rcases vs with _ | ⟨v,_ | ⟨v',r⟩⟩ <;> cases ok <;> first | exact h.elim | skip
  refine ⟨e,?_,rfl⟩
  simp only [opL,List.map_cons,List.map_nil,zZ] at h ⊢
  exact h
 | _=>exact h.elim
theorem ku (st:ASt):st.nfS.look=st.look:=rfl
theorem mX (st:ASt):st.nfS.base=st.base:=rfl
theorem tQ (st:ASt) (d:Option Tmp):st.nfS.nid d=st.nid d:=by cases d <;> rfl
theorem im (st:ASt) (d:Option Tmp) (v:AV):(st.put d v).nfS=st.nfS.put d v.nf:=by
 cases d with
 | none=>rfl
 | some d=>simp [ASt.nfS,ASt.put,ag,List.map_set]
theorem qo (st:ASt) (i:Nat) (b:Option BC):(st.ab i b).nfS=st.nfS.ab i b:=rfl
theorem iY (st:ASt) (t:Nat):nth (.one .junk) st.nfS.slots t=(nth (.one .junk) st.slots t).nf:=by
 simp only [ASt.nfS,aI,Ch]
 cases st.slots[t]? <;> rfl
theorem yg (ps:List Nat) (st:ASt) (d:Option Nat) (e:Eff):bR ps st.nfS d e.nfE=bR ps st d e:=by
 unfold bR
 congr 1
 funext k
 cases d with
 | none=>rw [mX,bS]
 | some d=>simp only [mX,bS,iY,kU]
theorem mZ (k s:Nat):∀ (l:List AV) (n:Nat),eE k s n (l.map AV.nf)=eE k s n l
 | [],n=>rfl
 | v :: l,n=>by simp only [List.map_cons,eE,kU,mZ k s l (n + 1)]
theorem uY {k:Nat} {v:AV} (h:ji k v=true):ji k v.nf=true:=by
 unfold ji at h
 split at h
 ·exact h
 ·cases h
theorem hU {e:Eff} {i:Nat} {y:TV} (h:jb e=some (i,y)):e=.gen [.drop i 0 [] false,.root i 0 y] (.one (.sref i 0 [])):=by
 unfold jb at h
 split at h
 ·rename_i i' j y' k
  cases hb:i'.beq j && i'.beq k with
  | false=>rw [hb] at h; cases h
  | true =>
   simp only [hb,cond_true,Cd,Prod.mk.injEq] at h
   simp only [Ce] at hb
   obtain ⟨rfl,rfl⟩:=h
   rw [← (am _ _).1 hb.1,← (am _ _).1 hb.2]
 ·cases h
theorem lN (i:Nat) (y:TV):jb (.gen [.drop i 0 [] false,.root i 0 y] (.one (.sref i 0 [])))=some (i,y):=by
 simp only [jb,(am i i).2 rfl,Bool.and_self,cond_true]
theorem xY {o:Item} {st:ASt} {e:Eff} (h:cE o st e=true):cE o st.nfS e.nfE=true:=by
 unfold cE at h ⊢
 split at h
 ·rename_i s i y h1 h2
  have:=hU h2
  subst this
  simp only [Ce] at h
  simp only [h1,Eff.nfE,AV.nf,lN,Ce]
  refine ⟨⟨⟨⟨⟨h.1.1.1.1.1,?_⟩,h.1.1.1.2⟩,?_⟩,h.1.2⟩,h.2⟩
  ·rw [iY]; exact uY h.1.1.1.1.2
  ·rw [show st.nfS.slots=st.slots.map AV.nf from rfl,mZ]; exact h.1.1.2
 ·cases h
theorem qJ (st:ASt) (x:Operand):st.nfS.ev x=(st.ev x).nf:=by
 cases x with
 | tmp t=>exact iY st t
 | const v =>
  cases v with
  | bool b=>rfl
  | _=>first | rfl | (simp only [ASt.ev]; cases Value.oneCell' _ <;> rfl)
 | global g=>rfl
 | func f=>rfl
theorem pQ:∀ (l:List AV),bW (l.map AV.nf)=bW l
 | []=>rfl
 | v :: l=>by simp only [List.map_cons,bW,fJ,pQ l]
theorem jq (e:Eff):gM e.nfE=gM e:=by
 cases e with
 | new b v=>cases b <;> rfl
 | _=>rfl
theorem yz {i:Item} {st:ASt} {e:Eff}:gf i st.nfS e.nfE=gf i st e:=by
 unfold gf
 have:i.o.op.operands.toList.map st.nfS.ev=(i.o.op.operands.toList.map st.ev).map AV.nf:=by
  rw [List.map_map]
  exact List.map_congr_left fun x _=>qJ st x
 rw [this,pQ,jq,bS]
 rfl
theorem uP:∀ (l:List AV),fd (l.map AV.nf)=fd l
 | []=>rfl
 | v :: l=>by simp only [List.map_cons,fd,kU,uP l]
theorem nM (e:Eff):ko e.nfE=ko e:=by cases e <;> rfl
theorem wc (e:Eff):drE e.nfE=drE e:=by cases e <;> rfl
theorem rD (k:Nat) (e:Eff):sQ k e.nfE=sQ k e:=by cases e <;> rfl
theorem pM (v:AV):(v.nf.bC CA.deep).dp=(v.bC CA.deep).dp:=by
 rcases az v with h | ⟨b,h,rfl | rfl⟩
 ·rw [h]
 ·rw [h]; rfl
 ·rw [h]; rfl
theorem uy:∀ (l:List AV),fd (bG CA.deep (l.map AV.nf))=fd (bG CA.deep l)
 | []=>rfl
 | v :: l=>by simp only [List.map_cons,bG,fd,pM,uy l]
theorem pi (e:Eff):mK e.nfE=mK e:=by
 cases e with
 | val v=>exact pM v
 | new b v=>exact bS (.new b v)
 | upd i b v=>exact bS (.upd i b v)
 | gen ps v=>exact bS (.gen ps v)
theorem yE {i:Item} {st:ASt} {e:Eff}:bV i st.nfS e.nfE=bV i st e:=by
 unfold bV
 simp only [nM,wc,rD]
 rfl
theorem yq {i:Item} {st:ASt} {e:Eff}:cC i st.nfS e.nfE=cC i st e:=by
 unfold cC
 have hd:∀ d b,io st.nfS d b=io st d b:=fun d b=>by
  cases d with
  | none=>rfl
  | some d =>
   have:=qJ st (.tmp d)
   simp only [ASt.ev] at this
   simp only [io,this,kU]
 have hd2:∀ d b,fI st.nfS d b=fI st d b:=fun d b=>by
  cases d with
  | none=>rfl
  | some d =>
   have:=qJ st (.tmp d)
   simp only [ASt.ev] at this
   simp only [fI,this,pM]
 simp only [hd,hd2,bS,pi]
 have:i.o.op.operands.toList.map st.nfS.ev=(i.o.op.operands.toList.map st.ev).map AV.nf:=by
  rw [List.map_map]
  exact List.map_congr_left fun x _=>qJ st x
 rw [this,uP,uy]
 rfl
theorem okE_nf {i:Item} {st:ASt} {e:Eff} (h:okE i st e=true):okE i st.nfS e.nfE=true:=by
 unfold okE at h ⊢
 rw [Bool.or_eq_true] at h ⊢
 rcases h with h | h
 ·rw [yE]; exact .inl h
 refine .inr ?_
 rw [Bool.or_eq_true] at h ⊢
 rcases h with h | h
 ·rw [mI,vi,mX,yg,yz,yq]; exact .inl h
 ·exact .inr (xY h)
theorem tN (hs:Sim w0 I0 st a ov w):Sim w0 I0 st.nfS a ov w:=by
 obtain ⟨g,hs⟩:=hs
 refine ⟨g,hs.below,hs.sub,hs.lt,hs.old,by simp [ASt.nfS,hs.len],hs.defers,fun t v hv=>?_,hs.olen,hs.outs,hs.cells,hs.trees,hs.foot,hs.apart,hs.apartR,hs.res,hs.base,hs.out⟩
 simp only [ASt.nfS,Ch] at hv
 cases hsl:st.slots[t]? with
 | none=>simp [hsl] at hv
 | some u =>
  simp only [hsl,Co,Cd] at hv
  subst hv
  exact AB.2 (hs.slots t u hsl)
theorem dQ (hs:Sim w0 I0 st.nfS a ov w):Sim w0 I0 st a ov w:=by
 obtain ⟨g,hs⟩:=hs
 refine ⟨g,hs.below,hs.sub,hs.lt,hs.old,by have:=hs.len; simpa [ASt.nfS] using this,hs.defers,fun t v hv=>?_,hs.olen,hs.outs,hs.cells,hs.trees,hs.foot,hs.apart,hs.apartR,hs.res,hs.base,hs.out⟩
 exact AB.1 (hs.slots t v.nf (by simp [ASt.nfS,hv]))
theorem nu (i r:Nat) (js:List Nat) (b:Bool) (v:AV):(v.bC (CA.drop i r js b)).nf=v.nf.bC (CA.drop i r js b):=by
 rcases az v with h | ⟨b,h,rfl | rfl⟩
 ·rw [h]
  cases v with
  | one c =>
   have key:∀ c:CA,c.drop i r js b=c∨c.drop i r js b=.junk:=fun c=>by
    rcases ec i r js b c with ⟨h,_⟩ | h
    ·exact .inl h
    ·exact .inr h
   simp only [AV.bC]
   rcases key c with h' | h'
   ·rw [h',h]
   ·rw [h']; rfl
  | tv x=>exact h
  | _=>rfl
 ·rfl
 ·rfl
theorem AL (st:ASt) (i r:Nat) (js:List Nat) (b:Bool):(st.ap (CA.drop i r js b)).nfS=st.nfS.ap (CA.drop i r js b):=by
 simp only [ASt.nfS,ASt.ap]
 congr 1
 apply List.ext_getElem?
 intro t
 simp only [Ch,lw]
 cases st.slots[t]? with
 | none=>rfl
 | some v=>simp [nu]
theorem oK (i:Nat) (v:AV):(v.bC (CA.unM i)).nf=v.nf.bC (CA.unM i):=by
 cases v with
 | one c =>
  cases c with
  | t x =>
   cases x with
   | lit u=>cases u <;> rfl
   | _=>rfl
  | may j ty =>
   simp only [AV.bC,CA.unM,AV.nf]
   cases j.beq i <;> rfl
  | _=>rfl
 | tv x =>
  cases x with
  | lit u=>cases u <;> rfl
  | _=>rfl
 | _=>rfl
theorem Bm (st:ASt) (i:Nat):(st.ap (CA.unM i)).nfS=st.nfS.ap (CA.unM i):=by
 simp only [ASt.ap,ASt.nfS]
 congr 1
 induction st.slots with
 | nil=>rfl
 | cons v l ih=>simp only [bG,List.map_cons,oK,ih]
theorem sX {i:Nat} {b:BC} (h:st.bc i b=some st'):st.nfS.bc i b=some st'.nfS:=by
 obtain ⟨h1,h2,rfl⟩:=aZ h
 have h2':i.blt st.nfS.boxes.length=true:=by simpa [ASt.nfS] using h2
 simp only [ASt.bc,ku,h1,h2',cond_true,qo]
theorem o8 {d:Option Tmp}:∀ {ps:List Prim} {st st':ASt},ac d ps st=some st'→ac d ps st.nfS=some st'.nfS
 | [],st,st',h=>by simp only [ac,Cd] at h; subst h; rfl
 | p :: ps, st, st', h => by
  simp only [ac] at h ⊢
  cases h1:p.app st d with
  | none=>simp [h1] at h
  | some s1 =>
   simp only [h1] at h
   have:p.app st.nfS d=some s1.nfS:=by
    cases p with
    | drop i r js b =>
     simp only [Prim.app,Cd] at h1 ⊢
     subst h1
     rw [AL]
    | root i r x =>
     simp only [Prim.app,ku] at h1 ⊢
     split at h1
     ·rename_i b hb
      simp only [Cd] at h1
      subst h1
      rfl
     ·cases h1
    | frz i r =>
     simp only [Prim.app,ku] at h1 ⊢
     split at h1
     ·rename_i x hx
      split at h1
      ·rename_i b hb
       simp only [Cd] at h1
       subst h1
       rfl
      ·cases h1
     ·cases h1
    | unmay i =>
     simp only [Prim.app,Cd] at h1 ⊢
     subst h1
     rw [Bm]
    | newB b =>
     cases d with
     | none=>simp [Prim.app] at h1
     | some d =>
      simp only [Prim.app] at h1 ⊢
      rw [tQ]
      exact sX h1
    | setB i cs =>
     simp only [Prim.app,ku] at h1 ⊢
     split at h1
     ·simp only [Cd] at h1
      subst h1
      rfl
     ·cases h1
   rw [this]
   exact o8 h
theorem app_nf {e:Eff} {d:Option Tmp} (h:e.app st d=some st'):e.nfE.app st.nfS d=some st'.nfS:=by
 cases e with
 | val v =>
  simp only [Eff.app,Eff.nfE,Cd] at h ⊢
  subst h
  rw [im]
 | new b v =>
  cases d with
  | none=>simp [Eff.app] at h
  | some d =>
   simp only [Eff.app,Eff.nfE] at h ⊢
   rw [tQ]
   split at h
   ·rename_i s1 hs1
    simp only [Cd] at h
    subst h
    rw [sX hs1]
    simp only [im]
   ·cases h
 | upd i b v =>
  simp only [Eff.app,Eff.nfE,Cd] at h ⊢
  subst h
  rw [im,qo]
 | gen ps v =>
  simp only [Eff.app,Eff.nfE] at h ⊢
  split at h
  ·rename_i s1 hs1
   simp only [Cd] at h
   subst h
   rw [o8 hs1]
   simp only [im]
  ·cases h
theorem jv {d:Option Tmp} {v:AV} (hs:Sim w0 I0 (st.put d v) a ov w):Sim w0 I0 (st.put d v.nf) a ov w:=by
 apply dQ
 have:=tN hs
 rw [im] at this ⊢
 rwa [ss]
theorem wL {e:Eff} {d:Option Tmp} (h:e.nfE.app st d=some st'):∃ st1,e.app st d=some st1∧∀ w0 I0 a ov w,Sim w0 I0 st1 a ov w→Sim w0 I0 st' a ov w:=by
 cases e with
 | val v =>
  simp only [Eff.app,Eff.nfE,Cd] at h ⊢
  subst h
  exact ⟨_,rfl,fun w0 I0 a ov w hs=>jv hs⟩
 | new b v =>
  cases d with
  | none=>simp [Eff.app,Eff.nfE] at h
  | some d =>
   simp only [Eff.app,Eff.nfE] at h ⊢
   split at h
   ·rename_i s1 hs1
    simp only [Cd] at h
    subst h
    exact ⟨_,rfl,fun w0 I0 a ov w hs=>jv hs⟩
   ·cases h
 | upd i b v =>
  simp only [Eff.app,Eff.nfE,Cd] at h ⊢
  subst h
  exact ⟨_,rfl,fun w0 I0 a ov w hs=>jv hs⟩
 | gen ps v =>
  simp only [Eff.app,Eff.nfE] at h ⊢
  split at h
  ·rename_i s1 hs1
   simp only [Cd] at h
   subst h
   exact ⟨_,rfl,fun w0 I0 a ov w hs=>jv hs⟩
  ·cases h
end
end Go.Ab
end
section
namespace Go.Ab
open Go.RowKit
def Prg.All {R:Type} (p:R→Prop):Prg R→Prop
 | .fail=>True
 | .ret e=>p e
 | .tv _ k=>∀ v,(k v).All p
 | .tvs _ k=>∀ v,(k v).All p
 | .rws _ k=>∀ v,(k v).All p
 | .nat _ k=>∀ v,(k v).All p
 | .chk _ k=>k.All p
 | .ite _ t e=>t.All p∧e.All p
 | .call _ _ k=>∀ v,(k v).All p
 | .jmp _ _=>True
theorem Prg.All.hits {R:Type} {C:Cal} {p:R→Prop} {e:R}:∀ {o:Prg R},o.All p→o.hits C e→p e
 | .ret e',h,h'=>by cases h'; exact h
 | .tv _ k,h,⟨v,_,h'⟩=>(h v).hits h'
 | .tvs _ k,h,⟨v,_,h'⟩=>(h v).hits h'
 | .rws _ k,h,⟨v,_,h'⟩=>(h v).hits h'
 | .nat _ k,h,⟨v,_,h'⟩=>(h v).hits h'
 | .chk _ k,h,⟨_,h'⟩=>Prg.All.hits (o:=k) h h'
 | .ite _ t e,h,⟨v,_,.inl ⟨_,h'⟩⟩=>Prg.All.hits (o:=t) h.1 h'
 | .ite _ t e,h,⟨v,_,.inr ⟨_,h'⟩⟩=>Prg.All.hits (o:=e) h.2 h'
 | .call _ _ k,h,⟨v,_,h'⟩=>(h v).hits h'
section
variable {E:Env} {look look':Look} {p:Eff→Prop} {id:Nat}
theorem aB {b:Bool} {x y:Out} (hx:x.All p) (hy:y.All p):(bif b then x else y).All p:=by cases b <;> assumption
theorem gX {q:Way} {x:TV} {k:TV→Out} (h:∀ y,(k y).All p):(mc q x k).All p:=by
 unfold mc
 split
 ·exact h _
 ·exact h
theorem eT {c:CA} {k:TV→Out} (h:∀ y,(k y).All p):(gZ look c k).All p:=by
 unfold gZ
 split
 ·exact h _
 ·split
  ·exact gX h
  ·exact trivial
 ·split
  ·exact gX fun y z=>h z
  ·exact trivial
 ·exact trivial
theorem mm {v:AV} {k:TV→Out} (h:∀ y,(k y).All p):(rS look v k).All p:=by
 unfold rS
 split
 ·exact eT h
 ·exact h _
 ·exact h _
 ·exact trivial
theorem sH {c:CA} {k:TV→Out} (h:∀ y,(k y).All p):(qB look c k).All p:=by
 unfold qB
 split
 ·exact h _
 ·exact eT fun y=>h _
 ·exact eT fun y=>h _
 ·exact trivial
theorem sS {k:List TV→Out}:∀ {cs:List CA} {k:List TV→Out},(∀ y,(k y).All p)→(xd look cs k).All p
 | [],k,h=>h _
 | c :: cs,k,h=>sH fun y=>sS (k:=fun _=>.fail) fun ys=>h _
theorem yr {v:AV} {k:TV→Out} (h:∀ y,(k y).All p):(qL look v k).All p:=by
 unfold qL
 split
 ·exact sH h
 ·exact h _
 ·exact sS (k:=fun _=>.fail) fun ys=>h _
 ·exact trivial
 ·exact trivial
 ·exact h _
theorem fu:∀ {vs:List AV} {k:List TV→Out},(∀ y,(k y).All p)→(lends look vs k).All p
 | [],k,h=>h _
 | v :: vs,k,h=>yr fun y=>fu fun ys=>h _
theorem tq {c:CA} {k:TV→List (Nat × Nat)→Out} (h:∀ y r,(k y r).All p):(qQ look c k).All p:=by
 unfold qQ
 split
 ·exact h _ _
 ·split
  ·split
   ·exact h _ _
   ·exact fun y=>h _ _
  ·exact trivial
 ·split
  ·split
   ·exact fun y=>h _ _
   ·exact fun z y=>h _ _
  ·exact trivial
 ·exact trivial
theorem sG:∀ {cs:List CA} {k:List TV→List (Nat × Nat)→Out},(∀ y r,(k y r).All p)→(wT look cs k).All p
 | [],k,h=>h _ _
 | c :: cs,k,h=>tq fun y r=>sG fun ys rs=>h _ _
theorem yd {v:AV} {k:TV→List (Nat × Nat)→Out} (h:∀ y r,(k y r).All p):(qj look v k).All p:=by
 unfold qj
 split
 ·exact tq h
 ·exact h _ _
 ·exact sG fun ys rs=>h _ _
 ·exact trivial
 ·exact trivial
 ·exact h _ _
theorem nD:∀ {vs:List AV} {k:List TV→List (Nat × Nat)→Out},(∀ y r,(k y r).All p)→(hands look vs k).All p
 | [],k,h=>h _ _
 | v :: vs,k,h=>yd fun y r=>nD fun ys rs=>h _ _
theorem dL:∀ {cs:List CA} {k:List TV→List Prim→List (Nat × Nat)→Out},(∀ y q r,(k y q r).All p)→(ce look cs k).All p
 | [],k,h=>h _ _ _
 | .t x :: l,k,h=>by
  simp only [ce]
  exact dL (cs:=l) fun xs ps ts=>h _ _ _
 | .sref i r q :: l, k, h => by
  simp only [ce]
  split
  ·split
   ·exact dL (cs:=l) fun xs ps ts=>h _ _ _
   ·exact fun y=>dL (cs:=l) fun xs ps ts=>h _ _ _
  ·exact trivial
 | .swin i r q lo len :: l, k, h => by
  simp only [ce]
  split
  ·split
   ·exact fun y=>dL (cs:=l) fun xs ps ts=>h _ _ _
   ·exact fun z y=>dL (cs:=l) fun xs ps ts=>h _ _ _
  ·exact trivial
 | .ptr _ _ :: l,k,h=>trivial
 | .ref _ _ :: l,k,h=>trivial
 | .tptr _ _ _ _ _ :: l,k,h=>trivial
 | .may _ _ :: l,k,h=>trivial
 | .aptr _ _ _ _ :: l,k,h=>trivial
 | .ifp _ _ :: l,k,h=>trivial
 | .fn1 _ _ :: l,k,h=>trivial
 | .yl _ :: l,k,h=>trivial
 | .undef :: l,k,h=>trivial
 | .junk :: l,k,h=>trivial
theorem dM:∀ {cs:List CA} {k:List TV→List Prim→List (Nat × Nat)→Out},(∀ y q r,(k y q r).All p)→(bM look cs k).All p
 | [],k,h=>h _ _ _
 | .t x :: l,k,h=>by
  simp only [bM]
  exact dM (cs:=l) fun xs ps ts=>h _ _ _
 | .sref i r q :: l, k, h => by
  simp only [bM]
  split
  ·split
   ·exact dM (cs:=l) fun xs ps ts=>h _ _ _
   ·exact fun y=>⟨dM (cs:=l) fun xs ps ts=>h _ _ _,fun x'=>dM (cs:=l) fun xs ps ts=>h _ _ _⟩
  ·exact trivial
 | .swin i r q lo len :: l, k, h => by
  simp only [bM]
  split
  ·split
   ·exact fun y=>dM (cs:=l) fun xs ps ts=>h _ _ _
   ·exact fun z y=>dM (cs:=l) fun xs ps ts=>h _ _ _
  ·exact trivial
 | .ptr _ _ :: l,k,h=>trivial
 | .ref _ _ :: l,k,h=>trivial
 | .tptr _ _ _ _ _ :: l,k,h=>trivial
 | .may _ _ :: l,k,h=>trivial
 | .aptr _ _ _ _ :: l,k,h=>trivial
 | .ifp _ _ :: l,k,h=>trivial
 | .fn1 _ _ :: l,k,h=>trivial
 | .yl _ :: l,k,h=>trivial
 | .undef :: l,k,h=>trivial
 | .junk :: l,k,h=>trivial
theorem dN {agg:Bool} {n:Nat} {x:AV} {k:List CA→Out} (h:∀ cs,(k cs).All p):(x.aP agg n k).All p:=by
 unfold AV.aP
 split
 ·rename_i c; cases c.kept <;> first | exact trivial | exact h _
 ·exact h _
 ·exact h _
 ·exact h _
 ·rename_i cs; cases cs.length.beq n <;> first | exact trivial | exact h _
 ·exact h _
 ·exact trivial
theorem mu {at_:Nat→Option (Nat × Bool × Nat)} {k:List CA→Out} (h:∀ cs,(k cs).All p):∀ (is:List Nat) (vs:List AV) (cs:List CA),(bE at_ is vs cs k).All p
 | [],[],cs=>h cs
 | i :: is, x :: vs, cs => by
  simp only [bE]
  split
  ·refine dN (fun ps=>?_)
   exact aB (mu h is vs _) trivial
  ·exact trivial
 | [],_ :: _,cs=>trivial
 | _ :: _,[],cs=>trivial
theorem eB {v:Option AV} {k:Option Nat→Out} (h:∀ n,(k n).All p):(eX v k).All p:=by
 unfold eX
 split
 ·exact h _
 ·split
  ·exact fun v=>h _
  ·exact trivial
abbrev cK (e:Eff):Prop:=∃ v,e=.val v
abbrev cL (e:Eff):Prop:=∃ b v,e=.new b v
theorem vm {d:TyD} {x:List TV} {off:Nat}:(jE d x off).All cK:=by
 unfold jE
 cases d.kd.isAgg
 ·exact ⟨_,rfl⟩
 ·exact ⟨_,rfl⟩
theorem tp:∀ {vs:List AV} {k:List CA→Out},(∀ cs,(k cs).All p)→(jP vs k).All p
 | [],k,h=>h _
 | v :: vs,k,h=>dN fun cs=>tp fun cs'=>h _
theorem BO {op:Op} (h:aj op=.N) (vs:List AV):(opL E id look op vs).All cK:=by
 cases op with
 | move x=>rcases vs with _ | ⟨v,_ | ⟨v',r⟩⟩ <;> first | exact trivial | exact ⟨_,rfl⟩
 | assign x=>rcases vs with _ | ⟨v,_ | ⟨v',r⟩⟩ <;> first | exact trivial | exact ⟨_,rfl⟩
 | pick c x y =>
  rcases vs with _ | ⟨v,_ | ⟨v',_ | ⟨v'',_ | ⟨v3,r⟩⟩⟩⟩ <;> first | exact trivial | skip
  simp only [opL]
  split <;> first | exact trivial | exact ⟨_,rfl⟩ | exact ⟨⟨_,rfl⟩,⟨_,rfl⟩⟩
 | build t parts =>
  simp only [opL]
  split
  ·refine aB ?_ trivial
   refine mu ?_ _ _ _
   exact fun cs=>⟨_,rfl⟩
  ·exact trivial
 | nilCheck x =>
  rcases vs with _ | ⟨v,_ | ⟨v',r⟩⟩ <;> first | exact trivial | skip
  simp only [opL]
  split <;> first | exact trivial | exact ⟨_,rfl⟩
 | unOp op xt x =>
  rcases vs with _ | ⟨v,_ | ⟨v',r⟩⟩ <;> first | exact trivial | skip
  simp only [opL]
  split
  ·exact ⟨_,rfl⟩
  ·split
   ·exact fun v=>⟨_,rfl⟩
   ·exact trivial
 | fieldAddr t x f =>
  rcases vs with _ | ⟨v,_ | ⟨v',r⟩⟩ <;> first | exact trivial | skip
  simp only [opL]
  split
  ·split
   ·refine aB ?_ trivial
    split <;> first | exact trivial | exact ⟨_,rfl⟩
   ·exact trivial
  ·exact trivial
 | field t x f =>
  rcases vs with _ | ⟨v,_ | ⟨v',r⟩⟩ <;> first | exact trivial | skip
  simp only [opL]
  split
  ·split
   ·unfold tC
    split
    ·split
     ·split <;> first | exact trivial | exact ⟨_,rfl⟩
     ·exact trivial
    ·exact ⟨_,rfl⟩
    ·exact trivial
   ·exact trivial
  ·exact trivial
 | index t x y =>
  rcases vs with _ | ⟨v,_ | ⟨v',_ | ⟨v'',r⟩⟩⟩ <;> first | exact trivial | skip
  simp only [opL]
  split
  ·exact fun v=>⟨_,rfl⟩
  ·unfold pA
   split
   ·split
    ·refine aB ?_ trivial
     split
     ·exact fun k v=>⟨_,rfl⟩
     ·exact trivial
    ·exact trivial
   ·exact trivial
 | extract x j =>
  rcases vs with _ | ⟨v,_ | ⟨v',r⟩⟩ <;> first | exact trivial | skip
  simp only [opL]
  split
  ·split
   ·split <;> first | exact trivial | exact ⟨_,rfl⟩
   ·exact trivial
  ·exact trivial
 | makeFunc fn first cap =>
  cases fn with
  | func f =>
   simp only [opL]
   exact aB (tp fun cs=>⟨_,rfl⟩) trivial
  | _=>exact trivial
 | call c =>
  obtain ⟨callee,args,tys⟩:=c
  cases callee with
  | builtin b=>cases b <;> simp [aj] at h
  | value f=>cases f <;> simp [aj] at h
  | invoke r m=>simp [aj] at h
 | makeInterface t x =>
  rcases vs with _ | ⟨v,_ | ⟨v',r⟩⟩ <;> first | exact trivial | skip
  simp only [opL]
  split
  ·unfold Aa
   refine aB ?_ trivial
   split
   ·exact ⟨_,rfl⟩
   ·split
    ·exact fun v=>⟨_,rfl⟩
    ·exact trivial
  ·exact trivial
 | typeAssert x xt t ok =>
  rcases vs with _ | ⟨v,_ | ⟨v',r⟩⟩ <;> cases ok <;> first | exact trivial | skip
  simp only [opL]
  split
  ·unfold rX
   refine aB ?_ trivial
   split
   ·exact fun v=>⟨_,rfl⟩
   ·exact trivial
  ·exact trivial
 | _=>simp [aj] at h
theorem Ag {op:Op} (h:aj op=.R) (vs:List AV):(opL E id look op vs).All cK:=by
 cases op with
 | load t x =>
  rcases vs with _ | ⟨v,_ | ⟨v',r⟩⟩ <;> first | exact trivial | skip
  simp only [opL]
  split
  ·unfold xu
   split
   ·refine aB trivial ?_
    split
    ·exact fun v=>⟨_,rfl⟩
    ·exact trivial
   ·split
    ·split
     ·split
      ·exact ⟨_,rfl⟩
      ·exact trivial
     ·exact trivial
    ·exact trivial
   ·exact vm
   ·split
    ·refine gX (fun s e=>?_)
     simp only [Prg.All]
     split
     ·exact ⟨_,rfl⟩
     ·exact trivial
    ·exact trivial
   ·exact trivial
  ·exact trivial
 | convert xt dt x =>
  rcases vs with _ | ⟨v,_ | ⟨v',r⟩⟩ <;> first | exact trivial | skip
  simp only [opL]
  split
  ·unfold wQ
   split
   ·split
    ·exact aB (mm fun y=>fun rows=>fun v=>⟨_,rfl⟩) trivial
    ·exact trivial
   ·split
    ·exact fun v=>⟨_,rfl⟩
    ·exact trivial
  ·exact trivial
 | binOp op xt x y yt =>
  rcases vs with _ | ⟨v,_ | ⟨v',_ | ⟨v'',r⟩⟩⟩ <;> first | exact trivial | skip
  simp only [opL]
  split
  ·unfold Bp
   split
   ·split
    ·refine dN fun cs=>dN fun cs'=>?_
     split
     ·exact fun v=>⟨_,rfl⟩
     ·exact trivial
    ·exact trivial
   ·unfold Ba
    split
    ·exact ⟨_,rfl⟩
    ·exact ⟨_,rfl⟩
    ·exact trivial
   unfold A3
   refine aB (mm fun x=>mm fun y=>fun v=>⟨_,rfl⟩) ?_
   split
   ·exact fun v=>⟨_,rfl⟩
   ·exact trivial
  ·exact trivial
 | slice t x lo hi mx =>
  have sl:∀ {kd:Kd} {sz:Nat} {x:AV} {lo hi:Option AV},(ii look kd sz x lo hi).All cK:=by
   intro kd sz x lo hi
   unfold ii
   split
   ·exact eB fun lo=>eB fun hi=>fun v=>⟨_,rfl⟩
   ·split
    ·exact eT fun s n=>eB fun lo=>eB fun hi=>⟨_,rfl⟩
    ·split
     ·exact eT fun s=>eB fun hi=>⟨_,rfl⟩
     ·exact eT fun s=>eB fun lo=>eB fun hi=>⟨_,rfl⟩
    ·exact trivial
  cases mx with
  | some m=>rcases vs with _ | ⟨v,r⟩ <;> exact trivial
  | none =>
   rcases vs with _ | ⟨v,r⟩
   ·exact trivial
   ·simp only [opL]
    split
    ·split
     ·split <;> first | exact trivial | exact sl
     ·exact trivial
    ·exact trivial
 | indexAddr t x y =>
  rcases vs with _ | ⟨v,_ | ⟨v',_ | ⟨v'',r⟩⟩⟩ <;> first | exact trivial | skip
  simp only [opL]
  split
  ·unfold ow
   split
   ·split
    ·exact fun v=>⟨_,rfl⟩
    ·split
     ·exact eT fun s n k=>⟨_,rfl⟩
     ·exact eT fun s k=>⟨_,rfl⟩
     ·exact trivial
   ·exact trivial
  ·unfold pz
   split
   ·split
    ·exact aB (fun k=>⟨_,rfl⟩) trivial
    ·exact trivial
   ·exact trivial
 | call c =>
  obtain ⟨callee,args,tys⟩:=c
  cases callee with
  | builtin b =>
   have mn:∀ {mx:Bool} {x y:AV},(vu mx x y).All cK:=by
    intro mx x y
    unfold vu
    split
    ·exact fun v=>⟨_,rfl⟩
    ·exact trivial
   cases b <;> simp [aj] at h
   all_goals simp only [opL]
   all_goals unfold dO
   all_goals split <;> first | exact trivial | exact mn | contradiction | skip
   split
   ·unfold vZ
    split
    ·exact ⟨_,rfl⟩
    ·exact mm fun s v=>⟨_,rfl⟩
   ·exact trivial
  | value f=>cases f <;> simp [aj] at h
  | invoke r m=>simp [aj] at h
 | _=>simp [aj] at h
theorem cls_A {op:Op} (h:aj op=.A) (vs:List AV):(opL E id look op vs).All cL:=by
 cases op with
 | alloc t =>
  rcases vs with _ | ⟨v,r⟩ <;> first | exact trivial | skip
  simp only [opL]
  split
  ·exact ⟨_,_,rfl⟩
  ·exact trivial
 | box t x =>
  rcases vs with _ | ⟨v,_ | ⟨v',r⟩⟩ <;> first | exact trivial | skip
  simp only [opL]
  split
  ·exact dN (fun cs=>⟨_,_,rfl⟩)
  ·exact trivial
 | makeSlice t x y =>
  rcases vs with _ | ⟨v,_ | ⟨v',_ | ⟨v'',r⟩⟩⟩ <;> first | exact trivial | skip
  simp only [opL]
  split
  ·refine aB ?_ trivial
   exact fun n m=>⟨_,_,rfl⟩
  ·exact trivial
 | call c =>
  obtain ⟨callee,args,tys⟩:=c
  cases callee with
  | builtin b=>cases b <;> simp [aj] at h
  | value f=>cases f <;> simp [aj] at h
  | invoke r m=>simp [aj] at h
 | _=>simp [aj] at h
theorem iw {ps:List Prim} {b:BC} {v:AV}:(cl ps b v).plain=true→cK (cl ps b v)∨cL (cl ps b v):=by
 cases ps with
 | nil=>exact fun _=>.inr ⟨_,_,rfl⟩
 | cons q l=>exact fun h=>by cases h
theorem sN {ps:List Prim} {v:AV}:(match ps with | []=>Eff.val v | _=>.gen ps v).plain=true→cK (match ps with | []=>Eff.val v | _=>.gen ps v)∨cL (match ps with | []=>Eff.val v | _=>.gen ps v):=by
 cases ps with
 | nil=>exact fun _=>.inl ⟨_,rfl⟩
 | cons q l=>exact fun h=>by cases h
theorem ju {d:TyD} {x:TV} {k:Out} (h:k.All p):(iJ d x k).All p:=by
 unfold iJ
 exact aB h h
theorem oQ {x:TV} {k:Out} (h:k.All p):∀ (ds:List TyD) (j:Nat),(fG x ds j k).All p
 | [],j=>h
 | d :: ds,j=>ju (oQ h ds (j + 1))
theorem rm {ds:List TyD} {v:TV} {ps:List Prim}:(rT id ds v ps).All fun e=>e.plain=true→cK e∨cL e:=by
 have many:∀ ds:List TyD,(Prg.chk (v.isTup ds.length) (fG v ds 0 (bif ga ds then .ret (cl ps (.tree (a7 v ds 0)) (.tups (dl id v ds 0 0)))
   else .ret (match ps with | []=>.val (.tups (dl id v ds 0 0)) | _=>.gen ps (.tups (dl id v ds 0 0)))))).All fun e=>e.plain=true→cK e∨cL e:=by
  intro ds
  refine oQ ?_ ds 0
  exact aB iw sN
 match ds with
 | []=>exact many []
 | [d] =>
  simp only [rT]
  refine ju ?_
  split
  ·exact aB iw sN
  ·exact trivial
 | d :: d' :: l=>exact many _
theorem Ad {ds:List TyD} {v:TV} {k:AV→Out} {p:Eff→Prop} (h:∀ av,(k av).All p):(Ay id ds v k).All p:=by
 have some:∀ (ds:List TyD) (j:Nat) (k:Out),k.All p→(fG v ds j k).All p:=by
  intro ds
  induction ds with
  | nil=>intro j k h; exact h
  | cons d ds ih=>intro j k h; exact ju (ih (j + 1) k h)
 unfold Ay
 split
 ·refine ju ?_
  split
  ·exact h _
  ·exact trivial
 ·exact some _ 0 _ (h _)
theorem xP {f:FuncId} {ld:eP} {vs:List AV}:(mD E id look f ld vs).All fun e=>e.plain=true→cK e∨cL e:=by
 unfold mD
 split
 ·split
  ·refine aB trivial ?_
   exact nD fun xs rs=>dL fun ys qs ts=>aB (fun v=>Ad fun av=>fun h=>by simp [Eff.plain] at h) trivial
  ·exact trivial
 ·exact trivial
theorem ye {f:FuncId} {c:Nat × Nat} {vs:List AV}:(nh look f c vs).All fun e=>e.plain=true→cK e∨cL e:=by
 unfold nh
 split
 ·split
  ·split
   ·exact aB (fu fun xs=>fun v=>fun _=>.inl ⟨_,rfl⟩) trivial
   ·exact trivial
  ·exact trivial
 ·exact trivial
theorem sT {p:Eff→Prop} {q:Way} {x y:TV} {k:TV→Out} (h:∀ y,(k y).All p):(uR q x y k).All p:=by
 unfold uR
 split
 ·exact h _
 ·exact fun v=>h _
theorem yw {f:FuncId} {vs:List AV}:(kJ look f vs).All fun e=>e.plain=true→cK e∨cL e:=by
 unfold kJ
 split
 ·split
  ·exact gX fun z=>fu fun xs=>fun v=>fun y=>sT fun x'=>fun h=>by cases h
  ·exact trivial
 ·split
  ·exact gX fun z=>fun z1=>fu fun xs=>fun v=>fun y=>sT fun x'=>fun h=>by cases h
  ·exact trivial
 ·exact trivial
theorem zg {f:FuncId} {i:Nat} {vs:List AV}:(uB E id look f i vs).All fun e=>e.plain=true→cK e∨cL e:=by
 unfold uB
 refine aB ?_ trivial
 split
 ·split
  ·exact fu fun xs=>fun v=>rm
  ·exact trivial
 ·exact trivial
theorem cls_B {op:Op} (h:aj op=.B) (vs:List AV):(opL E id look op vs).All fun e=>e.plain=true→cK e∨cL e:=by
 cases op with
 | buildSlice t len parts =>
  simp only [opL]
  refine aB ?_ ?_
  ·unfold qW
   split
   ·refine mu (fun cs=>?_) _ _ _
    split
    ·exact aB (fun _=>.inr ⟨_,_,rfl⟩) trivial
    ·exact trivial
   ·exact trivial
  unfold ic
  split
  ·refine mu (fun cs=>?_) _ _ _
   refine dM fun ys qs ts=>?_
   exact aB iw trivial
  ·exact trivial
 | call c =>
  obtain ⟨callee,args,tys⟩:=c
  cases callee with
  | builtin b=>cases b <;> simp [aj] at h
  | value f =>
   cases f with
   | func f =>
    rcases vs with _ | ⟨v,r⟩
    ·exact trivial
    ·simp only [opL,lO]
     refine aB yw (aB trivial ?_)
     split
     ·exact ye
     split
     ·exact xP
     ·split
      ·refine aB ?_ ?_
       ·exact fu fun xs=>fun v=>rm
       ·exact nD fun xs rs=>aB (fun v=>rm) trivial
      ·exact trivial
   | tmp t =>
    rcases vs with _ | ⟨v,r⟩
    ·exact trivial
    ·simp only [opL]
     split
     ·exact fun f=>fu fun xs v=>fun _=>.inl ⟨_,rfl⟩
     ·split
      ·exact zg
      ·exact trivial
   | _=>simp [aj] at h
  | invoke r m=>simp [aj] at h
 | _=>simp [aj] at h
abbrev isUpd (look:Look) (e:Eff):Prop:=∃ i b v,e=.upd i b v∧(look i).isSome=true
theorem zv {op : Op} (h : aj op = .W) (vs : List AV) : (opL E id look op vs).All fun e => e.plain = true → isUpd look e := by
 cases op with
 | store t x y =>
  rcases vs with _ | ⟨v,_ | ⟨v',_ | ⟨v'',r⟩⟩⟩ <;> first | exact trivial | skip
  simp only [opL]
  split
  ·unfold tB
   split
   ·refine aB trivial ?_
    split
    ·rename_i cs xs hrow
     refine dN (fun ps=>?_)
     split
     ·exact fun _=>⟨_,_,_,rfl,by simp [(iv hrow).1]⟩
     ·exact trivial
    ·exact trivial
   ·refine dN (fun ps=>?_)
    split
    ·rename_i cs hl
     exact aB (fun _=>⟨_,_,_,rfl,by simp [hl]⟩) trivial
    ·exact trivial
   ·refine dN (fun ps=>?_)
    split
    ·refine aB trivial (aB ?_ ?_)
     ·refine dL fun ys qs ts=>aB ?_ trivial
      exact gX fun s e=>fun x' hp=>by cases hp
     ·refine dL fun ys qs ts=>?_
      split
      ·refine aB ?_ trivial
       refine gX fun s e=>?_
       simp only [Prg.All]
       intro x'
       split
       ·rename_i b hb
        refine fun _=>⟨_,_,_,rfl,?_⟩
        unfold bO at hb
        split at hb
        ·rename_i hl; simp [hl]
        ·cases hb
       ·exact trivial
      ·exact trivial
    ·exact trivial
   ·exact trivial
  ·exact trivial
 | call c =>
  obtain ⟨callee,args,tys⟩:=c
  cases callee with
  | builtin b=>cases b <;> simp [aj] at h
  | value f=>cases f <;> simp [aj] at h
  | invoke r m=>simp [aj] at h
 | _=>simp [aj] at h
theorem oM {d:TyD} {s:AV} {news:List (List TV)} {ps:List Prim}:(lC id look d s news ps).All fun e=>e.plain=true→cK e∨cL e:=by
 unfold lC
 split
 ·exact aB (fun y=>iw) trivial
 ·split
  ·split
   ·split
    ·exact fun y h=>by cases h
    ·exact fun z y x' h=>by cases h
   ·exact trivial
  ·split
   ·split
    ·exact fun z y h=>by cases h
    ·exact fun z0 z y x' h=>by cases h
   ·exact trivial
  ·exact trivial
theorem zV {d:TyD} {dest:Option Nat} {x:AV} {k:List (List TV)→List Prim→Out} (h:∀ xs ps,(k xs ps).All p):(ur look d dest x k).All p:=by
 unfold ur
 split
 ·exact fun xs=>h _ _
 ·split
  ·refine aB ?_ ?_
   ·split
    ·split
     ·split
      ·exact aB trivial (fun xs=>h _ _)
      ·exact fun y=>fun xs=>h _ _
     ·exact trivial
    ·split
     ·split
      ·exact aB trivial (fun y xs=>h _ _)
      ·exact fun z y=>fun xs=>h _ _
     ·exact trivial
    ·exact trivial
   ·exact eT (fun s xs=>h _ _)
  ·exact trivial
theorem cls_P {op:Op} (h:aj op=.P) (vs:List AV):(opL E id look op vs).All fun e=>e.plain=true→cK e∨cL e:=by
 cases op with
 | call c =>
  obtain ⟨callee,args,tys⟩:=c
  cases callee with
  | builtin b =>
   cases b <;> simp [aj] at h
   simp only [opL]
   unfold dO
   split <;> try (first | exact trivial | contradiction)
   split
   ·refine aB ?_ ?_
    ·unfold mA
     exact aB (zV (fun xs ps=>oM)) trivial
    ·split
     ·unfold kM
      refine aB ?_ trivial
      split
      ·exact fun news=>oM
      ·exact trivial
     ·exact trivial
   ·exact trivial
  | value f=>cases f <;> simp [aj] at h
  | invoke r m=>simp [aj] at h
 | _=>simp [aj] at h
theorem sC {op:Op} (h:aj op=.N∨aj op=.A) (vs:List AV):opL E id look op vs=opL E id look' op vs:=by
 cases op <;> first
  | (rcases vs with _ | ⟨a,_ | ⟨b,_ | ⟨c,_ | ⟨d,r⟩⟩⟩⟩ <;> rfl)
  | (simp [aj] at h; done)
  | (rename_i fn _ _; cases fn <;> rfl)
  | (rename_i ok; cases ok <;> rcases vs with _ | ⟨a,_ | ⟨b,r⟩⟩ <;> rfl)
  | skip
 all_goals
  rename_i c
  obtain ⟨callee,args,tys⟩:=c
  cases callee with
  | builtin b=>cases b <;> simp [aj] at h
  | value f=>cases f <;> simp [aj] at h
  | invoke r m=>simp [aj] at h
end
end Go.Ab
end

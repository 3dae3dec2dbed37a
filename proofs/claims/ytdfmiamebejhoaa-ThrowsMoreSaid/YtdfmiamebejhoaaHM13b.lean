import Derived.Test.YtdfmiamebejhoaaHM12b
set_option linter.all false
section
namespace Go.Ab
open Go.RowKit
structure gf (P:Program) (G:Laid) (E:Env) (C:Cal):Prop where
 ty:∀ t d,E.T t=some d→aQ P t d
 call:vw P G E C
section
variable {P:Program} {E:Env} {C:Cal} {w0:Bs} {w w':World} {I0 I R:Nat→Prop} {g g':Gh} {st st':ASt} {a:Act} {ov:List Value} {look:Look} {Q:Exit→Act→World→Prop} {id:Nat}
theorem Bj (hE:gf P w0.G E C) (hlk:∀ i b,look i=some b→st.look i=some b) (hs:ai w0 I0 NoR g st a ov w) {o:Oper} {e:Eff} (hh:(opL E (st.nid o.dst) look o.op (o.op.operands.toList.map st.ev)).hits C e) (ha:e.app st o.dst=some st') :
  Good P w0 I0 ov o st' a w Q:=by
 obtain ⟨dst,op,type,pos,after,guard⟩:=o
 cases op with
 | move x=>exact Cf hs hh ha
 | assign x=>exact zm hs hh ha
 | pick c x y=>exact Cx hs hh ha
 | alloc t=>exact AF hE.ty hs hh ha
 | box t x=>exact op_box hE.ty hs hh ha
 | build t parts=>exact Bu hE.ty hs hh ha
 | makeFunc fn first cap=>exact wE hs hh ha
 | buildSlice t len parts =>
  simp only [opL] at hh
  cases hc:E.cold t && !(len.beq 0) with
  | true=>rw [hc] at hh; exact Ct hE.ty hlk hs hh ha
  | false=>rw [hc] at hh; exact sJ hE.ty hlk hs hh ha
 | load t x=>exact BY hE.ty hlk hs hh ha
 | store t x y=>exact BN hE.ty hlk hs hh ha
 | nilCheck x=>exact vf hs hh ha
 | binOp op xt x y yt=>exact op_bin hE.ty hlk hs hh ha
 | unOp op xt x=>exact op_un hs hh ha
 | convert xt dt x=>exact xB hE.ty hlk hs hh ha
 | makeSlice t x y=>exact uA hE.ty hs hh ha
 | makeInterface t x=>exact op_ifc hE.ty hs hh ha
 | typeAssert x xt t ok=>exact B0 hE.ty hs hh ha
 | slice t x lo hi mx=>exact Br hE.ty hlk hs hh ha
 | fieldAddr t x f=>exact ur hE.ty hs hh ha
 | field t x f=>exact AH hE.ty hs hh ha
 | indexAddr t x y=>exact uz hE.ty hlk hs hh ha
 | index t x y=>exact Bw hE.ty hs hh ha
 | extract x j=>exact xi hs hh ha
 | call c =>
  obtain ⟨callee,args,tys⟩:=c
  cases callee with
  | builtin b =>
   have hops:(Op.call ⟨.builtin b,args,tys⟩).operands.toList=args.toList:=by simp [Op.operands,Call.operands]
   simp only [hops] at hh
   simp only [opL] at hh
   unfold dQ at hh
   split at hh
   ·rename_i x ty hargs htys
    obtain ⟨ox,rfl,hox⟩:=list1 hargs
    have:=arr1 htys
    subst this
    split at hh
    ·rename_i d hT
     rw [← hox] at hh
     exact xe hlk hs (hE.ty _ _ hT) hh ha
    ·exact hh.elim
   ·rename_i s x ty ty' hargs htys
    obtain ⟨os,ox,rfl,hos,hox⟩:=list2 hargs
    have:=arr2 htys
    subst this
    split at hh
    ·rename_i e1 d hel
     cases hb:Nat.beq ty ty' with
     | false =>
      simp only [hb,cond_false] at hh
      split at hh
      ·rename_i hu
       rw [← hos,← hox] at hh
       exact qH hE.ty hlk hs hel hu rfl hh ha
      ·exact hh.elim
     | true =>
      simp only [hb,cond_true] at hh
      have:=(ao _ _).1 hb
      subst this
      rw [← hos,← hox] at hh
      exact sL hE.ty hlk hs hel hh ha
    ·exact hh.elim
   ·rename_i s x ty ty' hargs htys
    obtain ⟨os,ox,rfl,hos,hox⟩:=list2 hargs
    have:=arr2 htys
    subst this
    split at hh
    ·rename_i e1 d hel
     cases hb:Nat.beq ty ty' with
     | false=>simp [hb,Prg.hits] at hh
     | true =>
      simp only [hb,cond_true] at hh
      have:=(ao _ _).1 hb
      subst this
      rw [← hos,← hox] at hh
      exact vm hE.ty hlk hs hel hh ha
    ·exact hh.elim
   ·rename_i s ty hargs htys
    obtain ⟨os,rfl,hos⟩:=list1 hargs
    have:=arr1 htys
    subst this
    split at hh
    ·rename_i e1 d hel
     rw [← hos] at hh
     exact uT hE.ty hlk hs hel hh ha
    ·exact hh.elim
   ·rename_i x y hargs
    obtain ⟨ox,oy,rfl,hox,hoy⟩:=list2 hargs
    rw [← hox,← hoy] at hh
    exact rq hs hh ha
   ·rename_i x y hargs
    obtain ⟨ox,oy,rfl,hox,hoy⟩:=list2 hargs
    rw [← hox,← hoy] at hh
    exact rq hs hh ha
   ·exact hh.elim
  | value f =>
   cases f with
   | func f =>
    have hops:(Op.call ⟨.value (.func f),args,tys⟩).operands.toList=.func f :: args.toList:=by simp [Op.operands,Call.operands]
    simp only [hops,List.map_cons] at hh
    exact Cw hE.call hE.ty hlk hs hh ha
   | tmp t =>
    have hops:(Op.call ⟨.value (.tmp t),args,tys⟩).operands.toList=.tmp t :: args.toList:=by simp [Op.operands,Call.operands]
    simp only [hops,List.map_cons] at hh
    exact op_dyn hE.call hE.ty hlk hs hh ha
   | _=>simp [opL,Prg.hits] at hh
  | invoke r m=>simp [opL,Prg.hits] at hh
 | _=>simp [opL,Prg.hits] at hh
def AV.nf:AV→AV
 | .one (.t (.lit (.bool b)))=>.bl b
 | .tv (.lit (.bool b))=>.bl b
 | v=>v
def Eff.nfE:Eff→Eff
 | .val v=>.val v.nf
 | .new b v=>.new b v.nf
 | .upd i b v=>.upd i b v.nf
 | .gen ps v=>.gen ps v.nf
def ASt.nfS (st:ASt):ASt:=⟨st.slots.map AV.nf,st.boxes,st.out⟩
theorem aC (v:AV):v.nf=v∨∃ b,v.nf=.bl b∧(v=.one (.t (.lit (.bool b)))∨v=.tv (.lit (.bool b))):=by
 unfold AV.nf
 split
 ·exact .inr ⟨_,rfl,.inl rfl⟩
 ·exact .inr ⟨_,rfl,.inr rfl⟩
 ·exact .inl rfl
theorem tK (v:AV):v.nf.nf=v.nf:=by
 rcases aC v with h | ⟨b,h,_⟩
 ·rw [h,h]
 ·rw [h]; rfl
theorem gh (v:AV):v.nf.tv? = v.tv? := by
 rcases aC v with h | ⟨b,h,rfl | rfl⟩
 ·rw [h]
 ·rfl
 ·rfl
theorem As {v:AV} {u:Value}:bF w g look v.nf u ↔ bF w g look v u:=by
 rcases aC v with h | ⟨b,h,rfl | rfl⟩
 ·rw [h]
 ·rw [h]
  constructor
  ·intro h'
   have:u=.bool b:=h'
   subst this
   exact ⟨.lit _,rfl⟩
  ·intro h'
   exact bq h'.1
 ·rw [h]
  constructor
  ·intro h'
   have:u=.bool b:=h'
   subst this
   exact .lit _
  ·intro h'
   exact bq h'
theorem lR (v:AV):v.nf.dF=v.dF:=by
 rcases aC v with h | ⟨b,h,rfl | rfl⟩
 ·rw [h]
 ·rw [h]; rfl
 ·rw [h]; rfl
theorem bZ (e:Eff):cZ e.nfE=cZ e:=by cases e <;> simp only [Eff.nfE,cZ,lR]
theorem nq (e:Eff):e.nfE.plain=e.plain:=by cases e <;> rfl
theorem wo (base:Nat) (own:List (List Nat × List Nat)) (e:Eff):e.nfE.mj base own=e.mj base own:=by cases e <;> rfl
theorem vD {S:Type} {agg:Bool} {n:Nat} {v:AV} {k k':List CA→Prg S} {e:S} (hk:∀ cs,(k cs).hits C e→(k' cs).hits C e) (h:(v.aX agg n k).hits C e):(v.aX agg n k').hits C e:=by
 unfold AV.aX at h ⊢
 split at h
 ·rename_i c
  cases hc:c.kept with
  | true=>rw [hc] at h; exact hk _ h
  | false=>rw [hc] at h; exact h.elim
 ·exact ⟨h.1,hk _ h.2⟩
 ·exact hk _ h
 ·exact hk _ h
 ·rename_i cs
  cases hc:cs.length.beq n with
  | true=>rw [hc] at h; exact hk _ h
  | false=>rw [hc] at h; exact h.elim
 ·exact ⟨h.1,hk _ h.2⟩
 ·exact h.elim
theorem fb {S:Type} {agg:Bool} {n:Nat} {v:AV} {k:List CA→Prg S} {e:S} (h:(v.aX agg n k).hits C e):(v.nf.aX agg n k).hits C e:=by
 rcases aC v with h1 | ⟨b,h1,rfl | rfl⟩
 ·rwa [h1]
 ·rw [h1]
  cases agg with
  | false=>exact h
  | true=>exact h.elim
 ·rw [h1]
  cases agg with
  | false=>exact h.2
  | true=>exact (by simp [AV.aX,TV.isAgg,Prg.hits] at h)
theorem kY {S:Type} {e:S}:∀ {vs:List AV} {k:List CA→Prg S},(jW vs k).hits C e→(jW (vs.map AV.nf) k).hits C e
 | [],k,h=>h
 | x :: vs, k, h => by
  simp only [jW,List.map_cons] at h ⊢
  refine fb ?_
  unfold AV.aX at h ⊢
  split at h
  ·rename_i c _
   cases hc:c.kept with
   | false=>simp [hc,Prg.hits] at h
   | true=>simp only [hc,cond_true] at h ⊢; exact kY h
  ·exact ⟨h.1,kY h.2⟩
  ·exact kY h
  ·exact kY h
  ·rename_i cs' hb; cases hb
  ·rename_i cs' hb; cases hb
  ·exact h.elim
theorem jy {f:FuncId} {e:Eff}:∀ {vs:List AV} {k:List CA→List CA},(jW vs fun cs=>(.ret (.val (.clo f (k cs))):Out)).hits C e→∃ cs,e=.val (.clo f cs)
 | [],k,h=>⟨_,h.symm⟩
 | x :: vs, k, h => by
  simp only [jW] at h
  unfold AV.aX at h
  split at h
  ·rename_i c _
   cases hc:c.kept with
   | false=>simp [hc,Prg.hits] at h
   | true=>simp only [hc,cond_true] at h; exact jy (k:=fun cs=>k (_ ++ cs)) h
  ·exact jy (k:=fun cs=>k (_ ++ cs)) h.2
  ·exact jy (k:=fun cs=>k (_ ++ cs)) h
  ·exact jy (k:=fun cs=>k (_ ++ cs)) h
  ·rename_i hb; cases hb
  ·rename_i hb; cases hb
  ·exact h.elim
theorem qb {S:Type} {at_:Nat→Option (Nat × Bool × Nat)} {k:List CA→Prg S} {e:S}:∀ {is:List Nat} {vs:List AV} {cs:List CA},(bN at_ is vs cs k).hits C e→(bN at_ is (vs.map AV.nf) cs k).hits C e
 | [],[],cs,h=>h
 | i :: is, x :: vs, cs, h => by
  simp only [bN,List.map_cons] at h ⊢
  split at h
  ·rename_i off agg n hat
   have key:∀ ps,((bif (off + ps.length).ble cs.length && ps.length.beq n then bN at_ is vs (bK cs off ps) k else .fail):Prg S).hits C e→((bif (off + ps.length).ble cs.length && ps.length.beq n then bN at_ is (vs.map AV.nf) (bK cs off ps) k else .fail):Prg S).hits C e:=by
    intro ps hp
    cases hb:(off + ps.length).ble cs.length && ps.length.beq n with
    | false=>simp [hb,Prg.hits] at hp
    | true=>simp only [hb,cond_true] at hp ⊢; exact qb hp
   refine fb ?_
   unfold AV.aX at h ⊢
   split at h
   ·rename_i c
    cases hc:c.kept with
    | false=>simp [hc,Prg.hits] at h
    | true=>simp only [hc,cond_true] at h ⊢; exact key _ h
   ·exact ⟨h.1,key _ h.2⟩
   ·exact key _ h
   ·exact key _ h
   ·rename_i cs'
    have:=key cs'
    cases hc:cs'.length.beq n with
    | false=>simp [hc,Prg.hits] at h
    | true=>simp only [hc,cond_true] at h this ⊢; exact this h
   ·exact ⟨h.1,key _ h.2⟩
   ·exact h.elim
  ·exact h.elim
 | [],_ :: _,cs,h=>h.elim
 | _ :: _,[],cs,h=>h.elim
theorem un {S:Type} {v:AV} {k:TV→Prg S}:sR look v.nf k=sR look v k:=by
 rcases aC v with h | ⟨b,h,rfl | rfl⟩
 ·rw [h]
 ·rfl
 ·rfl
theorem AM {S:Type} {v:AV} {k:TV→Prg S}:rW look v.nf k=rW look v k:=by
 rcases aC v with h | ⟨b,h,rfl | rfl⟩
 ·rw [h]
 ·rfl
 ·rfl
theorem Au {S:Type} {v:AV} {k:TV→List (Nat × Nat)→Prg S}:qD look v.nf k=qD look v k:=by
 rcases aC v with h | ⟨b,h,rfl | rfl⟩
 ·rw [h]
 ·rfl
 ·rfl
theorem jd {S:Type}:∀ {vs:List AV} {k:List TV→Prg S},lends look (vs.map AV.nf) k=lends look vs k
 | [],k=>rfl
 | v :: vs,k=>by simp only [List.map_cons,lends,AM,jd]
theorem rm {S:Type}:∀ {vs:List AV} {k:List TV→List (Nat × Nat)→Prg S},hands look (vs.map AV.nf) k=hands look vs k
 | [],k=>rfl
 | v :: vs,k=>by simp only [List.map_cons,hands,Au,rm]
theorem Ao {E:Env} {id:Nat} {look:Look} {f:FuncId} {ld:eX} (vs:List AV):m9 E id look f ld (vs.map AV.nf)=m9 E id look f ld vs:=by
 cases vs with
 | nil=>rfl
 | cons v l =>
  rcases aC v with h | ⟨b,h,rfl | rfl⟩
  ·simp only [List.map_cons,h]
   cases v with
   | one c =>
    cases c with
    | ptr i off =>
     cases off with
     | zero=>simp only [m9,rm]
     | succ n=>rfl
    | _=>rfl
   | _=>rfl
  ·simp only [List.map_cons,h]; rfl
  ·simp only [List.map_cons,h]; rfl
theorem AD {look:Look} {f:FuncId} {c:Nat × Nat} (vs:List AV):nM look f c (vs.map AV.nf)=nM look f c vs:=by
 cases vs with
 | nil=>rfl
 | cons v l =>
  rcases aC v with h | ⟨b,h,rfl | rfl⟩
  ·simp only [List.map_cons,h]
   cases v with
   | one c =>
    cases c with
    | ptr i off =>
     cases off with
     | zero=>simp only [nM,jd]
     | succ n=>rfl
    | _=>rfl
   | _=>rfl
  ·simp only [List.map_cons,h]; rfl
  ·simp only [List.map_cons,h]; rfl
theorem Bv {look:Look} {f:FuncId} (vs:List AV):lr look f (vs.map AV.nf)=lr look f vs:=by
 cases vs with
 | nil=>rfl
 | cons v l =>
  rcases aC v with h | ⟨b,h,rfl | rfl⟩
  ·simp only [List.map_cons,h]
   cases v with
   | one c=>cases c <;> simp only [lr,jd]
   | _=>rfl
  ·simp only [List.map_cons,h]; rfl
  ·simp only [List.map_cons,h]; rfl
theorem Cl {E:Env} {id:Nat} {look:Look} {f:FuncId} {i:Nat} (vs:List AV):vk E id look f i (vs.map AV.nf)=vk E id look f i vs:=by
 simp only [vk,jd]
theorem Cv (d:TyD) (t:TypeId) (v:AV):BG d t v.nf=BG d t v:=by
 rcases aC v with h | ⟨b,h,rfl | rfl⟩
 ·rw [h]
 ·rfl
 ·rfl
theorem BE (d:TyD) (t:TypeId) (v:AV):tQ d t v.nf=tQ d t v:=by
 simp only [tQ,gh]
theorem zA {S:Type} {v:Option AV} {k:Option Nat→Prg S}:fk (v.map AV.nf) k=fk v k:=by
 cases v with
 | none=>rfl
 | some v=>simp only [fk,Dj,gh]
theorem ue (v:AV):rE v.nf=rE v:=by
 rcases aC v with h | ⟨b,h,rfl | rfl⟩
 ·rw [h]
 ·rfl
 ·rfl
theorem xO {S:Type} {d:TyD} {dest:Option Nat} {v:AV} {k:List (List TV)→List Prim→Prg S}:vl look d dest v.nf k=vl look d dest v k:=by
 rcases aC v with h | ⟨b,h,rfl | rfl⟩
 ·rw [h]
 ·rfl
 ·rfl
theorem lW {kd:Kd} {sz:Nat} {x:AV} {lo hi:Option AV}:ix look kd sz x.nf (lo.map AV.nf) (hi.map AV.nf)=ix look kd sz x lo hi:=by
 simp only [ix,gh,zA]
 rcases aC x with h | ⟨b,h,rfl | rfl⟩
 ·rw [h]
  cases lo <;> rfl
 ·rfl
 ·rfl
theorem AX (v:AV):te v.nf=te v:=by
 rcases aC v with h | ⟨b,h,rfl | rfl⟩
 ·rw [h]
 ·rfl
 ·rfl
theorem opL_nf {op : Op} {vs : List AV} {e : Eff} (h : (opL E id look op vs).hits C e) : ∃ e', (opL E id look op (vs.map AV.nf)).hits C e' ∧ e'.nfE = e.nfE := by
 cases op with
 | move x =>
  rcases vs with _ | ⟨v,_ | ⟨v',r⟩⟩ <;> first | exact h.elim | skip
  cases h
  exact ⟨_,rfl,by simp [Eff.nfE,tK]⟩
 | assign x =>
  rcases vs with _ | ⟨v,_ | ⟨v',r⟩⟩ <;> first | exact h.elim | skip
  cases h
  exact ⟨_,rfl,by simp [Eff.nfE,tK]⟩
 | pick c x y =>
  rcases vs with _ | ⟨v,_ | ⟨v',_ | ⟨v'',_ | ⟨v3,r⟩⟩⟩⟩ <;> first | exact h.elim | skip
  simp only [opL] at h
  split at h
  ·rename_i b
   cases h
   refine ⟨_,rfl,?_⟩
   cases b <;> simp [Eff.nfE,tK]
  ·rename_i v
   obtain ⟨b,hb,h⟩:=h
   have hv:v=.lit (.bool b):=by
    unfold asBool at hb
    split at hb
    ·cases hb; rfl
    ·cases hb
   subst hv
   rcases h with ⟨rfl,h⟩ | ⟨rfl,h⟩ <;> (cases h; exact ⟨_,rfl,by simp [Eff.nfE,tK]⟩)
  ·rename_i v
   obtain ⟨b,hb,h⟩:=h
   have hv:v=.lit (.bool b):=by
    unfold asBool at hb
    split at hb
    ·cases hb; rfl
    ·cases hb
   subst hv
   rcases h with ⟨rfl,h⟩ | ⟨rfl,h⟩ <;> (cases h; exact ⟨_,rfl,by simp [Eff.nfE,tK]⟩)
  ·exact h.elim
 | alloc t =>
  rcases vs with _ | ⟨v,r⟩ <;> first | exact h.elim | exact ⟨e,h,rfl⟩
 | box t x =>
  rcases vs with _ | ⟨v,_ | ⟨v',r⟩⟩ <;> first | exact h.elim | skip
  refine ⟨e,?_,rfl⟩
  simp only [opL,List.map_cons,List.map_nil] at h ⊢
  split at h
  ·exact fb h
  ·exact h.elim
 | makeFunc fn first cap =>
  cases fn with
  | func f =>
   have:∃ cs,e=.val (.clo f cs):=by
    simp only [opL] at h
    cases hb:first.size.beq 0 with
    | false=>simp [hb,Prg.hits] at h
    | true =>
     simp only [hb,cond_true] at h
     exact jy (k:=fun l=>l) h
   obtain ⟨cs,rfl⟩:=this
   refine ⟨_,?_,rfl⟩
   simp only [opL] at h ⊢
   cases hb:first.size.beq 0 with
   | false=>simp [hb,Prg.hits] at h
   | true=>simp only [hb,cond_true] at h ⊢; exact kY h
  | _=>exact h.elim
 | build t parts =>
  refine ⟨e,?_,rfl⟩
  simp only [opL] at h ⊢
  split at h
  ·rename_i d hd
   cases hb:lp E.T d.kd with
   | false=>simp [hb,Prg.hits] at h
   | true=>simp only [hb,cond_true] at h ⊢; exact qb h
  ·exact h.elim
 | buildSlice t len parts =>
  refine ⟨e,?_,rfl⟩
  simp only [opL] at h ⊢
  cases hc:E.cold t && !(len.beq 0) with
  | true =>
   rw [hc] at h
   simp only [cond_true] at h ⊢
   unfold qM at h ⊢
   split at h
   ·exact qb h
   ·exact h.elim
  | false =>
   rw [hc] at h
   simp only [cond_false] at h ⊢
   unfold ii at h ⊢
   split at h
   ·exact qb h
   ·exact h.elim
 | load t x =>
  rcases vs with _ | ⟨v,_ | ⟨v',r⟩⟩ <;> first | exact h.elim | skip
  refine ⟨e,?_,rfl⟩
  rcases aC v with h1 | ⟨b,h1,rfl | rfl⟩
  ·simpa only [List.map_cons,List.map_nil,h1] using h
  ·simp only [opL] at h; split at h <;> exact h.elim
  ·simp only [opL] at h; split at h <;> exact h.elim
 | store t x y =>
  rcases vs with _ | ⟨v,_ | ⟨v',_ | ⟨v'',r⟩⟩⟩ <;> first | exact h.elim | skip
  refine ⟨e,?_,rfl⟩
  simp only [opL,List.map_cons,List.map_nil] at h ⊢
  split at h
  ·rcases aC v with h1 | ⟨b,h1,rfl | rfl⟩
   ·rw [h1]
    unfold uu at h ⊢
    split at h
    ·rename_i e0 _ _ i0 off0 len0 n0
     cases hk0:e0.kd.isAgg with
     | true=>rw [hk0] at h; exact h.elim
     | false =>
      rw [hk0] at h
      simp only [cond_false] at h ⊢
      split at h
      ·exact fb h
      ·exact h.elim
    ·exact fb h
    ·exact fb h
    ·exact h.elim
   ·exact h.elim
   ·exact h.elim
  ·exact h.elim
 | nilCheck x =>
  rcases vs with _ | ⟨v,_ | ⟨v',r⟩⟩ <;> first | exact h.elim | skip
  refine ⟨e,?_,rfl⟩
  rcases aC v with h1 | ⟨b,h1,rfl | rfl⟩
  ·simpa only [List.map_cons,List.map_nil,h1] using h
  ·exact h.elim
  ·exact h.elim
 | binOp op xt x y yt =>
  rcases vs with _ | ⟨v,_ | ⟨v',_ | ⟨v'',r⟩⟩⟩ <;> first | exact h.elim | skip
  refine ⟨e,?_,rfl⟩
  simp only [opL,List.map_cons,List.map_nil] at h ⊢
  split at h
  ·unfold Cd at h ⊢
   split at h
   ·split at h
    ·exact fb (vD (fun cs h=>fb h) h)
    ·exact h.elim
   ·simp only [B4,AX] at h ⊢
    exact h
   ·simp only [Ce,un,gh] at h ⊢
    exact h
  ·exact h.elim
 | unOp op xt x =>
  rcases vs with _ | ⟨v,_ | ⟨v',r⟩⟩ <;> first | exact h.elim | skip
  rcases aC v with h1 | ⟨b,h1,h2⟩
  ·refine ⟨e,?_,rfl⟩
   simpa only [List.map_cons,List.map_nil,h1] using h
  ·have hv:∃ t,(opL E id look (.unOp op xt x) [v]).hits C e→(Prg.tv (pun op (.lit (.bool b))) vt).hits C e:=⟨(),by rcases h2 with rfl | rfl <;> intro h <;> cases op <;> exact h⟩
   obtain ⟨_,hv⟩:=hv
   obtain ⟨z,hz,hh⟩:=hv h
   cases op with
   | not =>
    simp only [pun,C8] at hz
    subst hz
    cases hh
    refine ⟨.val (.bl !b),?_,rfl⟩
    simp only [List.map_cons,List.map_nil,h1]
    rfl
   | _=>simp [pun] at hz
 | convert xt dt x =>
  rcases vs with _ | ⟨v,_ | ⟨v',r⟩⟩ <;> first | exact h.elim | skip
  refine ⟨e,?_,rfl⟩
  simp only [opL,List.map_cons,List.map_nil,yq,gh,un] at h ⊢
  exact h
 | makeSlice t x y =>
  rcases vs with _ | ⟨v,_ | ⟨v',_ | ⟨v'',r⟩⟩⟩ <;> first | exact h.elim | skip
  refine ⟨e,?_,rfl⟩
  simp only [opL,List.map_cons,List.map_nil,gh] at h ⊢
  exact h
 | slice t x lo hi mx =>
  refine ⟨e,?_,rfl⟩
  cases mx with
  | some m=>rcases vs with _ | ⟨v,r⟩ <;> exact h.elim
  | none =>
   rcases vs with _ | ⟨v,r⟩
   ·exact h.elim
   ·simp only [opL, List.map_cons] at h ⊢
    split at h
    ·rename_i d hT
     split at h
     ·rename_i sz hsz
      cases lo with
      | none =>
       cases hi with
       | none =>
        rcases r with _ | ⟨l,r⟩
        ·have:=lW (look:=look) (kd:=d.kd) (sz:=sz) (x:=v) (lo:=none) (hi:=none)
         simp only [Option.map_none] at this
         simp only [List.map_nil]
         rw [this]; exact h
        ·exact h.elim
       | some hh =>
        rcases r with _ | ⟨l,_ | ⟨l',r⟩⟩
        ·exact h.elim
        ·have:=lW (look:=look) (kd:=d.kd) (sz:=sz) (x:=v) (lo:=none) (hi:=some l)
         simp only [Option.map_none,Dj] at this
         simp only [List.map_cons,List.map_nil]
         rw [this]; exact h
        ·exact h.elim
      | some ll =>
       cases hi with
       | none =>
        rcases r with _ | ⟨l,_ | ⟨l',r⟩⟩
        ·exact h.elim
        ·have:=lW (look:=look) (kd:=d.kd) (sz:=sz) (x:=v) (lo:=some l) (hi:=none)
         simp only [Option.map_none,Dj] at this
         simp only [List.map_cons,List.map_nil]
         rw [this]; exact h
        ·exact h.elim
       | some hh =>
        rcases r with _ | ⟨l,_ | ⟨l',_ | ⟨l'',r⟩⟩⟩
        ·exact h.elim
        ·exact h.elim
        ·have:=lW (look:=look) (kd:=d.kd) (sz:=sz) (x:=v) (lo:=some l) (hi:=some l')
         simp only [Dj] at this
         simp only [List.map_cons,List.map_nil]
         rw [this]; exact h
        ·exact h.elim
     ·exact h.elim
    ·exact h.elim
 | fieldAddr t x f =>
  rcases vs with _ | ⟨v,_ | ⟨v',r⟩⟩ <;> first | exact h.elim | skip
  refine ⟨e,?_,rfl⟩
  rcases aC v with h1 | ⟨b,h1,rfl | rfl⟩
  ·simpa only [List.map_cons,List.map_nil,h1] using h
  ·simp only [opL] at h
   split at h
   ·rename_i hv
    cases hv
    split at h
    ·rename_i n _ _
     cases hb:Nat.blt 0 n <;> simp [hb,CA.add,Prg.hits] at h
    ·exact h.elim
   ·exact h.elim
  ·simp only [opL] at h
   split at h
   ·rename_i hv; cases hv
   ·exact h.elim
 | field t x f =>
  rcases vs with _ | ⟨v,_ | ⟨v',r⟩⟩ <;> first | exact h.elim | skip
  refine ⟨e,?_,rfl⟩
  rcases aC v with h1 | ⟨b,h1,rfl | rfl⟩
  ·simpa only [List.map_cons,List.map_nil,h1] using h
  ·simp only [opL] at h
   split at h
   ·split at h <;> exact h.elim
   ·exact h.elim
  ·simp only [opL] at h
   split at h
   ·split at h
    ·simp [uy,TV.isAgg,Prg.hits] at h
    ·exact h.elim
   ·exact h.elim
 | indexAddr t x y =>
  rcases vs with _ | ⟨v,_ | ⟨v',_ | ⟨v'',r⟩⟩⟩ <;> first | exact h.elim | skip
  refine ⟨e,?_,rfl⟩
  simp only [opL,List.map_cons,List.map_nil] at h ⊢
  split at h
  ·rcases aC v with h1 | ⟨b,h1,rfl | rfl⟩
   ·simp only [h1,oC,gh] at h ⊢; exact h
   ·simp only [oC,gh] at h ⊢; exact h
   ·simp only [oC,gh] at h ⊢; exact h
  ·unfold qm at h ⊢
   rw [gh]
   rcases aC v with h1 | ⟨b,h1,rfl | rfl⟩
   ·rw [h1]; exact h
   ·split at h
    ·split at h <;> first | exact h.elim | (rename_i hx _; cases hx)
    ·exact h.elim
   ·split at h
    ·split at h <;> first | exact h.elim | (rename_i hx _; cases hx)
    ·exact h.elim
 | index t x y =>
  rcases vs with _ | ⟨v,_ | ⟨v',_ | ⟨v'',r⟩⟩⟩ <;> first | exact h.elim | skip
  refine ⟨e,?_,rfl⟩
  simp only [opL,List.map_cons,List.map_nil,gh] at h ⊢
  split at h
  ·exact h
  ·unfold qf at h ⊢
   rw [gh]
   rcases aC v with h1 | ⟨b,h1,rfl | rfl⟩
   ·rw [h1]; exact h
   ·split at h
    ·split at h <;> first | exact h.elim | (rename_i hx _; cases hx)
    ·exact h.elim
   ·split at h
    ·split at h <;> first | exact h.elim | (rename_i hx _; cases hx)
    ·exact h.elim
 | extract x j =>
  rcases vs with _ | ⟨v,_ | ⟨v',r⟩⟩ <;> first | exact h.elim | skip
  refine ⟨e,?_,rfl⟩
  rcases aC v with h1 | ⟨b,h1,rfl | rfl⟩
  ·simpa only [List.map_cons,List.map_nil,h1] using h
  ·exact h.elim
  ·exact h.elim
 | call c =>
  refine ⟨e,?_,rfl⟩
  obtain ⟨callee,args,tys⟩:=c
  cases callee with
  | builtin b =>
   simp only [opL] at h ⊢
   unfold dQ at h
   split at h
   ·rename_i x ty htys
    simp only [htys,dQ,List.map_cons,List.map_nil]
    split at h
    ·rename_i d hd
     have key:∀ kd,(wV look kd x).hits C e→(wV look kd x.nf).hits C e:=by intro kd; cases kd <;> simp only [wV,un] <;> exact fun h=>h
     exact key _ h
    ·exact h.elim
   ·rename_i s x ty ty' htys
    simp only [htys,dQ,List.map_cons,List.map_nil]
    split at h
    ·rename_i _ d hel
     cases hb:Nat.beq ty ty' with
     | false =>
      simp only [hb,cond_false] at h ⊢
      split at h
      ·rename_i hu
       unfold kP at h ⊢
       rw [gh]
       rcases aC s with h1 | ⟨b,h1,rfl | rfl⟩
       ·rw [h1]; exact h
       ·exact h
       ·exact h
      ·exact h.elim
     | true =>
      simp only [hb,cond_true] at h ⊢
      unfold mV at h ⊢
      rw [xO,ue]
      rcases aC s with h1 | ⟨b,h1,rfl | rfl⟩
      ·rw [h1]; exact h
      ·exact h
      ·exact h
    ·exact h.elim
   ·rename_i s x ty ty' htys
    simp only [htys,dQ,List.map_cons,List.map_nil]
    split at h
    ·rename_i _ d hel
     cases hb:Nat.beq ty ty' with
     | false=>simp [hb,Prg.hits] at h
     | true =>
      simp only [hb,cond_true] at h ⊢
      unfold yB at h ⊢
      rw [xO,ue]
      rcases aC s with h1 | ⟨b,h1,rfl | rfl⟩
      ·rw [h1]; exact h
      ·exact h
      ·exact h
    ·exact h.elim
   ·rename_i s ty htys
    simp only [htys,dQ,List.map_cons,List.map_nil]
    split at h
    ·unfold uV at h ⊢
     rcases aC s with h1 | ⟨b,h1,rfl | rfl⟩
     ·rw [h1]; exact h
     ·exfalso
      revert h
      cases Nat.blt 0 _ <;> exact fun h=>h.elim
     ·exfalso
      revert h
      cases Nat.blt 0 _ <;> exact fun h=>h.elim
    ·exact h.elim
   ·simp only [dQ,List.map_cons,List.map_nil,vY,gh] at h ⊢
    exact h
   ·simp only [dQ,List.map_cons,List.map_nil,vY,gh] at h ⊢
    exact h
   ·exact h.elim
  | value f =>
   cases f with
   | func f =>
    rcases vs with _ | ⟨v,r⟩
    ·exact h.elim
    ·simp only [opL,List.map_cons,mi,jd,rm,Ao,AD,Bv] at h ⊢
     exact h
   | tmp t =>
    rcases vs with _ | ⟨v,r⟩
    ·exact h.elim
    ·simp only [opL,List.map_cons,gh,jd,Cl] at h ⊢
     rcases aC v with h1 | ⟨b,h1,rfl | rfl⟩
     ·rw [h1]; exact h
     ·exact h
     ·exact h
   | _=>exact h.elim
  | invoke r m=>exact h.elim
 | makeInterface t x =>
  rcases vs with _ | ⟨v,_ | ⟨v',r⟩⟩ <;> first | exact h.elim | skip
  refine ⟨e,?_,rfl⟩
  simp only [opL,List.map_cons,List.map_nil,Cv] at h ⊢
  exact h
 | typeAssert x xt t ok =>
  rcases vs with _ | ⟨v,_ | ⟨v',r⟩⟩ <;> cases ok <;> first | exact h.elim | skip
  refine ⟨e,?_,rfl⟩
  simp only [opL,List.map_cons,List.map_nil,BE] at h ⊢
  exact h
 | _=>exact h.elim
theorem kV (st:ASt):st.nfS.look=st.look:=rfl
theorem nE (st:ASt):st.nfS.base=st.base:=rfl
theorem uM (st:ASt) (d:Option Tmp):st.nfS.nid d=st.nid d:=by cases d <;> rfl
theorem iL (st:ASt) (d:Option Tmp) (v:AV):(st.put d v).nfS=st.nfS.put d v.nf:=by
 cases d with
 | none=>rfl
 | some d=>simp [ASt.nfS,ASt.put,ah,List.map_set]
theorem sr (st:ASt) (i:Nat) (b:Option BC):(st.ab i b).nfS=st.nfS.ab i b:=rfl
theorem jx (st:ASt) (t:Nat):nth (.one .junk) st.nfS.slots t=(nth (.one .junk) st.slots t).nf:=by
 simp only [ASt.nfS,aN,Dc]
 cases st.slots[t]? <;> rfl
theorem yY (ps:List Nat) (st:ASt) (d:Option Nat) (e:Eff):b9 ps st.nfS d e.nfE=b9 ps st d e:=by
 unfold b9
 congr 1
 funext k
 cases d with
 | none=>rw [nE,bZ]
 | some d=>simp only [nE,bZ,jx,lR]
theorem m8 (k s:Nat):∀ (l:List AV) (n:Nat),fc k s n (l.map AV.nf)=fc k s n l
 | [],n=>rfl
 | v :: l,n=>by simp only [List.map_cons,fc,lR,m8 k s l (n + 1)]
theorem vr {k:Nat} {v:AV} (h:i6 k v=true):i6 k v.nf=true:=by
 unfold i6 at h
 split at h
 ·exact h
 ·cases h
theorem ip {e:Eff} {i:Nat} {y:TV} (h:jv e=some (i,y)):e=.gen [.drop i 0 [] false,.root i 0 y] (.one (.sref i 0 [])):=by
 unfold jv at h
 split at h
 ·rename_i i' j y' k
  cases hb:i'.beq j && i'.beq k with
  | false=>rw [hb] at h; cases h
  | true =>
   simp only [hb,cond_true,C8,Prod.mk.injEq] at h
   simp only [C9] at hb
   obtain ⟨rfl,rfl⟩:=h
   rw [← (ao _ _).1 hb.1,← (ao _ _).1 hb.2]
 ·cases h
theorem mf (i:Nat) (y:TV):jv (.gen [.drop i 0 [] false,.root i 0 y] (.one (.sref i 0 [])))=some (i,y):=by
 simp only [jv,(ao i i).2 rfl,Bool.and_self,cond_true]
theorem zo {o:Item} {st:ASt} {e:Eff} (h:cP o st e=true):cP o st.nfS e.nfE=true:=by
 unfold cP at h ⊢
 split at h
 ·rename_i s i y h1 h2
  have:=ip h2
  subst this
  simp only [C9] at h
  simp only [h1,Eff.nfE,AV.nf,mf,C9]
  refine ⟨⟨⟨⟨⟨h.1.1.1.1.1,?_⟩,h.1.1.1.2⟩,?_⟩,h.1.2⟩,h.2⟩
  ·rw [jx]; exact vr h.1.1.1.1.2
  ·rw [show st.nfS.slots=st.slots.map AV.nf from rfl,m8]; exact h.1.1.2
 ·cases h
theorem sD (st:ASt) (x:Operand):st.nfS.ev x=(st.ev x).nf:=by
 cases x with
 | tmp t=>exact jx st t
 | const v =>
  cases v with
  | bool b=>rfl
  | _=>first | rfl | (simp only [ASt.ev]; cases Value.oneCell' _ <;> rfl)
 | global g=>rfl
 | func f=>rfl
theorem rB:∀ (l:List AV),cb (l.map AV.nf)=cb l
 | []=>rfl
 | v :: l=>by simp only [List.map_cons,cb,gh,rB l]
theorem j7 (e:Eff):gW e.nfE=gW e:=by
 cases e with
 | new b v=>cases b <;> rfl
 | _=>rfl
theorem ze {i:Item} {st:ASt} {e:Eff}:gD i st.nfS e.nfE=gD i st e:=by
 unfold gD
 have:i.o.op.operands.toList.map st.nfS.ev=(i.o.op.operands.toList.map st.ev).map AV.nf:=by
  rw [List.map_map]
  exact List.map_congr_left fun x _=>sD st x
 rw [this,rB,j7,bZ]
 rfl
theorem we:∀ (l:List AV),fx (l.map AV.nf)=fx l
 | []=>rfl
 | v :: l=>by simp only [List.map_cons,fx,lR,we l]
theorem oW (e:Eff):lk e.nfE=lk e:=by cases e <;> rfl
theorem xn (e:Eff):drE e.nfE=drE e:=by cases e <;> rfl
theorem qx (k:Nat) (e:Eff):sW k e.nfE=sW k e:=by cases e <;> rfl
theorem qj (v:AV):(v.nf.bM CA.deep).dF=(v.bM CA.deep).dF:=by
 rcases aC v with h | ⟨b,h,rfl | rfl⟩
 ·rw [h]
 ·rw [h]; rfl
 ·rw [h]; rfl
theorem vA:∀ (l:List AV),fx (bQ CA.deep (l.map AV.nf))=fx (bQ CA.deep l)
 | []=>rfl
 | v :: l=>by simp only [List.map_cons,bQ,fx,qj,vA l]
theorem pe (e:Eff):ns e.nfE=ns e:=by
 cases e with
 | val v=>exact qj v
 | new b v=>exact bZ (.new b v)
 | upd i b v=>exact bZ (.upd i b v)
 | gen ps v=>exact bZ (.gen ps v)
theorem zM {i:Item} {st:ASt} {e:Eff}:ce i st.nfS e.nfE=ce i st e:=by
 unfold ce
 simp only [oW,xn,qx]
 rfl
theorem yW {i:Item} {st:ASt} {e:Eff}:cO i st.nfS e.nfE=cO i st e:=by
 unfold cO
 have hd:∀ d b,iB st.nfS d b=iB st d b:=fun d b=>by
  cases d with
  | none=>rfl
  | some d =>
   have:=sD st (.tmp d)
   simp only [ASt.ev] at this
   simp only [iB,this,lR]
 have hd2:∀ d b,gu st.nfS d b=gu st d b:=fun d b=>by
  cases d with
  | none=>rfl
  | some d =>
   have:=sD st (.tmp d)
   simp only [ASt.ev] at this
   simp only [gu,this,qj]
 simp only [hd,hd2,bZ,pe]
 have:i.o.op.operands.toList.map st.nfS.ev=(i.o.op.operands.toList.map st.ev).map AV.nf:=by
  rw [List.map_map]
  exact List.map_congr_left fun x _=>sD st x
 rw [this,we,vA]
 rfl
theorem okE_nf {i:Item} {st:ASt} {e:Eff} (h:okE i st e=true):okE i st.nfS e.nfE=true:=by
 unfold okE at h ⊢
 rw [Bool.or_eq_true] at h ⊢
 rcases h with h | h
 ·rw [zM]; exact .inl h
 refine .inr ?_
 rw [Bool.or_eq_true] at h ⊢
 rcases h with h | h
 ·rw [nq,wo,nE,yY,ze,yW]; exact .inl h
 ·exact .inr (zo h)
theorem uq (hs:Sim w0 I0 st a ov w):Sim w0 I0 st.nfS a ov w:=by
 obtain ⟨g,hs⟩:=hs
 refine ⟨g,hs.below,hs.sub,hs.lt,hs.old,by simp [ASt.nfS,hs.len],hs.defers,fun t v hv=>?_,hs.olen,hs.outs,hs.cells,hs.trees,hs.foot,hs.apart,hs.apartR,hs.res,hs.base,hs.out⟩
 simp only [ASt.nfS,Dc] at hv
 cases hsl:st.slots[t]? with
 | none=>simp [hsl] at hv
 | some u =>
  simp only [hsl,Dj,C8] at hv
  subst hv
  exact As.2 (hs.slots t u hsl)
theorem d7 (hs:Sim w0 I0 st.nfS a ov w):Sim w0 I0 st a ov w:=by
 obtain ⟨g,hs⟩:=hs
 refine ⟨g,hs.below,hs.sub,hs.lt,hs.old,by have:=hs.len; simpa [ASt.nfS] using this,hs.defers,fun t v hv=>?_,hs.olen,hs.outs,hs.cells,hs.trees,hs.foot,hs.apart,hs.apartR,hs.res,hs.base,hs.out⟩
 exact As.1 (hs.slots t v.nf (by simp [ASt.nfS,hv]))
theorem nU (i r:Nat) (js:List Nat) (b:Bool) (v:AV):(v.bM (CA.drop i r js b)).nf=v.nf.bM (CA.drop i r js b):=by
 rcases aC v with h | ⟨b,h,rfl | rfl⟩
 ·rw [h]
  cases v with
  | one c =>
   have key:∀ c:CA,c.drop i r js b=c∨c.drop i r js b=.junk:=fun c=>by
    rcases eD i r js b c with ⟨h,_⟩ | h
    ·exact .inl h
    ·exact .inr h
   simp only [AV.bM]
   rcases key c with h' | h'
   ·rw [h',h]
   ·rw [h']; rfl
  | tv x=>exact h
  | _=>rfl
 ·rfl
 ·rfl
theorem Bg (st:ASt) (i r:Nat) (js:List Nat) (b:Bool):(st.aq (CA.drop i r js b)).nfS=st.nfS.aq (CA.drop i r js b):=by
 simp only [ASt.nfS,ASt.aq]
 congr 1
 apply List.ext_getElem?
 intro t
 simp only [Dc,lG]
 cases st.slots[t]? with
 | none=>rfl
 | some v=>simp [nU]
theorem pV (i:Nat) (v:AV):(v.bM (CA.unM i)).nf=v.nf.bM (CA.unM i):=by
 cases v with
 | one c =>
  cases c with
  | t x =>
   cases x with
   | lit u=>cases u <;> rfl
   | _=>rfl
  | may j ty =>
   simp only [AV.bM,CA.unM,AV.nf]
   cases j.beq i <;> rfl
  | _=>rfl
 | tv x =>
  cases x with
  | lit u=>cases u <;> rfl
  | _=>rfl
 | _=>rfl
theorem Cs (st:ASt) (i:Nat):(st.aq (CA.unM i)).nfS=st.nfS.aq (CA.unM i):=by
 simp only [ASt.aq,ASt.nfS]
 congr 1
 induction st.slots with
 | nil=>rfl
 | cons v l ih=>simp only [bQ,List.map_cons,pV,ih]
theorem tn {i:Nat} {b:BC} (h:st.bo i b=some st'):st.nfS.bo i b=some st'.nfS:=by
 obtain ⟨h1,h2,rfl⟩:=bh h
 have h2':i.blt st.nfS.boxes.length=true:=by simpa [ASt.nfS] using h2
 simp only [ASt.bo,kV,h1,h2',cond_true,sr]
theorem pO {d:Option Tmp}:∀ {ps:List Prim} {st st':ASt},ae d ps st=some st'→ae d ps st.nfS=some st'.nfS
 | [],st,st',h=>by simp only [ae,C8] at h; subst h; rfl
 | p :: ps, st, st', h => by
  simp only [ae] at h ⊢
  cases h1:p.app st d with
  | none=>simp [h1] at h
  | some s1 =>
   simp only [h1] at h
   have:p.app st.nfS d=some s1.nfS:=by
    cases p with
    | drop i r js b =>
     simp only [Prim.app,C8] at h1 ⊢
     subst h1
     rw [Bg]
    | root i r x =>
     simp only [Prim.app,kV] at h1 ⊢
     split at h1
     ·rename_i b hb
      simp only [C8] at h1
      subst h1
      rfl
     ·cases h1
    | frz i r =>
     simp only [Prim.app,kV] at h1 ⊢
     split at h1
     ·rename_i x hx
      split at h1
      ·rename_i b hb
       simp only [C8] at h1
       subst h1
       rfl
      ·cases h1
     ·cases h1
    | unmay i =>
     simp only [Prim.app,C8] at h1 ⊢
     subst h1
     rw [Cs]
    | newB b =>
     cases d with
     | none=>simp [Prim.app] at h1
     | some d =>
      simp only [Prim.app] at h1 ⊢
      rw [uM]
      exact tn h1
    | setB i cs =>
     simp only [Prim.app,kV] at h1 ⊢
     split at h1
     ·simp only [C8] at h1
      subst h1
      rfl
     ·cases h1
   rw [this]
   exact pO h
theorem app_nf {e:Eff} {d:Option Tmp} (h:e.app st d=some st'):e.nfE.app st.nfS d=some st'.nfS:=by
 cases e with
 | val v =>
  simp only [Eff.app,Eff.nfE,C8] at h ⊢
  subst h
  rw [iL]
 | new b v =>
  cases d with
  | none=>simp [Eff.app] at h
  | some d =>
   simp only [Eff.app,Eff.nfE] at h ⊢
   rw [uM]
   split at h
   ·rename_i s1 hs1
    simp only [C8] at h
    subst h
    rw [tn hs1]
    simp only [iL]
   ·cases h
 | upd i b v =>
  simp only [Eff.app,Eff.nfE,C8] at h ⊢
  subst h
  rw [iL,sr]
 | gen ps v =>
  simp only [Eff.app,Eff.nfE] at h ⊢
  split at h
  ·rename_i s1 hs1
   simp only [C8] at h
   subst h
   rw [pO hs1]
   simp only [iL]
  ·cases h
theorem ki {d:Option Tmp} {v:AV} (hs:Sim w0 I0 (st.put d v) a ov w):Sim w0 I0 (st.put d v.nf) a ov w:=by
 apply d7
 have:=uq hs
 rw [iL] at this ⊢
 rwa [tK]
theorem yb {e:Eff} {d:Option Tmp} (h:e.nfE.app st d=some st'):∃ st1,e.app st d=some st1∧∀ w0 I0 a ov w,Sim w0 I0 st1 a ov w→Sim w0 I0 st' a ov w:=by
 cases e with
 | val v =>
  simp only [Eff.app,Eff.nfE,C8] at h ⊢
  subst h
  exact ⟨_,rfl,fun w0 I0 a ov w hs=>ki hs⟩
 | new b v =>
  cases d with
  | none=>simp [Eff.app,Eff.nfE] at h
  | some d =>
   simp only [Eff.app,Eff.nfE] at h ⊢
   split at h
   ·rename_i s1 hs1
    simp only [C8] at h
    subst h
    exact ⟨_,rfl,fun w0 I0 a ov w hs=>ki hs⟩
   ·cases h
 | upd i b v =>
  simp only [Eff.app,Eff.nfE,C8] at h ⊢
  subst h
  exact ⟨_,rfl,fun w0 I0 a ov w hs=>ki hs⟩
 | gen ps v =>
  simp only [Eff.app,Eff.nfE] at h ⊢
  split at h
  ·rename_i s1 hs1
   simp only [C8] at h
   subst h
   exact ⟨_,rfl,fun w0 I0 a ov w hs=>ki hs⟩
  ·cases h
end
end Go.Ab
end
section
namespace Go.Ab
open Go.RowKit
def Prg.All {R:Type} (p:R→Prop):Prg R→Prop
 | .fail=>True
 | .ret e=>p e
 | .tv _ k=>∀ v,(k v).All p
 | .tvs _ k=>∀ v,(k v).All p
 | .rws _ k=>∀ v,(k v).All p
 | .nat _ k=>∀ v,(k v).All p
 | .chk _ k=>k.All p
 | .ite _ t e=>t.All p∧e.All p
 | .call _ _ k=>∀ v,(k v).All p
 | .jmp _ _=>True
theorem Prg.All.hits {R:Type} {C:Cal} {p:R→Prop} {e:R}:∀ {o:Prg R},o.All p→o.hits C e→p e
 | .ret e',h,h'=>by cases h'; exact h
 | .tv _ k,h,⟨v,_,h'⟩=>(h v).hits h'
 | .tvs _ k,h,⟨v,_,h'⟩=>(h v).hits h'
 | .rws _ k,h,⟨v,_,h'⟩=>(h v).hits h'
 | .nat _ k,h,⟨v,_,h'⟩=>(h v).hits h'
 | .chk _ k,h,⟨_,h'⟩=>Prg.All.hits (o:=k) h h'
 | .ite _ t e,h,⟨v,_,.inl ⟨_,h'⟩⟩=>Prg.All.hits (o:=t) h.1 h'
 | .ite _ t e,h,⟨v,_,.inr ⟨_,h'⟩⟩=>Prg.All.hits (o:=e) h.2 h'
 | .call _ _ k,h,⟨v,_,h'⟩=>(h v).hits h'
section
variable {E:Env} {look look':Look} {p:Eff→Prop} {id:Nat}
theorem aE {b:Bool} {x y:Out} (hx:x.All p) (hy:y.All p):(bif b then x else y).All p:=by cases b <;> assumption
theorem ie {q:Way} {x:TV} {k:TV→Out} (h:∀ y,(k y).All p):(mE q x k).All p:=by
 unfold mE
 split
 ·exact h _
 ·exact h
theorem fp {c:CA} {k:TV→Out} (h:∀ y,(k y).All p):(iq look c k).All p:=by
 unfold iq
 split
 ·exact h _
 ·split
  ·exact ie h
  ·exact trivial
 ·split
  ·exact ie fun y z=>h z
  ·exact trivial
 ·exact trivial
theorem nW {v:AV} {k:TV→Out} (h:∀ y,(k y).All p):(sR look v k).All p:=by
 unfold sR
 split
 ·exact fp h
 ·exact h _
 ·exact h _
 ·exact trivial
theorem tB {c:CA} {k:TV→Out} (h:∀ y,(k y).All p):(rh look c k).All p:=by
 unfold rh
 split
 ·exact h _
 ·exact fp fun y=>h _
 ·exact fp fun y=>h _
 ·exact trivial
theorem tf {k:List TV→Out}:∀ {cs:List CA} {k:List TV→Out},(∀ y,(k y).All p)→(yz look cs k).All p
 | [],k,h=>h _
 | c :: cs,k,h=>tB fun y=>tf (k:=fun _=>.fail) fun ys=>h _
theorem zx {v:AV} {k:TV→Out} (h:∀ y,(k y).All p):(rW look v k).All p:=by
 unfold rW
 split
 ·exact tB h
 ·exact h _
 ·exact tf (k:=fun _=>.fail) fun ys=>h _
 ·exact trivial
 ·exact trivial
 ·exact h _
theorem fI:∀ {vs:List AV} {k:List TV→Out},(∀ y,(k y).All p)→(lends look vs k).All p
 | [],k,h=>h _
 | v :: vs,k,h=>zx fun y=>fI fun ys=>h _
theorem tF {c:CA} {k:TV→List (Nat × Nat)→Out} (h:∀ y r,(k y r).All p):(se look c k).All p:=by
 unfold se
 split
 ·exact h _ _
 ·split
  ·split
   ·exact h _ _
   ·exact fun y=>h _ _
  ·exact trivial
 ·split
  ·split
   ·exact fun y=>h _ _
   ·exact fun z y=>h _ _
  ·exact trivial
 ·exact trivial
theorem ua:∀ {cs:List CA} {k:List TV→List (Nat × Nat)→Out},(∀ y r,(k y r).All p)→(yF look cs k).All p
 | [],k,h=>h _ _
 | c :: cs,k,h=>tF fun y r=>ua fun ys rs=>h _ _
theorem zR {v:AV} {k:TV→List (Nat × Nat)→Out} (h:∀ y r,(k y r).All p):(qD look v k).All p:=by
 unfold qD
 split
 ·exact tF h
 ·exact h _ _
 ·exact ua fun ys rs=>h _ _
 ·exact trivial
 ·exact trivial
 ·exact h _ _
theorem oR:∀ {vs:List AV} {k:List TV→List (Nat × Nat)→Out},(∀ y r,(k y r).All p)→(hands look vs k).All p
 | [],k,h=>h _ _
 | v :: vs,k,h=>zR fun y r=>oR fun ys rs=>h _ _
theorem dN:∀ {cs:List CA} {k:List TV→List Prim→List (Nat × Nat)→Out},(∀ y q r,(k y q r).All p)→(cq look cs k).All p
 | [],k,h=>h _ _ _
 | .t x :: l,k,h=>by
  simp only [cq]
  exact dN (cs:=l) fun xs ps ts=>h _ _ _
 | .sref i r q :: l, k, h => by
  simp only [cq]
  split
  ·split
   ·exact dN (cs:=l) fun xs ps ts=>h _ _ _
   ·exact fun y=>dN (cs:=l) fun xs ps ts=>h _ _ _
  ·exact trivial
 | .swin i r q lo len :: l, k, h => by
  simp only [cq]
  split
  ·split
   ·exact fun y=>dN (cs:=l) fun xs ps ts=>h _ _ _
   ·exact fun z y=>dN (cs:=l) fun xs ps ts=>h _ _ _
  ·exact trivial
 | .ptr _ _ :: l,k,h=>trivial
 | .ref _ _ :: l,k,h=>trivial
 | .tptr _ _ _ _ _ :: l,k,h=>trivial
 | .may _ _ :: l,k,h=>trivial
 | .aptr _ _ _ _ :: l,k,h=>trivial
 | .ifp _ _ :: l,k,h=>trivial
 | .fn1 _ _ :: l,k,h=>trivial
 | .yl _ :: l,k,h=>trivial
 | .undef :: l,k,h=>trivial
 | .junk :: l,k,h=>trivial
theorem dP:∀ {cs:List CA} {k:List TV→List Prim→List (Nat × Nat)→Out},(∀ y q r,(k y q r).All p)→(bX look cs k).All p
 | [],k,h=>h _ _ _
 | .t x :: l,k,h=>by
  simp only [bX]
  exact dP (cs:=l) fun xs ps ts=>h _ _ _
 | .sref i r q :: l, k, h => by
  simp only [bX]
  split
  ·split
   ·exact dP (cs:=l) fun xs ps ts=>h _ _ _
   ·exact fun y=>⟨dP (cs:=l) fun xs ps ts=>h _ _ _,fun x'=>dP (cs:=l) fun xs ps ts=>h _ _ _⟩
  ·exact trivial
 | .swin i r q lo len :: l, k, h => by
  simp only [bX]
  split
  ·split
   ·exact fun y=>dP (cs:=l) fun xs ps ts=>h _ _ _
   ·exact fun z y=>dP (cs:=l) fun xs ps ts=>h _ _ _
  ·exact trivial
 | .ptr _ _ :: l,k,h=>trivial
 | .ref _ _ :: l,k,h=>trivial
 | .tptr _ _ _ _ _ :: l,k,h=>trivial
 | .may _ _ :: l,k,h=>trivial
 | .aptr _ _ _ _ :: l,k,h=>trivial
 | .ifp _ _ :: l,k,h=>trivial
 | .fn1 _ _ :: l,k,h=>trivial
 | .yl _ :: l,k,h=>trivial
 | .undef :: l,k,h=>trivial
 | .junk :: l,k,h=>trivial
theorem d0 {agg:Bool} {n:Nat} {x:AV} {k:List CA→Out} (h:∀ cs,(k cs).All p):(x.aX agg n k).All p:=by
 unfold AV.aX
 split
 ·rename_i c; cases c.kept <;> first | exact trivial | exact h _
 ·exact h _
 ·exact h _
 ·exact h _
 ·rename_i cs; cases cs.length.beq n <;> first | exact trivial | exact h _
 ·exact h _
 ·exact trivial
theorem np {at_:Nat→Option (Nat × Bool × Nat)} {k:List CA→Out} (h:∀ cs,(k cs).All p):∀ (is:List Nat) (vs:List AV) (cs:List CA),(bN at_ is vs cs k).All p
 | [],[],cs=>h cs
 | i :: is, x :: vs, cs => by
  simp only [bN]
  split
  ·refine d0 (fun ps=>?_)
   exact aE (np h is vs _) trivial
  ·exact trivial
 | [],_ :: _,cs=>trivial
 | _ :: _,[],cs=>trivial
theorem eH {v:Option AV} {k:Option Nat→Out} (h:∀ n,(k n).All p):(fk v k).All p:=by
 unfold fk
 split
 ·exact h _
 ·split
  ·exact fun v=>h _
  ·exact trivial
abbrev cU (e:Eff):Prop:=∃ v,e=.val v
abbrev cW (e:Eff):Prop:=∃ b v,e=.new b v
theorem wb {d:TyD} {x:List TV} {off:Nat}:(kn d x off).All cU:=by
 unfold kn
 cases d.kd.isAgg
 ·exact ⟨_,rfl⟩
 ·exact ⟨_,rfl⟩
theorem tE:∀ {vs:List AV} {k:List CA→Out},(∀ cs,(k cs).All p)→(jW vs k).All p
 | [],k,h=>h _
 | v :: vs,k,h=>d0 fun cs=>tE fun cs'=>h _
theorem CN {op:Op} (h:al op=.N) (vs:List AV):(opL E id look op vs).All cU:=by
 cases op with
 | move x=>rcases vs with _ | ⟨v,_ | ⟨v',r⟩⟩ <;> first | exact trivial | exact ⟨_,rfl⟩
 | assign x=>rcases vs with _ | ⟨v,_ | ⟨v',r⟩⟩ <;> first | exact trivial | exact ⟨_,rfl⟩
 | pick c x y =>
  rcases vs with _ | ⟨v,_ | ⟨v',_ | ⟨v'',_ | ⟨v3,r⟩⟩⟩⟩ <;> first | exact trivial | skip
  simp only [opL]
  split <;> first | exact trivial | exact ⟨_,rfl⟩ | exact ⟨⟨_,rfl⟩,⟨_,rfl⟩⟩
 | build t parts =>
  simp only [opL]
  split
  ·refine aE ?_ trivial
   refine np ?_ _ _ _
   exact fun cs=>⟨_,rfl⟩
  ·exact trivial
 | nilCheck x =>
  rcases vs with _ | ⟨v,_ | ⟨v',r⟩⟩ <;> first | exact trivial | skip
  simp only [opL]
  split <;> first | exact trivial | exact ⟨_,rfl⟩
 | unOp op xt x =>
  rcases vs with _ | ⟨v,_ | ⟨v',r⟩⟩ <;> first | exact trivial | skip
  simp only [opL]
  split
  ·exact ⟨_,rfl⟩
  ·split
   ·exact fun v=>⟨_,rfl⟩
   ·exact trivial
 | fieldAddr t x f =>
  rcases vs with _ | ⟨v,_ | ⟨v',r⟩⟩ <;> first | exact trivial | skip
  simp only [opL]
  split
  ·split
   ·refine aE ?_ trivial
    split <;> first | exact trivial | exact ⟨_,rfl⟩
   ·exact trivial
  ·exact trivial
 | field t x f =>
  rcases vs with _ | ⟨v,_ | ⟨v',r⟩⟩ <;> first | exact trivial | skip
  simp only [opL]
  split
  ·split
   ·unfold uy
    split
    ·split
     ·split <;> first | exact trivial | exact ⟨_,rfl⟩
     ·exact trivial
    ·exact ⟨_,rfl⟩
    ·exact trivial
   ·exact trivial
  ·exact trivial
 | index t x y =>
  rcases vs with _ | ⟨v,_ | ⟨v',_ | ⟨v'',r⟩⟩⟩ <;> first | exact trivial | skip
  simp only [opL]
  split
  ·exact fun v=>⟨_,rfl⟩
  ·unfold qf
   split
   ·split
    ·refine aE ?_ trivial
     split
     ·exact fun k v=>⟨_,rfl⟩
     ·exact trivial
    ·exact trivial
   ·exact trivial
 | extract x j =>
  rcases vs with _ | ⟨v,_ | ⟨v',r⟩⟩ <;> first | exact trivial | skip
  simp only [opL]
  split
  ·split
   ·split <;> first | exact trivial | exact ⟨_,rfl⟩
   ·exact trivial
  ·exact trivial
 | makeFunc fn first cap =>
  cases fn with
  | func f =>
   simp only [opL]
   exact aE (tE fun cs=>⟨_,rfl⟩) trivial
  | _=>exact trivial
 | call c =>
  obtain ⟨callee,args,tys⟩:=c
  cases callee with
  | builtin b=>cases b <;> simp [al] at h
  | value f=>cases f <;> simp [al] at h
  | invoke r m=>simp [al] at h
 | makeInterface t x =>
  rcases vs with _ | ⟨v,_ | ⟨v',r⟩⟩ <;> first | exact trivial | skip
  simp only [opL]
  split
  ·unfold BG
   refine aE ?_ trivial
   split
   ·exact ⟨_,rfl⟩
   ·split
    ·exact fun v=>⟨_,rfl⟩
    ·exact trivial
  ·exact trivial
 | typeAssert x xt t ok =>
  rcases vs with _ | ⟨v,_ | ⟨v',r⟩⟩ <;> cases ok <;> first | exact trivial | skip
  simp only [opL]
  split
  ·unfold tQ
   refine aE ?_ trivial
   split
   ·exact fun v=>⟨_,rfl⟩
   ·exact trivial
  ·exact trivial
 | _=>simp [al] at h
theorem AP {op:Op} (h:al op=.R) (vs:List AV):(opL E id look op vs).All cU:=by
 cases op with
 | load t x =>
  rcases vs with _ | ⟨v,_ | ⟨v',r⟩⟩ <;> first | exact trivial | skip
  simp only [opL]
  split
  ·unfold yD
   split
   ·refine aE trivial ?_
    split
    ·exact fun v=>⟨_,rfl⟩
    ·exact trivial
   ·split
    ·split
     ·split
      ·exact ⟨_,rfl⟩
      ·exact trivial
     ·exact trivial
    ·exact trivial
   ·exact wb
   ·split
    ·refine ie (fun s e=>?_)
     simp only [Prg.All]
     split
     ·exact ⟨_,rfl⟩
     ·exact trivial
    ·exact trivial
   ·exact trivial
  ·exact trivial
 | convert xt dt x =>
  rcases vs with _ | ⟨v,_ | ⟨v',r⟩⟩ <;> first | exact trivial | skip
  simp only [opL]
  split
  ·unfold yq
   split
   ·split
    ·exact aE (nW fun y=>fun rows=>fun v=>⟨_,rfl⟩) trivial
    ·exact trivial
   ·split
    ·exact fun v=>⟨_,rfl⟩
    ·exact trivial
  ·exact trivial
 | binOp op xt x y yt =>
  rcases vs with _ | ⟨v,_ | ⟨v',_ | ⟨v'',r⟩⟩⟩ <;> first | exact trivial | skip
  simp only [opL]
  split
  ·unfold Cd
   split
   ·split
    ·refine d0 fun cs=>d0 fun cs'=>?_
     split
     ·exact fun v=>⟨_,rfl⟩
     ·exact trivial
    ·exact trivial
   ·unfold B4
    split
    ·exact ⟨_,rfl⟩
    ·exact ⟨_,rfl⟩
    ·exact trivial
   unfold Ce
   refine aE (nW fun x=>nW fun y=>fun v=>⟨_,rfl⟩) ?_
   split
   ·exact fun v=>⟨_,rfl⟩
   ·exact trivial
  ·exact trivial
 | slice t x lo hi mx =>
  have sl:∀ {kd:Kd} {sz:Nat} {x:AV} {lo hi:Option AV},(ix look kd sz x lo hi).All cU:=by
   intro kd sz x lo hi
   unfold ix
   split
   ·exact eH fun lo=>eH fun hi=>fun v=>⟨_,rfl⟩
   ·split
    ·exact fp fun s n=>eH fun lo=>eH fun hi=>⟨_,rfl⟩
    ·split
     ·exact fp fun s=>eH fun hi=>⟨_,rfl⟩
     ·exact fp fun s=>eH fun lo=>eH fun hi=>⟨_,rfl⟩
    ·exact trivial
  cases mx with
  | some m=>rcases vs with _ | ⟨v,r⟩ <;> exact trivial
  | none =>
   rcases vs with _ | ⟨v,r⟩
   ·exact trivial
   ·simp only [opL]
    split
    ·split
     ·split <;> first | exact trivial | exact sl
     ·exact trivial
    ·exact trivial
 | indexAddr t x y =>
  rcases vs with _ | ⟨v,_ | ⟨v',_ | ⟨v'',r⟩⟩⟩ <;> first | exact trivial | skip
  simp only [opL]
  split
  ·unfold oC
   split
   ·split
    ·exact fun v=>⟨_,rfl⟩
    ·split
     ·exact fp fun s n k=>⟨_,rfl⟩
     ·exact fp fun s k=>⟨_,rfl⟩
     ·exact trivial
   ·exact trivial
  ·unfold qm
   split
   ·split
    ·exact aE (fun k=>⟨_,rfl⟩) trivial
    ·exact trivial
   ·exact trivial
 | call c =>
  obtain ⟨callee,args,tys⟩:=c
  cases callee with
  | builtin b =>
   have mn:∀ {mx:Bool} {x y:AV},(vY mx x y).All cU:=by
    intro mx x y
    unfold vY
    split
    ·exact fun v=>⟨_,rfl⟩
    ·exact trivial
   cases b <;> simp [al] at h
   all_goals simp only [opL]
   all_goals unfold dQ
   all_goals split <;> first | exact trivial | exact mn | contradiction | skip
   split
   ·unfold wV
    split
    ·exact ⟨_,rfl⟩
    ·exact nW fun s v=>⟨_,rfl⟩
   ·exact trivial
  | value f=>cases f <;> simp [al] at h
  | invoke r m=>simp [al] at h
 | _=>simp [al] at h
theorem cls_A {op:Op} (h:al op=.A) (vs:List AV):(opL E id look op vs).All cW:=by
 cases op with
 | alloc t =>
  rcases vs with _ | ⟨v,r⟩ <;> first | exact trivial | skip
  simp only [opL]
  split
  ·exact ⟨_,_,rfl⟩
  ·exact trivial
 | box t x =>
  rcases vs with _ | ⟨v,_ | ⟨v',r⟩⟩ <;> first | exact trivial | skip
  simp only [opL]
  split
  ·exact d0 (fun cs=>⟨_,_,rfl⟩)
  ·exact trivial
 | makeSlice t x y =>
  rcases vs with _ | ⟨v,_ | ⟨v',_ | ⟨v'',r⟩⟩⟩ <;> first | exact trivial | skip
  simp only [opL]
  split
  ·refine aE ?_ trivial
   exact fun n m=>⟨_,_,rfl⟩
  ·exact trivial
 | call c =>
  obtain ⟨callee,args,tys⟩:=c
  cases callee with
  | builtin b=>cases b <;> simp [al] at h
  | value f=>cases f <;> simp [al] at h
  | invoke r m=>simp [al] at h
 | _=>simp [al] at h
theorem iN {ps:List Prim} {b:BC} {v:AV}:(cC ps b v).plain=true→cU (cC ps b v)∨cW (cC ps b v):=by
 cases ps with
 | nil=>exact fun _=>.inr ⟨_,_,rfl⟩
 | cons q l=>exact fun h=>by cases h
theorem sU {ps:List Prim} {v:AV}:(match ps with | []=>Eff.val v | _=>.gen ps v).plain=true→cU (match ps with | []=>Eff.val v | _=>.gen ps v)∨cW (match ps with | []=>Eff.val v | _=>.gen ps v):=by
 cases ps with
 | nil=>exact fun _=>.inl ⟨_,rfl⟩
 | cons q l=>exact fun h=>by cases h
theorem kt {d:TyD} {x:TV} {k:Out} (h:k.All p):(iP d x k).All p:=by
 unfold iP
 exact aE h h
theorem pF {x:TV} {k:Out} (h:k.All p):∀ (ds:List TyD) (j:Nat),(fR x ds j k).All p
 | [],j=>h
 | d :: ds,j=>kt (pF h ds (j + 1))
theorem qy {ds:List TyD} {v:TV} {ps:List Prim}:(sP id ds v ps).All fun e=>e.plain=true→cU e∨cW e:=by
 have many:∀ ds:List TyD,(Prg.chk (v.isTup ds.length) (fR v ds 0 (bif go ds then .ret (cC ps (.tree (bi v ds 0)) (.tups (dz id v ds 0 0)))
   else .ret (match ps with | []=>.val (.tups (dz id v ds 0 0)) | _=>.gen ps (.tups (dz id v ds 0 0)))))).All fun e=>e.plain=true→cU e∨cW e:=by
  intro ds
  refine pF ?_ ds 0
  exact aE iN sU
 match ds with
 | []=>exact many []
 | [d] =>
  simp only [sP]
  refine kt ?_
  split
  ·exact aE iN sU
  ·exact trivial
 | d :: d' :: l=>exact many _
theorem AK {ds:List TyD} {v:TV} {k:AV→Out} {p:Eff→Prop} (h:∀ av,(k av).All p):(AI id ds v k).All p:=by
 have some:∀ (ds:List TyD) (j:Nat) (k:Out),k.All p→(fR v ds j k).All p:=by
  intro ds
  induction ds with
  | nil=>intro j k h; exact h
  | cons d ds ih=>intro j k h; exact kt (ih (j + 1) k h)
 unfold AI
 split
 ·refine kt ?_
  split
  ·exact h _
  ·exact trivial
 ·exact some _ 0 _ (h _)
theorem zr {f:FuncId} {ld:eX} {vs:List AV}:(m9 E id look f ld vs).All fun e=>e.plain=true→cU e∨cW e:=by
 unfold m9
 split
 ·split
  ·refine aE trivial ?_
   exact oR fun xs rs=>dN fun ys qs ts=>aE (fun v=>AK fun av=>fun h=>by simp [Eff.plain] at h) trivial
  ·exact trivial
 ·exact trivial
theorem zu {f:FuncId} {c:Nat × Nat} {vs:List AV}:(nM look f c vs).All fun e=>e.plain=true→cU e∨cW e:=by
 unfold nM
 split
 ·split
  ·split
   ·exact aE (fI fun xs=>fun v=>fun _=>.inl ⟨_,rfl⟩) trivial
   ·exact trivial
  ·exact trivial
 ·exact trivial
theorem tR {p:Eff→Prop} {q:Way} {x y:TV} {k:TV→Out} (h:∀ y,(k y).All p):(vp q x y k).All p:=by
 unfold vp
 split
 ·exact h _
 ·exact fun v=>h _
theorem zd {f:FuncId} {vs:List AV}:(lr look f vs).All fun e=>e.plain=true→cU e∨cW e:=by
 unfold lr
 split
 ·split
  ·exact ie fun z=>fI fun xs=>fun v=>fun y=>tR fun x'=>fun h=>by cases h
  ·exact trivial
 ·split
  ·exact ie fun z=>fun z1=>fI fun xs=>fun v=>fun y=>tR fun x'=>fun h=>by cases h
  ·exact trivial
 ·exact trivial
theorem Bk {f:FuncId} {i:Nat} {vs:List AV}:(vk E id look f i vs).All fun e=>e.plain=true→cU e∨cW e:=by
 unfold vk
 refine aE ?_ trivial
 split
 ·split
  ·exact fI fun xs=>fun v=>qy
  ·exact trivial
 ·exact trivial
theorem cls_B {op:Op} (h:al op=.B) (vs:List AV):(opL E id look op vs).All fun e=>e.plain=true→cU e∨cW e:=by
 cases op with
 | buildSlice t len parts =>
  simp only [opL]
  refine aE ?_ ?_
  ·unfold qM
   split
   ·refine np (fun cs=>?_) _ _ _
    split
    ·exact aE (fun _=>.inr ⟨_,_,rfl⟩) trivial
    ·exact trivial
   ·exact trivial
  unfold ii
  split
  ·refine np (fun cs=>?_) _ _ _
   refine dP fun ys qs ts=>?_
   exact aE iN trivial
  ·exact trivial
 | call c =>
  obtain ⟨callee,args,tys⟩:=c
  cases callee with
  | builtin b=>cases b <;> simp [al] at h
  | value f =>
   cases f with
   | func f =>
    rcases vs with _ | ⟨v,r⟩
    ·exact trivial
    ·simp only [opL,mi]
     refine aE zd (aE trivial ?_)
     split
     ·exact zu
     split
     ·exact zr
     ·split
      ·refine aE ?_ ?_
       ·exact fI fun xs=>fun v=>qy
       ·exact oR fun xs rs=>aE (fun v=>qy) trivial
      ·exact trivial
   | tmp t =>
    rcases vs with _ | ⟨v,r⟩
    ·exact trivial
    ·simp only [opL]
     split
     ·exact fun f=>fI fun xs v=>fun _=>.inl ⟨_,rfl⟩
     ·split
      ·exact Bk
      ·exact trivial
   | _=>simp [al] at h
  | invoke r m=>simp [al] at h
 | _=>simp [al] at h
abbrev isUpd (look:Look) (e:Eff):Prop:=∃ i b v,e=.upd i b v∧(look i).isSome=true
theorem Ae {op : Op} (h : al op = .W) (vs : List AV) : (opL E id look op vs).All fun e => e.plain = true → isUpd look e := by
 cases op with
 | store t x y =>
  rcases vs with _ | ⟨v,_ | ⟨v',_ | ⟨v'',r⟩⟩⟩ <;> first | exact trivial | skip
  simp only [opL]
  split
  ·unfold uu
   split
   ·refine aE trivial ?_
    split
    ·rename_i cs xs hrow
     refine d0 (fun ps=>?_)
     split
     ·exact fun _=>⟨_,_,_,rfl,by simp [(iA hrow).1]⟩
     ·exact trivial
    ·exact trivial
   ·refine d0 (fun ps=>?_)
    split
    ·rename_i cs hl
     exact aE (fun _=>⟨_,_,_,rfl,by simp [hl]⟩) trivial
    ·exact trivial
   ·refine d0 (fun ps=>?_)
    split
    ·refine aE trivial (aE ?_ ?_)
     ·refine dN fun ys qs ts=>aE ?_ trivial
      exact ie fun s e=>fun x' hp=>by cases hp
     ·refine dN fun ys qs ts=>?_
      split
      ·refine aE ?_ trivial
       refine ie fun s e=>?_
       simp only [Prg.All]
       intro x'
       split
       ·rename_i b hb
        refine fun _=>⟨_,_,_,rfl,?_⟩
        unfold bW at hb
        split at hb
        ·rename_i hl; simp [hl]
        ·cases hb
       ·exact trivial
      ·exact trivial
    ·exact trivial
   ·exact trivial
  ·exact trivial
 | call c =>
  obtain ⟨callee,args,tys⟩:=c
  cases callee with
  | builtin b=>cases b <;> simp [al] at h
  | value f=>cases f <;> simp [al] at h
  | invoke r m=>simp [al] at h
 | _=>simp [al] at h
theorem po {d:TyD} {s:AV} {news:List (List TV)} {ps:List Prim}:(lB id look d s news ps).All fun e=>e.plain=true→cU e∨cW e:=by
 unfold lB
 split
 ·exact aE (fun y=>iN) trivial
 ·split
  ·split
   ·split
    ·exact fun y h=>by cases h
    ·exact fun z y x' h=>by cases h
   ·exact trivial
  ·split
   ·split
    ·exact fun z y h=>by cases h
    ·exact fun z0 z y x' h=>by cases h
   ·exact trivial
  ·exact trivial
theorem A4 {d:TyD} {dest:Option Nat} {x:AV} {k:List (List TV)→List Prim→Out} (h:∀ xs ps,(k xs ps).All p):(vl look d dest x k).All p:=by
 unfold vl
 split
 ·exact fun xs=>h _ _
 ·split
  ·refine aE ?_ ?_
   ·split
    ·split
     ·split
      ·exact aE trivial (fun xs=>h _ _)
      ·exact fun y=>fun xs=>h _ _
     ·exact trivial
    ·split
     ·split
      ·exact aE trivial (fun y xs=>h _ _)
      ·exact fun z y=>fun xs=>h _ _
     ·exact trivial
    ·exact trivial
   ·exact fp (fun s xs=>h _ _)
  ·exact trivial
theorem cls_P {op:Op} (h:al op=.P) (vs:List AV):(opL E id look op vs).All fun e=>e.plain=true→cU e∨cW e:=by
 cases op with
 | call c =>
  obtain ⟨callee,args,tys⟩:=c
  cases callee with
  | builtin b =>
   cases b <;> simp [al] at h
   simp only [opL]
   unfold dQ
   split <;> try (first | exact trivial | contradiction)
   split
   ·refine aE ?_ ?_
    ·unfold mV
     exact aE (A4 (fun xs ps=>po)) trivial
    ·split
     ·unfold kP
      refine aE ?_ trivial
      split
      ·exact fun news=>po
      ·exact trivial
     ·exact trivial
   ·exact trivial
  | value f=>cases f <;> simp [al] at h
  | invoke r m=>simp [al] at h
 | _=>simp [al] at h
theorem tL {op:Op} (h:al op=.N∨al op=.A) (vs:List AV):opL E id look op vs=opL E id look' op vs:=by
 cases op <;> first
  | (rcases vs with _ | ⟨a,_ | ⟨b,_ | ⟨c,_ | ⟨d,r⟩⟩⟩⟩ <;> rfl)
  | (simp [al] at h; done)
  | (rename_i fn _ _; cases fn <;> rfl)
  | (rename_i ok; cases ok <;> rcases vs with _ | ⟨a,_ | ⟨b,r⟩⟩ <;> rfl)
  | skip
 all_goals
  rename_i c
  obtain ⟨callee,args,tys⟩:=c
  cases callee with
  | builtin b=>cases b <;> simp [al] at h
  | value f=>cases f <;> simp [al] at h
  | invoke r m=>simp [al] at h
end
end Go.Ab
end

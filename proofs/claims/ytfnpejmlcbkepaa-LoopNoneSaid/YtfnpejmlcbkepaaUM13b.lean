import Derived.Test.YtfnpejmlcbkepaaUM12b
set_option linter.all false
section
namespace Go.Ab
open Go.RowKit
structure gw (P:Program) (G:Laid) (E:Env) (C:Cal):Prop where
 ty:∀ t d,E.T t=some d->aS P t d
 call:xn P G E C
section
variable {P:Program} {E:Env} {C:Cal} {w0:Bs} {w w':World} {I0 I R:Nat->Prop} {g g':Gh} {st st':ASt} {a:Act} {ov:List Value} {look:Look} {Q:Exit->Act->World->Prop} {id:Nat}
theorem Bf (hE:gw P w0.G E C) (hlk:∀ i b,look i=some b->st.look i=some b) (hs:aj w0 I0 NoR g st a ov w) {o:Oper} {e:Eff} (hh:(opL E (st.nid o.dst) look o.op (o.op.operands.toList.map st.ev)).hits C e) (ha:e.app st o.dst=some st') :
  Good P w0 I0 ov o st' a w Q:=by
 obtain ⟨dst,op,type,pos,after,guard⟩:=o
 cases op with
 | move x=>exact C9 hs hh ha
 | assign x=>exact AN hs hh ha
 | pick c x y=>exact Dq hs hh ha
 | alloc t=>exact BM hE.ty hs hh ha
 | box t x=>exact op_box hE.ty hs hh ha
 | build t parts=>exact Br hE.ty hs hh ha
 | makeFunc fn first cap=>exact vX hs hh ha
 | buildSlice t len parts =>
  simp only [opL] at hh
  cases hc:E.cold t && !(len.beq 0) with
  | true=>rw [hc] at hh; exact Da hE.ty hlk hs hh ha
  | false=>rw [hc] at hh; exact tp hE.ty hlk hs hh ha
 | load t x=>exact Di hE.ty hlk hs hh ha
 | store t x y=>exact BO hE.ty hlk hs hh ha
 | nilCheck x=>exact ww hs hh ha
 | binOp op xt x y yt=>exact op_bin hE.ty hlk hs hh ha
 | unOp op xt x=>exact op_un hs hh ha
 | convert xt dt x=>exact yG hE.ty hlk hs hh ha
 | makeSlice t x y=>exact vm hE.ty hs hh ha
 | makeInterface t x=>exact op_ifc hE.ty hs hh ha
 | typeAssert x xt t ok=>exact Dk hE.ty hs hh ha
 | slice t x lo hi mx=>exact Bb hE.ty hlk hs hh ha
 | fieldAddr t x f=>exact vH hE.ty hs hh ha
 | field t x f=>exact BJ hE.ty hs hh ha
 | indexAddr t x y=>exact vk hE.ty hlk hs hh ha
 | index t x y=>exact A9 hE.ty hs hh ha
 | extract x j=>exact yf hs hh ha
 | call c =>
  obtain ⟨callee,args,tys⟩:=c
  cases callee with
  | builtin b =>
   have hops:(Op.call ⟨.builtin b,args,tys⟩).operands.toList=args.toList:=by simp [Op.operands,Call.operands]
   simp only [hops] at hh
   simp only [opL] at hh
   unfold dV at hh
   split at hh
   ·rename_i x ty hargs htys
    obtain ⟨ox,rfl,hox⟩:=list1 hargs
    have:=arr1 htys
    subst this
    split at hh
    ·rename_i d hT
     rw [<- hox] at hh
     exact xZ hlk hs (hE.ty _ _ hT) hh ha
    ·exact hh.elim
   ·rename_i s x ty ty' hargs htys
    obtain ⟨os,ox,rfl,hos,hox⟩:=list2 hargs
    have:=arr2 htys
    subst this
    split at hh
    ·rename_i e1 d hel
     cases hb:Nat.beq ty ty' with
     | false =>
      simp only [hb,cond_false] at hh
      split at hh
      ·rename_i hu
       exact hh.elim
      ·exact hh.elim
     | true =>
      simp only [hb,cond_true] at hh
      have:=(aq _ _).1 hb
      subst this
      rw [<- hos,<- hox] at hh
      exact tr hE.ty hlk hs hel hh ha
    ·exact hh.elim
   ·rename_i s x ty ty' hargs htys
    obtain ⟨os,ox,rfl,hos,hox⟩:=list2 hargs
    have:=arr2 htys
    subst this
    split at hh
    ·rename_i e1 d hel
     cases hb:Nat.beq ty ty' with
     | false=>simp [hb,Prg.hits] at hh
     | true =>
      simp only [hb,cond_true] at hh
      have:=(aq _ _).1 hb
      subst this
      rw [<- hos,<- hox] at hh
      exact wE hE.ty hlk hs hel hh ha
    ·exact hh.elim
   ·rename_i s ty hargs htys
    obtain ⟨os,rfl,hos⟩:=list1 hargs
    have:=arr1 htys
    subst this
    split at hh
    ·rename_i e1 d hel
     rw [<- hos] at hh
     exact vl hE.ty hlk hs hel hh ha
    ·exact hh.elim
   ·rename_i x y hargs
    obtain ⟨ox,oy,rfl,hox,hoy⟩:=list2 hargs
    rw [<- hox,<- hoy] at hh
    exact sV hs hh ha
   ·rename_i x y hargs
    obtain ⟨ox,oy,rfl,hox,hoy⟩:=list2 hargs
    rw [<- hox,<- hoy] at hh
    exact sV hs hh ha
   ·exact hh.elim
  | value f =>
   cases f with
   | func f =>
    have hops:(Op.call ⟨.value (.func f),args,tys⟩).operands.toList=.func f :: args.toList:=by simp [Op.operands,Call.operands]
    simp only [hops,List.map_cons] at hh
    exact DD hE.call hE.ty hlk hs hh ha
   | tmp t =>
    have hops:(Op.call ⟨.value (.tmp t),args,tys⟩).operands.toList=.tmp t :: args.toList:=by simp [Op.operands,Call.operands]
    simp only [hops,List.map_cons] at hh
    exact op_dyn hE.call hE.ty hlk hs hh ha
   | _=>simp [opL,Prg.hits] at hh
  | invoke r m=>simp [opL,Prg.hits] at hh
 | _=>simp [opL,Prg.hits] at hh
def AV.nf:AV->AV
 | .one (.t (.lit (.bool b)))=>.bl b
 | .tv (.lit (.bool b))=>.bl b
 | v=>v
def Eff.nfE:Eff->Eff
 | .val v=>.val v.nf
 | .new b v=>.new b v.nf
 | .upd i b v=>.upd i b v.nf
 | .gen ps v=>.gen ps v.nf
def ASt.nfS (st:ASt):ASt:=⟨st.slots.map AV.nf,st.boxes,st.out⟩
theorem aF (v:AV):v.nf=v\/∃ b,v.nf=.bl b/\(v=.one (.t (.lit (.bool b)))\/v=.tv (.lit (.bool b))):=by
 unfold AV.nf
 split
 ·exact .inr ⟨_,rfl,.inl rfl⟩
 ·exact .inr ⟨_,rfl,.inr rfl⟩
 ·exact .inl rfl
theorem uC (v:AV):v.nf.nf=v.nf:=by
 rcases aF v with h | ⟨b,h,_⟩
 ·rw [h,h]
 ·rw [h]; rfl
theorem gV (v:AV):v.nf.tv? = v.tv? := by
 rcases aF v with h | ⟨b,h,rfl | rfl⟩
 ·rw [h]
 ·rfl
 ·rfl
theorem B8 {v:AV} {u:Value}:bC w g look v.nf u ↔ bC w g look v u:=by
 rcases aF v with h | ⟨b,h,rfl | rfl⟩
 ·rw [h]
 ·rw [h]
  constructor
  ·intro h'
   have:u=.bool b:=h'
   subst this
   exact ⟨.lit _,rfl⟩
  ·intro h'
   exact bv h'.1
 ·rw [h]
  constructor
  ·intro h'
   have:u=.bool b:=h'
   subst this
   exact .lit _
  ·intro h'
   exact bv h'
theorem lQ (v:AV):v.nf.dO=v.dO:=by
 rcases aF v with h | ⟨b,h,rfl | rfl⟩
 ·rw [h]
 ·rw [h]; rfl
 ·rw [h]; rfl
theorem b8 (e:Eff):dw e.nfE=dw e:=by cases e <;> simp only [Eff.nfE,dw,lQ]
theorem nr (e:Eff):e.nfE.plain=e.plain:=by cases e <;> rfl
theorem wK (base:Nat) (own:List (List Nat × List Nat)) (e:Eff):e.nfE.mF base own=e.mF base own:=by cases e <;> rfl
theorem wa {S:Type} {agg:Bool} {n:Nat} {v:AV} {k k':List CA->Prg S} {e:S} (hk:∀ cs,(k cs).hits C e->(k' cs).hits C e) (h:(v.aV agg n k).hits C e):(v.aV agg n k').hits C e:=by
 unfold AV.aV at h ⊢
 split at h
 ·rename_i c
  cases hc:c.kept with
  | true=>rw [hc] at h; exact hk _ h
  | false=>rw [hc] at h; exact h.elim
 ·exact ⟨h.1,hk _ h.2⟩
 ·exact hk _ h
 ·exact hk _ h
 ·rename_i cs
  cases hc:cs.length.beq n with
  | true=>rw [hc] at h; exact hk _ h
  | false=>rw [hc] at h; exact h.elim
 ·exact ⟨h.1,hk _ h.2⟩
 ·exact h.elim
theorem eT {S:Type} {agg:Bool} {n:Nat} {v:AV} {k:List CA->Prg S} {e:S} (h:(v.aV agg n k).hits C e):(v.nf.aV agg n k).hits C e:=by
 rcases aF v with h1 | ⟨b,h1,rfl | rfl⟩
 ·rwa [h1]
 ·rw [h1]
  cases agg with
  | false=>exact h
  | true=>exact h.elim
 ·rw [h1]
  cases agg with
  | false=>exact h.2
  | true=>exact (by simp [AV.aV,TV.isAgg,Prg.hits] at h)
theorem kU {S:Type} {e:S}:∀ {vs:List AV} {k:List CA->Prg S},(kD vs k).hits C e->(kD (vs.map AV.nf) k).hits C e
 | [],k,h=>h
 | x :: vs, k, h => by
  simp only [kD,List.map_cons] at h ⊢
  refine eT ?_
  unfold AV.aV at h ⊢
  split at h
  ·rename_i c _
   cases hc:c.kept with
   | false=>simp [hc,Prg.hits] at h
   | true=>simp only [hc,cond_true] at h ⊢; exact kU h
  ·exact ⟨h.1,kU h.2⟩
  ·exact kU h
  ·exact kU h
  ·rename_i cs' hb; cases hb
  ·rename_i cs' hb; cases hb
  ·exact h.elim
theorem jH {f:FuncId} {e:Eff}:∀ {vs:List AV} {k:List CA->List CA},(kD vs fun cs=>(.ret (.val (.clo f (k cs))):Out)).hits C e->∃ cs,e=.val (.clo f cs)
 | [],k,h=>⟨_,h.symm⟩
 | x :: vs, k, h => by
  simp only [kD] at h
  unfold AV.aV at h
  split at h
  ·rename_i c _
   cases hc:c.kept with
   | false=>simp [hc,Prg.hits] at h
   | true=>simp only [hc,cond_true] at h; exact jH (k:=fun cs=>k (_ ++ cs)) h
  ·exact jH (k:=fun cs=>k (_ ++ cs)) h.2
  ·exact jH (k:=fun cs=>k (_ ++ cs)) h
  ·exact jH (k:=fun cs=>k (_ ++ cs)) h
  ·rename_i hb; cases hb
  ·rename_i hb; cases hb
  ·exact h.elim
theorem vx {S:Type} {at_:Nat->Option (Nat × Bool × Nat)} {k:List CA->Prg S} {e:S}:∀ {is:List Nat} {vs:List AV} {cs:List CA},(bW at_ is vs cs k).hits C e->(bW at_ is (vs.map AV.nf) cs k).hits C e
 | [],[],cs,h=>h
 | i :: is, x :: vs, cs, h => by
  simp only [bW,List.map_cons] at h ⊢
  split at h
  ·rename_i off agg n hat
   have key:∀ ps,((bif (off + ps.length).ble cs.length && ps.length.beq n then bW at_ is vs (bU cs off ps) k else .fail):Prg S).hits C e->((bif (off + ps.length).ble cs.length && ps.length.beq n then bW at_ is (vs.map AV.nf) (bU cs off ps) k else .fail):Prg S).hits C e:=by
    intro ps hp
    cases hb:(off + ps.length).ble cs.length && ps.length.beq n with
    | false=>simp [hb,Prg.hits] at hp
    | true=>simp only [hb,cond_true] at hp ⊢; exact vx hp
   refine eT ?_
   unfold AV.aV at h ⊢
   split at h
   ·rename_i c
    cases hc:c.kept with
    | false=>simp [hc,Prg.hits] at h
    | true=>simp only [hc,cond_true] at h ⊢; exact key _ h
   ·exact ⟨h.1,key _ h.2⟩
   ·exact key _ h
   ·exact key _ h
   ·rename_i cs'
    have:=key cs'
    cases hc:cs'.length.beq n with
    | false=>simp [hc,Prg.hits] at h
    | true=>simp only [hc,cond_true] at h this ⊢; exact this h
   ·exact ⟨h.1,key _ h.2⟩
   ·exact h.elim
  ·exact h.elim
 | [],_ :: _,cs,h=>h.elim
 | _ :: _,[],cs,h=>h.elim
theorem vC {S:Type} {v:AV} {k:TV->Prg S}:uY look v.nf k=uY look v k:=by
 rcases aF v with h | ⟨b,h,rfl | rfl⟩
 ·rw [h]
 ·rfl
 ·rfl
theorem Be {S:Type} {v:AV} {k:TV->Prg S}:qY look v.nf k=qY look v k:=by
 rcases aF v with h | ⟨b,h,rfl | rfl⟩
 ·rw [h]
 ·rfl
 ·rfl
theorem CC {S:Type} {v:AV} {k:TV->List (Nat × Nat)->Prg S}:re look v.nf k=re look v k:=by
 rcases aF v with h | ⟨b,h,rfl | rfl⟩
 ·rw [h]
 ·rfl
 ·rfl
theorem lE {S:Type}:∀ {vs:List AV} {k:List TV->Prg S},lends look (vs.map AV.nf) k=lends look vs k
 | [],k=>rfl
 | v :: vs,k=>by simp only [List.map_cons,lends,Be,lE]
theorem sm {S:Type}:∀ {vs:List AV} {k:List TV->List (Nat × Nat)->Prg S},hands look (vs.map AV.nf) k=hands look vs k
 | [],k=>rfl
 | v :: vs,k=>by simp only [List.map_cons,hands,CC,sm]
theorem BF {E:Env} {id:Nat} {look:Look} {f:FuncId} {ld:eW} (vs:List AV):nB E id look f ld (vs.map AV.nf)=nB E id look f ld vs:=by
 cases vs with
 | nil=>rfl
 | cons v l =>
  rcases aF v with h | ⟨b,h,rfl | rfl⟩
  ·simp only [List.map_cons,h]
   cases v with
   | one c =>
    cases c with
    | ptr i off =>
     cases off with
     | zero=>simp only [nB,sm]
     | succ n=>rfl
    | _=>rfl
   | _=>rfl
  ·simp only [List.map_cons,h]; rfl
  ·simp only [List.map_cons,h]; rfl
theorem B9 {look:Look} {f:FuncId} {c:Nat × Nat} (vs:List AV):nG look f c (vs.map AV.nf)=nG look f c vs:=by
 cases vs with
 | nil=>rfl
 | cons v l =>
  rcases aF v with h | ⟨b,h,rfl | rfl⟩
  ·simp only [List.map_cons,h]
   cases v with
   | one c =>
    cases c with
    | ptr i off =>
     cases off with
     | zero=>simp only [nG,lE]
     | succ n=>rfl
    | _=>rfl
   | _=>rfl
  ·simp only [List.map_cons,h]; rfl
  ·simp only [List.map_cons,h]; rfl
theorem Cv {look:Look} {f:FuncId} (vs:List AV):sI look f (vs.map AV.nf)=sI look f vs:=by
 rfl
theorem C7 {E:Env} {id:Nat} {look:Look} {f:FuncId} {i:Nat} (vs:List AV):vY E id look f i (vs.map AV.nf)=vY E id look f i vs:=by
 simp only [vY,lE]
theorem DO (d:TyD) (t:TypeId) (v:AV):CS d t v.nf=CS d t v:=by
 rcases aF v with h | ⟨b,h,rfl | rfl⟩
 ·rw [h]
 ·rfl
 ·rfl
theorem CL (d:TyD) (t:TypeId) (v:AV):tM d t v.nf=tM d t v:=by
 simp only [tM,gV]
theorem Aw {S:Type} {v:Option AV} {k:Option Nat->Prg S}:fm (v.map AV.nf) k=fm v k:=by
 cases v with
 | none=>rfl
 | some v=>simp only [fm,Ey,gV]
theorem tQ (v:AV):sf v.nf=sf v:=by
 rcases aF v with h | ⟨b,h,rfl | rfl⟩
 ·rw [h]
 ·rfl
 ·rfl
theorem zK {S:Type} {d:TyD} {dest:Option Nat} {v:AV} {k:List (List TV)->List Prim->Prg S}:ws look d dest v.nf k=ws look d dest v k:=by
 rcases aF v with h | ⟨b,h,rfl | rfl⟩
 ·rw [h]
 ·rfl
 ·rfl
theorem lW {kd:Kd} {sz:Nat} {x:AV} {lo hi:Option AV}:ip look kd sz x.nf (lo.map AV.nf) (hi.map AV.nf)=ip look kd sz x lo hi:=by
 simp only [ip,gV,Aw]
 rcases aF x with h | ⟨b,h,rfl | rfl⟩
 ·rw [h]
  cases lo <;> rfl
 ·rfl
 ·rfl
theorem CK (v:AV):uH v.nf=uH v:=by
 rcases aF v with h | ⟨b,h,rfl | rfl⟩
 ·rw [h]
 ·rfl
 ·rfl
theorem opL_nf {op : Op} {vs : List AV} {e : Eff} (h : (opL E id look op vs).hits C e) : ∃ e', (opL E id look op (vs.map AV.nf)).hits C e' ∧ e'.nfE = e.nfE := by
 cases op with
 | move x =>
  rcases vs with _ | ⟨v,_ | ⟨v',r⟩⟩ <;> first | exact h.elim | skip
  cases h
  exact ⟨_,rfl,by simp [Eff.nfE,uC]⟩
 | assign x =>
  rcases vs with _ | ⟨v,_ | ⟨v',r⟩⟩ <;> first | exact h.elim | skip
  cases h
  exact ⟨_,rfl,by simp [Eff.nfE,uC]⟩
 | pick c x y =>
  rcases vs with _ | ⟨v,_ | ⟨v',_ | ⟨v'',_ | ⟨v3,r⟩⟩⟩⟩ <;> first | exact h.elim | skip
  simp only [opL] at h
  split at h
  ·rename_i b
   cases h
   refine ⟨_,rfl,?_⟩
   cases b <;> simp [Eff.nfE,uC]
  ·rename_i v
   obtain ⟨b,hb,h⟩:=h
   have hv:v=.lit (.bool b):=by
    unfold asBool at hb
    split at hb
    ·cases hb; rfl
    ·cases hb
   subst hv
   rcases h with ⟨rfl,h⟩ | ⟨rfl,h⟩ <;> (cases h; exact ⟨_,rfl,by simp [Eff.nfE,uC]⟩)
  ·rename_i v
   obtain ⟨b,hb,h⟩:=h
   have hv:v=.lit (.bool b):=by
    unfold asBool at hb
    split at hb
    ·cases hb; rfl
    ·cases hb
   subst hv
   rcases h with ⟨rfl,h⟩ | ⟨rfl,h⟩ <;> (cases h; exact ⟨_,rfl,by simp [Eff.nfE,uC]⟩)
  ·exact h.elim
 | alloc t =>
  rcases vs with _ | ⟨v,r⟩ <;> first | exact h.elim | exact ⟨e,h,rfl⟩
 | box t x =>
  rcases vs with _ | ⟨v,_ | ⟨v',r⟩⟩ <;> first | exact h.elim | skip
  refine ⟨e,?_,rfl⟩
  simp only [opL,List.map_cons,List.map_nil] at h ⊢
  split at h
  ·exact eT h
  ·exact h.elim
 | makeFunc fn first cap =>
  cases fn with
  | func f =>
   have:∃ cs,e=.val (.clo f cs):=by
    simp only [opL] at h
    cases hb:first.size.beq 0 with
    | false=>simp [hb,Prg.hits] at h
    | true =>
     simp only [hb,cond_true] at h
     exact jH (k:=fun l=>l) h
   obtain ⟨cs,rfl⟩:=this
   refine ⟨_,?_,rfl⟩
   simp only [opL] at h ⊢
   cases hb:first.size.beq 0 with
   | false=>simp [hb,Prg.hits] at h
   | true=>simp only [hb,cond_true] at h ⊢; exact kU h
  | _=>exact h.elim
 | build t parts =>
  refine ⟨e,?_,rfl⟩
  simp only [opL] at h ⊢
  split at h
  ·rename_i d hd
   cases hb:lH E.T d.kd with
   | false=>simp [hb,Prg.hits] at h
   | true=>simp only [hb,cond_true] at h ⊢; exact vx h
  ·exact h.elim
 | buildSlice t len parts =>
  refine ⟨e,?_,rfl⟩
  simp only [opL] at h ⊢
  cases hc:E.cold t && !(len.beq 0) with
  | true =>
   rw [hc] at h
   simp only [cond_true] at h ⊢
   exact h.elim
  | false =>
   rw [hc] at h
   simp only [cond_false] at h ⊢
   unfold iH at h ⊢
   split at h
   ·exact vx h
   ·exact h.elim
 | load t x =>
  rcases vs with _ | ⟨v,_ | ⟨v',r⟩⟩ <;> first | exact h.elim | skip
  refine ⟨e,?_,rfl⟩
  rcases aF v with h1 | ⟨b,h1,rfl | rfl⟩
  ·simpa only [List.map_cons,List.map_nil,h1] using h
  ·simp only [opL] at h; split at h <;> exact h.elim
  ·simp only [opL] at h; split at h <;> exact h.elim
 | store t x y =>
  rcases vs with _ | ⟨v,_ | ⟨v',_ | ⟨v'',r⟩⟩⟩ <;> first | exact h.elim | skip
  refine ⟨e,?_,rfl⟩
  simp only [opL,List.map_cons,List.map_nil] at h ⊢
  split at h
  ·rcases aF v with h1 | ⟨b,h1,rfl | rfl⟩
   ·rw [h1]
    unfold vF at h ⊢
    split at h
    ·rename_i e0 _ _ i0 off0 len0 n0
     cases hk0:e0.kd.isAgg with
     | true=>rw [hk0] at h; exact h.elim
     | false =>
      rw [hk0] at h
      simp only [cond_false] at h ⊢
      split at h
      ·exact eT h
      ·exact h.elim
    ·exact eT h
    ·exact eT h
    ·exact h.elim
   ·exact h.elim
   ·exact h.elim
  ·exact h.elim
 | nilCheck x =>
  rcases vs with _ | ⟨v,_ | ⟨v',r⟩⟩ <;> first | exact h.elim | skip
  refine ⟨e,?_,rfl⟩
  rcases aF v with h1 | ⟨b,h1,rfl | rfl⟩
  ·simpa only [List.map_cons,List.map_nil,h1] using h
  ·exact h.elim
  ·exact h.elim
 | binOp op xt x y yt =>
  rcases vs with _ | ⟨v,_ | ⟨v',_ | ⟨v'',r⟩⟩⟩ <;> first | exact h.elim | skip
  refine ⟨e,?_,rfl⟩
  simp only [opL,List.map_cons,List.map_nil] at h ⊢
  split at h
  ·unfold DP at h ⊢
   split at h
   ·split at h
    ·exact eT (wa (fun cs h=>eT h) h)
    ·exact h.elim
   ·simp only [DS,CK] at h ⊢
    exact h
   ·simp only [Dw,vC,gV] at h ⊢
    exact h
  ·exact h.elim
 | unOp op xt x =>
  rcases vs with _ | ⟨v,_ | ⟨v',r⟩⟩ <;> first | exact h.elim | skip
  rcases aF v with h1 | ⟨b,h1,h2⟩
  ·refine ⟨e,?_,rfl⟩
   simpa only [List.map_cons,List.map_nil,h1] using h
  ·have hv:∃ t,(opL E id look (.unOp op xt x) [v]).hits C e->(Prg.tv (pun op (.lit (.bool b))) vt).hits C e:=⟨(),by rcases h2 with rfl | rfl <;> intro h <;> cases op <;> exact h⟩
   obtain ⟨_,hv⟩:=hv
   obtain ⟨z,hz,hh⟩:=hv h
   cases op with
   | not =>
    simp only [pun,Em] at hz
    subst hz
    cases hh
    refine ⟨.val (.bl !b),?_,rfl⟩
    simp only [List.map_cons,List.map_nil,h1]
    rfl
   | _=>simp [pun] at hz
 | convert xt dt x =>
  rcases vs with _ | ⟨v,_ | ⟨v',r⟩⟩ <;> first | exact h.elim | skip
  refine ⟨e,?_,rfl⟩
  simp only [opL,List.map_cons,List.map_nil,zD,gV,vC] at h ⊢
  exact h
 | makeSlice t x y =>
  rcases vs with _ | ⟨v,_ | ⟨v',_ | ⟨v'',r⟩⟩⟩ <;> first | exact h.elim | skip
  refine ⟨e,?_,rfl⟩
  simp only [opL,List.map_cons,List.map_nil,gV] at h ⊢
  exact h
 | slice t x lo hi mx =>
  refine ⟨e,?_,rfl⟩
  cases mx with
  | some m=>rcases vs with _ | ⟨v,r⟩ <;> exact h.elim
  | none =>
   rcases vs with _ | ⟨v,r⟩
   ·exact h.elim
   ·simp only [opL, List.map_cons] at h ⊢
    split at h
    ·rename_i d hT
     split at h
     ·rename_i sz hsz
      cases lo with
      | none =>
       cases hi with
       | none =>
        rcases r with _ | ⟨l,r⟩
        ·have:=lW (look:=look) (kd:=d.kd) (sz:=sz) (x:=v) (lo:=none) (hi:=none)
         simp only [Option.map_none] at this
         simp only [List.map_nil]
         rw [this]; exact h
        ·exact h.elim
       | some hh =>
        rcases r with _ | ⟨l,_ | ⟨l',r⟩⟩
        ·exact h.elim
        ·have:=lW (look:=look) (kd:=d.kd) (sz:=sz) (x:=v) (lo:=none) (hi:=some l)
         simp only [Option.map_none,Ey] at this
         simp only [List.map_cons,List.map_nil]
         rw [this]; exact h
        ·exact h.elim
      | some ll =>
       cases hi with
       | none =>
        rcases r with _ | ⟨l,_ | ⟨l',r⟩⟩
        ·exact h.elim
        ·have:=lW (look:=look) (kd:=d.kd) (sz:=sz) (x:=v) (lo:=some l) (hi:=none)
         simp only [Option.map_none,Ey] at this
         simp only [List.map_cons,List.map_nil]
         rw [this]; exact h
        ·exact h.elim
       | some hh =>
        rcases r with _ | ⟨l,_ | ⟨l',_ | ⟨l'',r⟩⟩⟩
        ·exact h.elim
        ·exact h.elim
        ·have:=lW (look:=look) (kd:=d.kd) (sz:=sz) (x:=v) (lo:=some l) (hi:=some l')
         simp only [Ey] at this
         simp only [List.map_cons,List.map_nil]
         rw [this]; exact h
        ·exact h.elim
     ·exact h.elim
    ·exact h.elim
 | fieldAddr t x f =>
  rcases vs with _ | ⟨v,_ | ⟨v',r⟩⟩ <;> first | exact h.elim | skip
  refine ⟨e,?_,rfl⟩
  rcases aF v with h1 | ⟨b,h1,rfl | rfl⟩
  ·simpa only [List.map_cons,List.map_nil,h1] using h
  ·simp only [opL] at h
   split at h
   ·rename_i hv
    cases hv
    split at h
    ·rename_i n _ _
     cases hb:Nat.blt 0 n <;> simp [hb,CA.add,Prg.hits] at h
    ·exact h.elim
   ·exact h.elim
  ·simp only [opL] at h
   split at h
   ·rename_i hv; cases hv
   ·exact h.elim
 | field t x f =>
  rcases vs with _ | ⟨v,_ | ⟨v',r⟩⟩ <;> first | exact h.elim | skip
  refine ⟨e,?_,rfl⟩
  rcases aF v with h1 | ⟨b,h1,rfl | rfl⟩
  ·simpa only [List.map_cons,List.map_nil,h1] using h
  ·simp only [opL] at h
   split at h
   ·split at h <;> exact h.elim
   ·exact h.elim
  ·simp only [opL] at h
   split at h
   ·split at h
    ·simp [vv,TV.isAgg,Prg.hits] at h
    ·exact h.elim
   ·exact h.elim
 | indexAddr t x y =>
  rcases vs with _ | ⟨v,_ | ⟨v',_ | ⟨v'',r⟩⟩⟩ <;> first | exact h.elim | skip
  refine ⟨e,?_,rfl⟩
  simp only [opL,List.map_cons,List.map_nil] at h ⊢
  split at h
  ·rcases aF v with h1 | ⟨b,h1,rfl | rfl⟩
   ·simp only [h1,pp,gV] at h ⊢; exact h
   ·simp only [pp,gV] at h ⊢; exact h
   ·simp only [pp,gV] at h ⊢; exact h
  ·unfold qQ at h ⊢
   rw [gV]
   rcases aF v with h1 | ⟨b,h1,rfl | rfl⟩
   ·rw [h1]; exact h
   ·split at h
    ·split at h <;> first | exact h.elim | (rename_i hx _; cases hx)
    ·exact h.elim
   ·split at h
    ·split at h <;> first | exact h.elim | (rename_i hx _; cases hx)
    ·exact h.elim
 | index t x y =>
  rcases vs with _ | ⟨v,_ | ⟨v',_ | ⟨v'',r⟩⟩⟩ <;> first | exact h.elim | skip
  refine ⟨e,?_,rfl⟩
  simp only [opL,List.map_cons,List.map_nil,gV] at h ⊢
  split at h
  ·exact h
  ·unfold qB at h ⊢
   rw [gV]
   rcases aF v with h1 | ⟨b,h1,rfl | rfl⟩
   ·rw [h1]; exact h
   ·split at h
    ·split at h <;> first | exact h.elim | (rename_i hx _; cases hx)
    ·exact h.elim
   ·split at h
    ·split at h <;> first | exact h.elim | (rename_i hx _; cases hx)
    ·exact h.elim
 | extract x j =>
  rcases vs with _ | ⟨v,_ | ⟨v',r⟩⟩ <;> first | exact h.elim | skip
  refine ⟨e,?_,rfl⟩
  rcases aF v with h1 | ⟨b,h1,rfl | rfl⟩
  ·simpa only [List.map_cons,List.map_nil,h1] using h
  ·exact h.elim
  ·exact h.elim
 | call c =>
  refine ⟨e,?_,rfl⟩
  obtain ⟨callee,args,tys⟩:=c
  cases callee with
  | builtin b =>
   simp only [opL] at h ⊢
   unfold dV at h
   split at h
   ·rename_i x ty htys
    simp only [htys,dV,List.map_cons,List.map_nil]
    split at h
    ·rename_i d hd
     have key:∀ kd,(yz look kd x).hits C e->(yz look kd x.nf).hits C e:=by intro kd; cases kd <;> simp only [yz,vC] <;> exact fun h=>h
     exact key _ h
    ·exact h.elim
   ·rename_i s x ty ty' htys
    simp only [htys,dV,List.map_cons,List.map_nil]
    split at h
    ·rename_i _ d hel
     cases hb:Nat.beq ty ty' with
     | false =>
      simp only [hb,cond_false] at h ⊢
      split at h
      ·rename_i hu
       exact h.elim
      ·exact h.elim
     | true =>
      simp only [hb,cond_true] at h ⊢
      unfold nT at h ⊢
      rw [zK,tQ]
      rcases aF s with h1 | ⟨b,h1,rfl | rfl⟩
      ·rw [h1]; exact h
      ·exact h
      ·exact h
    ·exact h.elim
   ·rename_i s x ty ty' htys
    simp only [htys,dV,List.map_cons,List.map_nil]
    split at h
    ·rename_i _ d hel
     cases hb:Nat.beq ty ty' with
     | false=>simp [hb,Prg.hits] at h
     | true =>
      simp only [hb,cond_true] at h ⊢
      unfold zh at h ⊢
      rw [zK,tQ]
      rcases aF s with h1 | ⟨b,h1,rfl | rfl⟩
      ·rw [h1]; exact h
      ·exact h
      ·exact h
    ·exact h.elim
   ·rename_i s ty htys
    simp only [htys,dV,List.map_cons,List.map_nil]
    split at h
    ·unfold vg at h ⊢
     rcases aF s with h1 | ⟨b,h1,rfl | rfl⟩
     ·rw [h1]; exact h
     ·exfalso
      revert h
      cases Nat.blt 0 _ <;> exact fun h=>h.elim
     ·exfalso
      revert h
      cases Nat.blt 0 _ <;> exact fun h=>h.elim
    ·exact h.elim
   ·simp only [dV,List.map_cons,List.map_nil,wd,gV] at h ⊢
    exact h
   ·simp only [dV,List.map_cons,List.map_nil,wd,gV] at h ⊢
    exact h
   ·exact h.elim
  | value f =>
   cases f with
   | func f =>
    rcases vs with _ | ⟨v,r⟩
    ·exact h.elim
    ·simp only [opL,List.map_cons,mq,lE,sm,BF,B9,Cv] at h ⊢
     exact h
   | tmp t =>
    rcases vs with _ | ⟨v,r⟩
    ·exact h.elim
    ·simp only [opL,List.map_cons,gV,lE,C7] at h ⊢
     rcases aF v with h1 | ⟨b,h1,rfl | rfl⟩
     ·rw [h1]; exact h
     ·exact h
     ·exact h
   | _=>exact h.elim
  | invoke r m=>exact h.elim
 | makeInterface t x =>
  rcases vs with _ | ⟨v,_ | ⟨v',r⟩⟩ <;> first | exact h.elim | skip
  refine ⟨e,?_,rfl⟩
  simp only [opL,List.map_cons,List.map_nil,DO] at h ⊢
  exact h
 | typeAssert x xt t ok =>
  rcases vs with _ | ⟨v,_ | ⟨v',r⟩⟩ <;> cases ok <;> first | exact h.elim | skip
  refine ⟨e,?_,rfl⟩
  simp only [opL,List.map_cons,List.map_nil,CL] at h ⊢
  exact h
 | _=>exact h.elim
theorem lv (st:ASt):st.nfS.look=st.look:=rfl
theorem oh (st:ASt):st.nfS.base=st.base:=rfl
theorem vD (st:ASt) (d:Option Tmp):st.nfS.nid d=st.nid d:=by cases d <;> rfl
theorem iO (st:ASt) (d:Option Tmp) (v:AV):(st.put d v).nfS=st.nfS.put d v.nf:=by
 cases d with
 | none=>rfl
 | some d=>simp [ASt.nfS,ASt.put,ai,List.map_set]
theorem sa (st:ASt) (i:Nat) (b:Option BC):(st.ab i b).nfS=st.nfS.ab i b:=rfl
theorem jr (st:ASt) (t:Nat):nth (.one .junk) st.nfS.slots t=(nth (.one .junk) st.slots t).nf:=by
 simp only [ASt.nfS,aO,Er]
 cases st.slots[t]? <;> rfl
theorem Ag (ps:List Nat) (st:ASt) (d:Option Nat) (e:Eff):b9 ps st.nfS d e.nfE=b9 ps st d e:=by
 unfold b9
 congr 1
 funext k
 cases d with
 | none=>rw [oh,b8]
 | some d=>simp only [oh,b8,jr,lQ]
theorem nK (k s:Nat):∀ (l:List AV) (n:Nat),eX k s n (l.map AV.nf)=eX k s n l
 | [],n=>rfl
 | v :: l,n=>by simp only [List.map_cons,eX,lQ,nK k s l (n + 1)]
theorem wA {k:Nat} {v:AV} (h:jm k v=true):jm k v.nf=true:=by
 unfold jm at h
 split at h
 ·exact h
 ·cases h
theorem iB {e:Eff} {i:Nat} {y:TV} (h:jw e=some (i,y)):e=.gen [.drop i 0 [] false,.root i 0 y] (.one (.sref i 0 [])):=by
 unfold jw at h
 split at h
 ·rename_i i' j y' k
  cases hb:i'.beq j && i'.beq k with
  | false=>rw [hb] at h; cases h
  | true =>
   simp only [hb,cond_true,Em,Prod.mk.injEq] at h
   simp only [En] at hb
   obtain ⟨rfl,rfl⟩:=h
   rw [<- (aq _ _).1 hb.1,<- (aq _ _).1 hb.2]
 ·cases h
theorem mD (i:Nat) (y:TV):jw (.gen [.drop i 0 [] false,.root i 0 y] (.one (.sref i 0 [])))=some (i,y):=by
 simp only [jw,(aq i i).2 rfl,Bool.and_self,cond_true]
theorem AK {o:Item} {st:ASt} {e:Eff} (h:cV o st e=true):cV o st.nfS e.nfE=true:=by
 unfold cV at h ⊢
 split at h
 ·rename_i s i y h1 h2
  have:=iB h2
  subst this
  simp only [En] at h
  simp only [h1,Eff.nfE,AV.nf,mD,En]
  refine ⟨⟨⟨⟨⟨h.1.1.1.1.1,?_⟩,h.1.1.1.2⟩,?_⟩,h.1.2⟩,h.2⟩
  ·rw [jr]; exact wA h.1.1.1.1.2
  ·rw [show st.nfS.slots=st.slots.map AV.nf from rfl,nK]; exact h.1.1.2
 ·cases h
theorem rr (st:ASt) (x:Operand):st.nfS.ev x=(st.ev x).nf:=by
 cases x with
 | tmp t=>exact jr st t
 | const v =>
  cases v with
  | bool b=>rfl
  | _=>first | rfl | (simp only [ASt.ev]; cases Value.oneCell' _ <;> rfl)
 | global g=>rfl
 | func f=>rfl
theorem rt:∀ (l:List AV),cA (l.map AV.nf)=cA l
 | []=>rfl
 | v :: l=>by simp only [List.map_cons,cA,gV,rt l]
theorem jX (e:Eff):ig e.nfE=ig e:=by
 cases e with
 | new b v=>cases b <;> rfl
 | _=>rfl
theorem An {i:Item} {st:ASt} {e:Eff}:gM i st.nfS e.nfE=gM i st e:=by
 unfold gM
 have:i.o.op.operands.toList.map st.nfS.ev=(i.o.op.operands.toList.map st.ev).map AV.nf:=by
  rw [List.map_map]
  exact List.map_congr_left fun x _=>rr st x
 rw [this,rt,jX,b8]
 rfl
theorem xy:∀ (l:List AV),fH (l.map AV.nf)=fH l
 | []=>rfl
 | v :: l=>by simp only [List.map_cons,fH,lQ,xy l]
theorem pf (e:Eff):li e.nfE=li e:=by cases e <;> rfl
theorem yK (e:Eff):drE e.nfE=drE e:=by cases e <;> rfl
theorem rR (k:Nat) (e:Eff):tW k e.nfE=tW k e:=by cases e <;> rfl
theorem qP (v:AV):(v.nf.bK CA.deep).dO=(v.bK CA.deep).dO:=by
 rcases aF v with h | ⟨b,h,rfl | rfl⟩
 ·rw [h]
 ·rw [h]; rfl
 ·rw [h]; rfl
theorem xl:∀ (l:List AV),fH (bN CA.deep (l.map AV.nf))=fH (bN CA.deep l)
 | []=>rfl
 | v :: l=>by simp only [List.map_cons,bN,fH,qP,xl l]
theorem pO (e:Eff):nb e.nfE=nb e:=by
 cases e with
 | val v=>exact qP v
 | new b v=>exact b8 (.new b v)
 | upd i b v=>exact b8 (.upd i b v)
 | gen ps v=>exact b8 (.gen ps v)
theorem AP {i:Item} {st:ASt} {e:Eff}:cf i st.nfS e.nfE=cf i st e:=by
 unfold cf
 simp only [pf,yK,rR]
 rfl
theorem AM {i:Item} {st:ASt} {e:Eff}:cU i st.nfS e.nfE=cU i st e:=by
 unfold cU
 have hd:∀ d b,iT st.nfS d b=iT st d b:=fun d b=>by
  cases d with
  | none=>rfl
  | some d =>
   have:=rr st (.tmp d)
   simp only [ASt.ev] at this
   simp only [iT,this,lQ]
 have hd2:∀ d b,gu st.nfS d b=gu st d b:=fun d b=>by
  cases d with
  | none=>rfl
  | some d =>
   have:=rr st (.tmp d)
   simp only [ASt.ev] at this
   simp only [gu,this,qP]
 simp only [hd,hd2,b8,pO]
 have:i.o.op.operands.toList.map st.nfS.ev=(i.o.op.operands.toList.map st.ev).map AV.nf:=by
  rw [List.map_map]
  exact List.map_congr_left fun x _=>rr st x
 rw [this,xy,xl]
 rfl
theorem okE_nf {i:Item} {st:ASt} {e:Eff} (h:okE i st e=true):okE i st.nfS e.nfE=true:=by
 unfold okE at h ⊢
 rw [Bool.or_eq_true] at h ⊢
 rcases h with h | h
 ·rw [AP]; exact .inl h
 refine .inr ?_
 rw [Bool.or_eq_true] at h ⊢
 rcases h with h | h
 ·rw [nr,wK,oh,Ag,An,AM]; exact .inl h
 ·exact .inr (AK h)
theorem vJ (hs:Sim w0 I0 st a ov w):Sim w0 I0 st.nfS a ov w:=by
 obtain ⟨g,hs⟩:=hs
 refine ⟨g,hs.below,hs.sub,hs.lt,hs.old,by simp [ASt.nfS,hs.len],hs.defers,fun t v hv=>?_,hs.olen,hs.outs,hs.cells,hs.trees,hs.foot,hs.apart,hs.apartR,hs.res,hs.base,hs.out⟩
 simp only [ASt.nfS,Er] at hv
 cases hsl:st.slots[t]? with
 | none=>simp [hsl] at hv
 | some u =>
  simp only [hsl,Ey,Em] at hv
  subst hv
  exact B8.2 (hs.slots t u hsl)
theorem ea (hs:Sim w0 I0 st.nfS a ov w):Sim w0 I0 st a ov w:=by
 obtain ⟨g,hs⟩:=hs
 refine ⟨g,hs.below,hs.sub,hs.lt,hs.old,by have:=hs.len; simpa [ASt.nfS] using this,hs.defers,fun t v hv=>?_,hs.olen,hs.outs,hs.cells,hs.trees,hs.foot,hs.apart,hs.apartR,hs.res,hs.base,hs.out⟩
 exact B8.1 (hs.slots t v.nf (by simp [ASt.nfS,hv]))
theorem nU (i r:Nat) (js:List Nat) (b:Bool) (v:AV):(v.bK (CA.drop i r js b)).nf=v.nf.bK (CA.drop i r js b):=by
 rcases aF v with h | ⟨b,h,rfl | rfl⟩
 ·rw [h]
  cases v with
  | one c =>
   have key:∀ c:CA,c.drop i r js b=c\/c.drop i r js b=.junk:=fun c=>by
    rcases fh i r js b c with ⟨h,_⟩ | h
    ·exact .inl h
    ·exact .inr h
   simp only [AV.bK]
   rcases key c with h' | h'
   ·rw [h',h]
   ·rw [h']; rfl
  | tv x=>exact h
  | _=>rfl
 ·rfl
 ·rfl
theorem Bg (st:ASt) (i r:Nat) (js:List Nat) (b:Bool):(st.aw (CA.drop i r js b)).nfS=st.nfS.aw (CA.drop i r js b):=by
 simp only [ASt.nfS,ASt.aw]
 congr 1
 apply List.ext_getElem?
 intro t
 simp only [Er,me]
 cases st.slots[t]? with
 | none=>rfl
 | some v=>simp [nU]
theorem qj (i:Nat) (v:AV):(v.bK (CA.unM i)).nf=v.nf.bK (CA.unM i):=by
 cases v with
 | one c =>
  cases c with
  | t x =>
   cases x with
   | lit u=>cases u <;> rfl
   | _=>rfl
  | may j ty =>
   simp only [AV.bK,CA.unM,AV.nf]
   cases j.beq i <;> rfl
  | _=>rfl
 | tv x =>
  cases x with
  | lit u=>cases u <;> rfl
  | _=>rfl
 | _=>rfl
theorem DV (st:ASt) (i:Nat):(st.aw (CA.unM i)).nfS=st.nfS.aw (CA.unM i):=by
 simp only [ASt.aw,ASt.nfS]
 congr 1
 induction st.slots with
 | nil=>rfl
 | cons v l ih=>simp only [bN,List.map_cons,qj,ih]
theorem ua {i:Nat} {b:BC} (h:st.bo i b=some st'):st.nfS.bo i b=some st'.nfS:=by
 obtain ⟨h1,h2,rfl⟩:=bh h
 have h2':i.blt st.nfS.boxes.length=true:=by simpa [ASt.nfS] using h2
 simp only [ASt.bo,lv,h1,h2',cond_true,sa]
theorem pV {d:Option Tmp}:∀ {ps:List Prim} {st st':ASt},ae d ps st=some st'->ae d ps st.nfS=some st'.nfS
 | [],st,st',h=>by simp only [ae,Em] at h; subst h; rfl
 | p :: ps, st, st', h => by
  simp only [ae] at h ⊢
  cases h1:p.app st d with
  | none=>simp [h1] at h
  | some s1 =>
   simp only [h1] at h
   have:p.app st.nfS d=some s1.nfS:=by
    cases p with
    | drop i r js b =>
     simp only [Prim.app,Em] at h1 ⊢
     subst h1
     rw [Bg]
    | root i r x =>
     simp only [Prim.app,lv] at h1 ⊢
     split at h1
     ·rename_i b hb
      simp only [Em] at h1
      subst h1
      rfl
     ·cases h1
    | frz i r =>
     simp only [Prim.app,lv] at h1 ⊢
     split at h1
     ·rename_i x hx
      split at h1
      ·rename_i b hb
       simp only [Em] at h1
       subst h1
       rfl
      ·cases h1
     ·cases h1
    | unmay i =>
     simp only [Prim.app,Em] at h1 ⊢
     subst h1
     rw [DV]
    | newB b =>
     cases d with
     | none=>simp [Prim.app] at h1
     | some d =>
      simp only [Prim.app] at h1 ⊢
      rw [vD]
      exact ua h1
    | setB i cs =>
     simp only [Prim.app,lv] at h1 ⊢
     split at h1
     ·simp only [Em] at h1
      subst h1
      rfl
     ·cases h1
   rw [this]
   exact pV h
theorem app_nf {e:Eff} {d:Option Tmp} (h:e.app st d=some st'):e.nfE.app st.nfS d=some st'.nfS:=by
 cases e with
 | val v =>
  simp only [Eff.app,Eff.nfE,Em] at h ⊢
  subst h
  rw [iO]
 | new b v =>
  cases d with
  | none=>simp [Eff.app] at h
  | some d =>
   simp only [Eff.app,Eff.nfE] at h ⊢
   rw [vD]
   split at h
   ·rename_i s1 hs1
    simp only [Em] at h
    subst h
    rw [ua hs1]
    simp only [iO]
   ·cases h
 | upd i b v =>
  simp only [Eff.app,Eff.nfE,Em] at h ⊢
  subst h
  rw [iO,sa]
 | gen ps v =>
  simp only [Eff.app,Eff.nfE] at h ⊢
  split at h
  ·rename_i s1 hs1
   simp only [Em] at h
   subst h
   rw [pV hs1]
   simp only [iO]
  ·cases h
theorem kr {d:Option Tmp} {v:AV} (hs:Sim w0 I0 (st.put d v) a ov w):Sim w0 I0 (st.put d v.nf) a ov w:=by
 apply ea
 have:=vJ hs
 rw [iO] at this ⊢
 rwa [uC]
theorem yX {e:Eff} {d:Option Tmp} (h:e.nfE.app st d=some st'):∃ st1,e.app st d=some st1/\∀ w0 I0 a ov w,Sim w0 I0 st1 a ov w->Sim w0 I0 st' a ov w:=by
 cases e with
 | val v =>
  simp only [Eff.app,Eff.nfE,Em] at h ⊢
  subst h
  exact ⟨_,rfl,fun w0 I0 a ov w hs=>kr hs⟩
 | new b v =>
  cases d with
  | none=>simp [Eff.app,Eff.nfE] at h
  | some d =>
   simp only [Eff.app,Eff.nfE] at h ⊢
   split at h
   ·rename_i s1 hs1
    simp only [Em] at h
    subst h
    exact ⟨_,rfl,fun w0 I0 a ov w hs=>kr hs⟩
   ·cases h
 | upd i b v =>
  simp only [Eff.app,Eff.nfE,Em] at h ⊢
  subst h
  exact ⟨_,rfl,fun w0 I0 a ov w hs=>kr hs⟩
 | gen ps v =>
  simp only [Eff.app,Eff.nfE] at h ⊢
  split at h
  ·rename_i s1 hs1
   simp only [Em] at h
   subst h
   exact ⟨_,rfl,fun w0 I0 a ov w hs=>kr hs⟩
  ·cases h
end
end Go.Ab
end
section
namespace Go.Ab
open Go.RowKit
def Prg.All {R:Type} (p:R->Prop):Prg R->Prop
 | .fail=>True
 | .ret e=>p e
 | .tv _ k=>∀ v,(k v).All p
 | .tvs _ k=>∀ v,(k v).All p
 | .rws _ k=>∀ v,(k v).All p
 | .nat _ k=>∀ v,(k v).All p
 | .chk _ k=>k.All p
 | .ite _ t e=>t.All p/\e.All p
 | .call _ _ k=>∀ v,(k v).All p
 | .jmp _ _=>True
theorem Prg.All.hits {R:Type} {C:Cal} {p:R->Prop} {e:R}:∀ {o:Prg R},o.All p->o.hits C e->p e
 | .ret e',h,h'=>by cases h'; exact h
 | .tv _ k,h,⟨v,_,h'⟩=>(h v).hits h'
 | .tvs _ k,h,⟨v,_,h'⟩=>(h v).hits h'
 | .rws _ k,h,⟨v,_,h'⟩=>(h v).hits h'
 | .nat _ k,h,⟨v,_,h'⟩=>(h v).hits h'
 | .chk _ k,h,⟨_,h'⟩=>Prg.All.hits (o:=k) h h'
 | .ite _ t e,h,⟨v,_,.inl ⟨_,h'⟩⟩=>Prg.All.hits (o:=t) h.1 h'
 | .ite _ t e,h,⟨v,_,.inr ⟨_,h'⟩⟩=>Prg.All.hits (o:=e) h.2 h'
 | .call _ _ k,h,⟨v,_,h'⟩=>(h v).hits h'
section
variable {E:Env} {look look':Look} {p:Eff->Prop} {id:Nat}
theorem aG {b:Bool} {x y:Out} (hx:x.All p) (hy:y.All p):(bif b then x else y).All p:=by cases b <;> assumption
theorem lg {q:Way} {x:TV} {k:TV->Out} (h:∀ y,(k y).All p):(pA q x k).All p:=by
 unfold pA
 split
 ·exact h _
 ·exact h
theorem fD {c:CA} {k:TV->Out} (h:∀ y,(k y).All p):(iE look c k).All p:=by
 unfold iE
 split
 ·exact h _
 ·split
  ·exact lg h
  ·exact trivial
 ·split
  ·exact lg fun y z=>h z
  ·exact trivial
 ·exact trivial
theorem rW {v:AV} {k:TV->Out} (h:∀ y,(k y).All p):(uY look v k).All p:=by
 unfold uY
 split
 ·exact fD h
 ·exact h _
 ·exact h _
 ·exact trivial
theorem tR {c:CA} {k:TV->Out} (h:∀ y,(k y).All p):(ta look c k).All p:=by
 unfold ta
 split
 ·exact h _
 ·exact fD fun y=>h _
 ·exact fD fun y=>h _
 ·exact trivial
theorem tE {k:List TV->Out}:∀ {cs:List CA} {k:List TV->Out},(∀ y,(k y).All p)->(yZ look cs k).All p
 | [],k,h=>h _
 | c :: cs,k,h=>tR fun y=>tE (k:=fun _=>.fail) fun ys=>h _
theorem A1 {v:AV} {k:TV->Out} (h:∀ y,(k y).All p):(qY look v k).All p:=by
 unfold qY
 split
 ·exact tR h
 ·exact h _
 ·exact tE (k:=fun _=>.fail) fun ys=>h _
 ·exact trivial
 ·exact trivial
 ·exact h _
theorem jO:∀ {vs:List AV} {k:List TV->Out},(∀ y,(k y).All p)->(lends look vs k).All p
 | [],k,h=>h _
 | v :: vs,k,h=>A1 fun y=>jO fun ys=>h _
theorem tG {c:CA} {k:TV->List (Nat × Nat)->Out} (h:∀ y r,(k y r).All p):(rE look c k).All p:=by
 unfold rE
 split
 ·exact h _ _
 ·split
  ·split
   ·exact h _ _
   ·exact fun y=>h _ _
  ·exact trivial
 ·split
  ·split
   ·exact fun y=>h _ _
   ·exact fun z y=>h _ _
  ·exact trivial
 ·exact trivial
theorem t8:∀ {cs:List CA} {k:List TV->List (Nat × Nat)->Out},(∀ y r,(k y r).All p)->(zv look cs k).All p
 | [],k,h=>h _ _
 | c :: cs,k,h=>tG fun y r=>t8 fun ys rs=>h _ _
theorem AT {v:AV} {k:TV->List (Nat × Nat)->Out} (h:∀ y r,(k y r).All p):(re look v k).All p:=by
 unfold re
 split
 ·exact tG h
 ·exact h _ _
 ·exact t8 fun ys rs=>h _ _
 ·exact trivial
 ·exact trivial
 ·exact h _ _
theorem o9:∀ {vs:List AV} {k:List TV->List (Nat × Nat)->Out},(∀ y r,(k y r).All p)->(hands look vs k).All p
 | [],k,h=>h _ _
 | v :: vs,k,h=>AT fun y r=>o9 fun ys rs=>h _ _
theorem dX:∀ {cs:List CA} {k:List TV->List Prim->List (Nat × Nat)->Out},(∀ y q r,(k y q r).All p)->(cp look cs k).All p
 | [],k,h=>h _ _ _
 | .t x :: l,k,h=>by
  simp only [cp]
  exact dX (cs:=l) fun xs ps ts=>h _ _ _
 | .sref i r q :: l, k, h => by
  simp only [cp]
  split
  ·split
   ·exact dX (cs:=l) fun xs ps ts=>h _ _ _
   ·exact fun y=>dX (cs:=l) fun xs ps ts=>h _ _ _
  ·exact trivial
 | .swin i r q lo len :: l, k, h => by
  simp only [cp]
  split
  ·split
   ·exact fun y=>dX (cs:=l) fun xs ps ts=>h _ _ _
   ·exact fun z y=>dX (cs:=l) fun xs ps ts=>h _ _ _
  ·exact trivial
 | .ptr _ _ :: l,k,h=>trivial
 | .ref _ _ :: l,k,h=>trivial
 | .tptr _ _ _ _ _ :: l,k,h=>trivial
 | .may _ _ :: l,k,h=>trivial
 | .aptr _ _ _ _ :: l,k,h=>trivial
 | .ifp _ _ :: l,k,h=>trivial
 | .fn1 _ _ :: l,k,h=>trivial
 | .yl _ :: l,k,h=>trivial
 | .undef :: l,k,h=>trivial
 | .junk :: l,k,h=>trivial
theorem dY:∀ {cs:List CA} {k:List TV->List Prim->List (Nat × Nat)->Out},(∀ y q r,(k y q r).All p)->(bY look cs k).All p
 | [],k,h=>h _ _ _
 | .t x :: l,k,h=>by
  simp only [bY]
  exact dY (cs:=l) fun xs ps ts=>h _ _ _
 | .sref i r q :: l, k, h => by
  simp only [bY]
  split
  ·split
   ·exact dY (cs:=l) fun xs ps ts=>h _ _ _
   ·exact fun y=>⟨dY (cs:=l) fun xs ps ts=>h _ _ _,fun x'=>dY (cs:=l) fun xs ps ts=>h _ _ _⟩
  ·exact trivial
 | .swin i r q lo len :: l, k, h => by
  simp only [bY]
  split
  ·split
   ·exact fun y=>dY (cs:=l) fun xs ps ts=>h _ _ _
   ·exact fun z y=>dY (cs:=l) fun xs ps ts=>h _ _ _
  ·exact trivial
 | .ptr _ _ :: l,k,h=>trivial
 | .ref _ _ :: l,k,h=>trivial
 | .tptr _ _ _ _ _ :: l,k,h=>trivial
 | .may _ _ :: l,k,h=>trivial
 | .aptr _ _ _ _ :: l,k,h=>trivial
 | .ifp _ _ :: l,k,h=>trivial
 | .fn1 _ _ :: l,k,h=>trivial
 | .yl _ :: l,k,h=>trivial
 | .undef :: l,k,h=>trivial
 | .junk :: l,k,h=>trivial
theorem d0 {agg:Bool} {n:Nat} {x:AV} {k:List CA->Out} (h:∀ cs,(k cs).All p):(x.aV agg n k).All p:=by
 unfold AV.aV
 split
 ·rename_i c; cases c.kept <;> first | exact trivial | exact h _
 ·exact h _
 ·exact h _
 ·exact h _
 ·rename_i cs; cases cs.length.beq n <;> first | exact trivial | exact h _
 ·exact h _
 ·exact trivial
theorem rk {at_:Nat->Option (Nat × Bool × Nat)} {k:List CA->Out} (h:∀ cs,(k cs).All p):∀ (is:List Nat) (vs:List AV) (cs:List CA),(bW at_ is vs cs k).All p
 | [],[],cs=>h cs
 | i :: is, x :: vs, cs => by
  simp only [bW]
  split
  ·refine d0 (fun ps=>?_)
   exact aG (rk h is vs _) trivial
  ·exact trivial
 | [],_ :: _,cs=>trivial
 | _ :: _,[],cs=>trivial
theorem eH {v:Option AV} {k:Option Nat->Out} (h:∀ n,(k n).All p):(fm v k).All p:=by
 unfold fm
 split
 ·exact h _
 ·split
  ·exact fun v=>h _
  ·exact trivial
abbrev da (e:Eff):Prop:=∃ v,e=.val v
abbrev cZ (e:Eff):Prop:=∃ b v,e=.new b v
theorem xz {d:TyD} {x:List TV} {off:Nat}:(kA d x off).All da:=by
 unfold kA
 cases d.kd.isAgg
 ·exact ⟨_,rfl⟩
 ·exact ⟨_,rfl⟩
theorem uB:∀ {vs:List AV} {k:List CA->Out},(∀ cs,(k cs).All p)->(kD vs k).All p
 | [],k,h=>h _
 | v :: vs,k,h=>d0 fun cs=>uB fun cs'=>h _
theorem Eg {op:Op} (h:ao op=.N) (vs:List AV):(opL E id look op vs).All da:=by
 cases op with
 | move x=>rcases vs with _ | ⟨v,_ | ⟨v',r⟩⟩ <;> first | exact trivial | exact ⟨_,rfl⟩
 | assign x=>rcases vs with _ | ⟨v,_ | ⟨v',r⟩⟩ <;> first | exact trivial | exact ⟨_,rfl⟩
 | pick c x y =>
  rcases vs with _ | ⟨v,_ | ⟨v',_ | ⟨v'',_ | ⟨v3,r⟩⟩⟩⟩ <;> first | exact trivial | skip
  simp only [opL]
  split <;> first | exact trivial | exact ⟨_,rfl⟩ | exact ⟨⟨_,rfl⟩,⟨_,rfl⟩⟩
 | build t parts =>
  simp only [opL]
  split
  ·refine aG ?_ trivial
   refine rk ?_ _ _ _
   exact fun cs=>⟨_,rfl⟩
  ·exact trivial
 | nilCheck x =>
  rcases vs with _ | ⟨v,_ | ⟨v',r⟩⟩ <;> first | exact trivial | skip
  simp only [opL]
  split <;> first | exact trivial | exact ⟨_,rfl⟩
 | unOp op xt x =>
  rcases vs with _ | ⟨v,_ | ⟨v',r⟩⟩ <;> first | exact trivial | skip
  simp only [opL]
  split
  ·exact ⟨_,rfl⟩
  ·split
   ·exact fun v=>⟨_,rfl⟩
   ·exact trivial
 | fieldAddr t x f =>
  rcases vs with _ | ⟨v,_ | ⟨v',r⟩⟩ <;> first | exact trivial | skip
  simp only [opL]
  split
  ·split
   ·refine aG ?_ trivial
    split <;> first | exact trivial | exact ⟨_,rfl⟩
   ·exact trivial
  ·exact trivial
 | field t x f =>
  rcases vs with _ | ⟨v,_ | ⟨v',r⟩⟩ <;> first | exact trivial | skip
  simp only [opL]
  split
  ·split
   ·unfold vv
    split
    ·split
     ·split <;> first | exact trivial | exact ⟨_,rfl⟩
     ·exact trivial
    ·exact ⟨_,rfl⟩
    ·exact trivial
   ·exact trivial
  ·exact trivial
 | index t x y =>
  rcases vs with _ | ⟨v,_ | ⟨v',_ | ⟨v'',r⟩⟩⟩ <;> first | exact trivial | skip
  simp only [opL]
  split
  ·exact fun v=>⟨_,rfl⟩
  ·unfold qB
   split
   ·split
    ·refine aG ?_ trivial
     split
     ·exact fun k v=>⟨_,rfl⟩
     ·exact trivial
    ·exact trivial
   ·exact trivial
 | extract x j =>
  rcases vs with _ | ⟨v,_ | ⟨v',r⟩⟩ <;> first | exact trivial | skip
  simp only [opL]
  split
  ·split
   ·split <;> first | exact trivial | exact ⟨_,rfl⟩
   ·exact trivial
  ·exact trivial
 | makeFunc fn first cap =>
  cases fn with
  | func f =>
   simp only [opL]
   exact aG (uB fun cs=>⟨_,rfl⟩) trivial
  | _=>exact trivial
 | call c =>
  obtain ⟨callee,args,tys⟩:=c
  cases callee with
  | builtin b=>cases b <;> simp [ao] at h
  | value f=>cases f <;> simp [ao] at h
  | invoke r m=>simp [ao] at h
 | makeInterface t x =>
  rcases vs with _ | ⟨v,_ | ⟨v',r⟩⟩ <;> first | exact trivial | skip
  simp only [opL]
  split
  ·unfold CS
   refine aG ?_ trivial
   split
   ·exact ⟨_,rfl⟩
   ·split
    ·exact fun v=>⟨_,rfl⟩
    ·exact trivial
  ·exact trivial
 | typeAssert x xt t ok =>
  rcases vs with _ | ⟨v,_ | ⟨v',r⟩⟩ <;> cases ok <;> first | exact trivial | skip
  simp only [opL]
  split
  ·unfold tM
   refine aG ?_ trivial
   split
   ·exact fun v=>⟨_,rfl⟩
   ·exact trivial
  ·exact trivial
 | _=>simp [ao] at h
theorem Bh {op:Op} (h:ao op=.R) (vs:List AV):(opL E id look op vs).All da:=by
 cases op with
 | load t x =>
  rcases vs with _ | ⟨v,_ | ⟨v',r⟩⟩ <;> first | exact trivial | skip
  simp only [opL]
  split
  ·unfold zL
   split
   ·refine aG trivial ?_
    split
    ·exact fun v=>⟨_,rfl⟩
    ·exact trivial
   ·split
    ·split
     ·split
      ·exact ⟨_,rfl⟩
      ·exact trivial
     ·exact trivial
    ·exact trivial
   ·exact xz
   ·split
    ·refine lg (fun s e=>?_)
     simp only [Prg.All]
     split
     ·exact ⟨_,rfl⟩
     ·exact trivial
    ·exact trivial
   ·exact trivial
  ·exact trivial
 | convert xt dt x =>
  rcases vs with _ | ⟨v,_ | ⟨v',r⟩⟩ <;> first | exact trivial | skip
  simp only [opL]
  split
  ·unfold zD
   split
   ·exact trivial
   ·split
    ·exact fun v=>⟨_,rfl⟩
    ·exact trivial
  ·exact trivial
 | binOp op xt x y yt =>
  rcases vs with _ | ⟨v,_ | ⟨v',_ | ⟨v'',r⟩⟩⟩ <;> first | exact trivial | skip
  simp only [opL]
  split
  ·unfold DP
   split
   ·split
    ·refine d0 fun cs=>d0 fun cs'=>?_
     split
     ·exact fun v=>⟨_,rfl⟩
     ·exact trivial
    ·exact trivial
   ·unfold DS
    split
    ·exact ⟨_,rfl⟩
    ·exact ⟨_,rfl⟩
    ·exact trivial
   unfold Dw
   refine aG (rW fun x=>rW fun y=>fun v=>⟨_,rfl⟩) ?_
   split
   ·exact fun v=>⟨_,rfl⟩
   ·exact trivial
  ·exact trivial
 | slice t x lo hi mx =>
  have sl:∀ {kd:Kd} {sz:Nat} {x:AV} {lo hi:Option AV},(ip look kd sz x lo hi).All da:=by
   intro kd sz x lo hi
   unfold ip
   split
   ·exact eH fun lo=>eH fun hi=>fun v=>⟨_,rfl⟩
   ·split
    ·exact fD fun s n=>eH fun lo=>eH fun hi=>⟨_,rfl⟩
    ·split
     ·exact fD fun s=>eH fun hi=>⟨_,rfl⟩
     ·exact fD fun s=>eH fun lo=>eH fun hi=>⟨_,rfl⟩
    ·exact trivial
  cases mx with
  | some m=>rcases vs with _ | ⟨v,r⟩ <;> exact trivial
  | none =>
   rcases vs with _ | ⟨v,r⟩
   ·exact trivial
   ·simp only [opL]
    split
    ·split
     ·split <;> first | exact trivial | exact sl
     ·exact trivial
    ·exact trivial
 | indexAddr t x y =>
  rcases vs with _ | ⟨v,_ | ⟨v',_ | ⟨v'',r⟩⟩⟩ <;> first | exact trivial | skip
  simp only [opL]
  split
  ·unfold pp
   split
   ·split
    ·exact fun v=>⟨_,rfl⟩
    ·split
     ·exact fD fun s n k=>⟨_,rfl⟩
     ·exact fD fun s k=>⟨_,rfl⟩
     ·exact trivial
   ·exact trivial
  ·unfold qQ
   split
   ·split
    ·exact aG (fun k=>⟨_,rfl⟩) trivial
    ·exact trivial
   ·exact trivial
 | call c =>
  obtain ⟨callee,args,tys⟩:=c
  cases callee with
  | builtin b =>
   have mn:∀ {mx:Bool} {x y:AV},(wd mx x y).All da:=by
    intro mx x y
    unfold wd
    split
    ·exact fun v=>⟨_,rfl⟩
    ·exact trivial
   cases b <;> simp [ao] at h
   all_goals simp only [opL]
   all_goals unfold dV
   all_goals split <;> first | exact trivial | exact mn | contradiction | skip
   split
   ·unfold yz
    split
    ·exact ⟨_,rfl⟩
    ·exact rW fun s v=>⟨_,rfl⟩
   ·exact trivial
  | value f=>cases f <;> simp [ao] at h
  | invoke r m=>simp [ao] at h
 | _=>simp [ao] at h
theorem cls_A {op:Op} (h:ao op=.A) (vs:List AV):(opL E id look op vs).All cZ:=by
 cases op with
 | alloc t =>
  rcases vs with _ | ⟨v,r⟩ <;> first | exact trivial | skip
  simp only [opL]
  split
  ·exact ⟨_,_,rfl⟩
  ·exact trivial
 | box t x =>
  rcases vs with _ | ⟨v,_ | ⟨v',r⟩⟩ <;> first | exact trivial | skip
  simp only [opL]
  split
  ·exact d0 (fun cs=>⟨_,_,rfl⟩)
  ·exact trivial
 | makeSlice t x y =>
  rcases vs with _ | ⟨v,_ | ⟨v',_ | ⟨v'',r⟩⟩⟩ <;> first | exact trivial | skip
  simp only [opL]
  split
  ·refine aG ?_ trivial
   exact fun n m=>⟨_,_,rfl⟩
  ·exact trivial
 | call c =>
  obtain ⟨callee,args,tys⟩:=c
  cases callee with
  | builtin b=>cases b <;> simp [ao] at h
  | value f=>cases f <;> simp [ao] at h
  | invoke r m=>simp [ao] at h
 | _=>simp [ao] at h
theorem i5 {ps:List Prim} {b:BC} {v:AV}:(cE ps b v).plain=true->da (cE ps b v)\/cZ (cE ps b v):=by
 cases ps with
 | nil=>exact fun _=>.inr ⟨_,_,rfl⟩
 | cons q l=>exact fun h=>by cases h
theorem tZ {ps:List Prim} {v:AV}:(match ps with | []=>Eff.val v | _=>.gen ps v).plain=true->da (match ps with | []=>Eff.val v | _=>.gen ps v)\/cZ (match ps with | []=>Eff.val v | _=>.gen ps v):=by
 cases ps with
 | nil=>exact fun _=>.inl ⟨_,rfl⟩
 | cons q l=>exact fun h=>by cases h
theorem j4 {d:TyD} {x:TV} {k:Out} (h:k.All p):(je d x k).All p:=by
 unfold je
 exact aG h h
theorem pE {x:TV} {k:Out} (h:k.All p):∀ (ds:List TyD) (j:Nat),(f8 x ds j k).All p
 | [],j=>h
 | d :: ds,j=>j4 (pE h ds (j + 1))
theorem s8 {ds:List TyD} {v:TV} {ps:List Prim}:(tq id ds v ps).All fun e=>e.plain=true->da e\/cZ e:=by
 have many:∀ ds:List TyD,(Prg.chk (v.isTup ds.length) (f8 v ds 0 (bif gc ds then .ret (cE ps (.tree (bg v ds 0)) (.tups (dM id v ds 0 0)))
   else .ret (match ps with | []=>.val (.tups (dM id v ds 0 0)) | _=>.gen ps (.tups (dM id v ds 0 0)))))).All fun e=>e.plain=true->da e\/cZ e:=by
  intro ds
  refine pE ?_ ds 0
  exact aG i5 tZ
 match ds with
 | []=>exact many []
 | [d] =>
  simp only [tq]
  refine j4 ?_
  split
  ·exact aG i5 tZ
  ·exact trivial
 | d :: d' :: l=>exact many _
theorem Ck {ds:List TyD} {v:TV} {k:AV->Out} {p:Eff->Prop} (h:∀ av,(k av).All p):(Bt id ds v k).All p:=by
 have some:∀ (ds:List TyD) (j:Nat) (k:Out),k.All p->(f8 v ds j k).All p:=by
  intro ds
  induction ds with
  | nil=>intro j k h; exact h
  | cons d ds ih=>intro j k h; exact j4 (ih (j + 1) k h)
 unfold Bt
 split
 ·refine j4 ?_
  split
  ·exact h _
  ·exact trivial
 ·exact some _ 0 _ (h _)
theorem AB {f:FuncId} {ld:eW} {vs:List AV}:(nB E id look f ld vs).All fun e=>e.plain=true->da e\/cZ e:=by
 unfold nB
 split
 ·split
  ·refine aG trivial ?_
   exact o9 fun xs rs=>dX fun ys qs ts=>aG (fun v=>Ck fun av=>fun h=>by simp [Eff.plain] at h) trivial
  ·exact trivial
 ·exact trivial
theorem Aa {f:FuncId} {c:Nat × Nat} {vs:List AV}:(nG look f c vs).All fun e=>e.plain=true->da e\/cZ e:=by
 unfold nG
 split
 ·split
  ·split
   ·exact aG (jO fun xs=>fun v=>fun _=>.inl ⟨_,rfl⟩) trivial
   ·exact trivial
  ·exact trivial
 ·exact trivial
theorem Ak {f:FuncId} {vs:List AV}:(sI look f vs).All fun e=>e.plain=true->da e\/cZ e:=by
 exact trivial
theorem Cu {f:FuncId} {i:Nat} {vs:List AV}:(vY E id look f i vs).All fun e=>e.plain=true->da e\/cZ e:=by
 unfold vY
 refine aG ?_ trivial
 split
 ·split
  ·exact jO fun xs=>fun v=>s8
  ·exact trivial
 ·exact trivial
theorem cls_B {op:Op} (h:ao op=.B) (vs:List AV):(opL E id look op vs).All fun e=>e.plain=true->da e\/cZ e:=by
 cases op with
 | buildSlice t len parts =>
  simp only [opL]
  refine aG ?_ ?_
  ·exact trivial
  unfold iH
  split
  ·refine rk (fun cs=>?_) _ _ _
   refine dY fun ys qs ts=>?_
   exact aG i5 trivial
  ·exact trivial
 | call c =>
  obtain ⟨callee,args,tys⟩:=c
  cases callee with
  | builtin b=>cases b <;> simp [ao] at h
  | value f =>
   cases f with
   | func f =>
    rcases vs with _ | ⟨v,r⟩
    ·exact trivial
    ·simp only [opL,mq]
     refine aG Ak (aG trivial ?_)
     split
     ·exact Aa
     split
     ·exact AB
     ·split
      ·refine aG ?_ ?_
       ·exact jO fun xs=>fun v=>s8
       ·exact o9 fun xs rs=>aG (fun v=>s8) trivial
      ·exact trivial
   | tmp t =>
    rcases vs with _ | ⟨v,r⟩
    ·exact trivial
    ·simp only [opL]
     split
     ·exact fun f=>jO fun xs v=>fun _=>.inl ⟨_,rfl⟩
     ·split
      ·exact Cu
      ·exact trivial
   | _=>simp [ao] at h
  | invoke r m=>simp [ao] at h
 | _=>simp [ao] at h
abbrev isUpd (look:Look) (e:Eff):Prop:=∃ i b v,e=.upd i b v/\(look i).isSome=true
theorem BI {op : Op} (h : ao op = .W) (vs : List AV) : (opL E id look op vs).All fun e => e.plain = true → isUpd look e := by
 cases op with
 | store t x y =>
  rcases vs with _ | ⟨v,_ | ⟨v',_ | ⟨v'',r⟩⟩⟩ <;> first | exact trivial | skip
  simp only [opL]
  split
  ·unfold vF
   split
   ·refine aG trivial ?_
    split
    ·rename_i cs xs hrow
     refine d0 (fun ps=>?_)
     split
     ·exact fun _=>⟨_,_,_,rfl,by simp [(iX hrow).1]⟩
     ·exact trivial
    ·exact trivial
   ·refine d0 (fun ps=>?_)
    split
    ·rename_i cs hl
     exact aG (fun _=>⟨_,_,_,rfl,by simp [hl]⟩) trivial
    ·exact trivial
   ·refine d0 (fun ps=>?_)
    split
    ·refine aG trivial (aG ?_ ?_)
     ·refine dX fun ys qs ts=>aG ?_ trivial
      exact lg fun s e=>fun x' hp=>by cases hp
     ·refine dX fun ys qs ts=>?_
      split
      ·refine aG ?_ trivial
       refine lg fun s e=>?_
       simp only [Prg.All]
       intro x'
       split
       ·rename_i b hb
        refine fun _=>⟨_,_,_,rfl,?_⟩
        unfold bX at hb
        split at hb
        ·rename_i hl; simp [hl]
        ·cases hb
       ·exact trivial
      ·exact trivial
    ·exact trivial
   ·exact trivial
  ·exact trivial
 | call c =>
  obtain ⟨callee,args,tys⟩:=c
  cases callee with
  | builtin b=>cases b <;> simp [ao] at h
  | value f=>cases f <;> simp [ao] at h
  | invoke r m=>simp [ao] at h
 | _=>simp [ao] at h
theorem wu {d:TyD} {s:AV} {news:List (List TV)} {ps:List Prim}:(nX id look d s news ps).All fun e=>e.plain=true->da e\/cZ e:=by
 unfold nX
 split
 ·exact aG (fun y=>i5) trivial
 ·split
  ·split
   ·split
    ·exact fun y h=>by cases h
    ·exact fun z y x' h=>by cases h
   ·exact trivial
  ·split
   ·split
    ·exact fun z y h=>by cases h
    ·exact fun z0 z y x' h=>by cases h
   ·exact trivial
  ·exact trivial
theorem BV {d:TyD} {dest:Option Nat} {x:AV} {k:List (List TV)->List Prim->Out} (h:∀ xs ps,(k xs ps).All p):(ws look d dest x k).All p:=by
 unfold ws
 split
 ·exact fun xs=>h _ _
 ·split
  ·refine aG ?_ ?_
   ·split
    ·split
     ·split
      ·exact aG trivial (fun xs=>h _ _)
      ·exact fun y=>fun xs=>h _ _
     ·exact trivial
    ·split
     ·split
      ·exact aG trivial (fun y xs=>h _ _)
      ·exact fun z y=>fun xs=>h _ _
     ·exact trivial
    ·exact trivial
   ·exact fD (fun s xs=>h _ _)
  ·exact trivial
theorem cls_P {op:Op} (h:ao op=.P) (vs:List AV):(opL E id look op vs).All fun e=>e.plain=true->da e\/cZ e:=by
 cases op with
 | call c =>
  obtain ⟨callee,args,tys⟩:=c
  cases callee with
  | builtin b =>
   cases b <;> simp [ao] at h
   simp only [opL]
   unfold dV
   split <;> try (first | exact trivial | contradiction)
   split
   ·refine aG ?_ ?_
    ·unfold nT
     exact aG (BV (fun xs ps=>wu)) trivial
    ·split
     ·exact trivial
     ·exact trivial
   ·exact trivial
  | value f=>cases f <;> simp [ao] at h
  | invoke r m=>simp [ao] at h
 | _=>simp [ao] at h
theorem uA {op:Op} (h:ao op=.N\/ao op=.A) (vs:List AV):opL E id look op vs=opL E id look' op vs:=by
 cases op <;> first
  | (rcases vs with _ | ⟨a,_ | ⟨b,_ | ⟨c,_ | ⟨d,r⟩⟩⟩⟩ <;> rfl)
  | (simp [ao] at h; done)
  | (rename_i fn _ _; cases fn <;> rfl)
  | (rename_i ok; cases ok <;> rcases vs with _ | ⟨a,_ | ⟨b,r⟩⟩ <;> rfl)
  | skip
 all_goals
  rename_i c
  obtain ⟨callee,args,tys⟩:=c
  cases callee with
  | builtin b=>cases b <;> simp [ao] at h
  | value f=>cases f <;> simp [ao] at h
  | invoke r m=>simp [ao] at h
end
end Go.Ab
end

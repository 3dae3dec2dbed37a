import Derived.Test.YtfnpejmlcbkepaaFM12b
set_option linter.all false
section
namespace Go.Ab
open Go.RowKit
structure gD (P:Program) (G:Laid) (E:Env) (C:Cal):Prop where
 ty:∀ t d,E.T t=some d→aN P t d
 call:vK P G E C
section
variable {P:Program} {E:Env} {C:Cal} {w0:Bs} {w w':World} {I0 I R:Nat→Prop} {g g':Gh} {st st':ASt} {a:Act} {ov:List Value} {look:Look} {Q:Exit→Act→World→Prop} {id:Nat}
theorem AQ (hE:gD P w0.G E C) (hlk:∀ i b,look i=some b→st.look i=some b) (hs:aj w0 I0 NoR g st a ov w) {o:Oper} {e:Eff} (hh:(opL E (st.nid o.dst) look o.op (o.op.operands.toList.map st.ev)).hits C e) (ha:e.app st o.dst=some st') :
  Good P w0 I0 ov o st' a w Q:=by
 obtain ⟨dst,op,type,pos,after,guard⟩:=o
 cases op with
 | move x=>exact Dc hs hh ha
 | assign x=>exact AB hs hh ha
 | pick c x y=>exact DB hs hh ha
 | alloc t=>exact Bq hE.ty hs hh ha
 | box t x=>exact op_box hE.ty hs hh ha
 | build t parts=>exact Br hE.ty hs hh ha
 | makeFunc fn first cap=>exact wQ hs hh ha
 | buildSlice t len parts =>
  simp only [opL] at hh
  cases hc:E.cold t && !(len.beq 0) with
  | true=>rw [hc] at hh; exact C3 hE.ty hlk hs hh ha
  | false=>rw [hc] at hh; exact te hE.ty hlk hs hh ha
 | load t x=>exact Dw hE.ty hlk hs hh ha
 | store t x y=>exact AP hE.ty hlk hs hh ha
 | nilCheck x=>exact xm hs hh ha
 | binOp op xt x y yt=>exact op_bin hE.ty hlk hs hh ha
 | unOp op xt x=>exact op_un hs hh ha
 | convert xt dt x=>exact xE hE.ty hlk hs hh ha
 | makeSlice t x y=>exact uW hE.ty hs hh ha
 | makeInterface t x=>exact op_ifc hE.ty hs hh ha
 | typeAssert x xt t ok=>exact CL hE.ty hs hh ha
 | slice t x lo hi mx=>exact BM hE.ty hlk hs hh ha
 | fieldAddr t x f=>exact vf hE.ty hs hh ha
 | field t x f=>exact Cw hE.ty hs hh ha
 | indexAddr t x y=>exact vr hE.ty hlk hs hh ha
 | index t x y=>exact A3 hE.ty hs hh ha
 | extract x j=>exact xS hs hh ha
 | call c =>
  obtain ⟨callee,args,tys⟩:=c
  cases callee with
  | builtin b =>
   have hops:(Op.call ⟨.builtin b,args,tys⟩).operands.toList=args.toList:=by simp [Op.operands,Call.operands]
   simp only [hops] at hh
   simp only [opL] at hh
   unfold dO at hh
   split at hh
   ·rename_i x ty hargs htys
    obtain ⟨ox,rfl,hox⟩:=list1 hargs
    have:=arr1 htys
    subst this
    split at hh
    ·rename_i d hT
     rw [← hox] at hh
     exact xM hlk hs (hE.ty _ _ hT) hh ha
    ·exact hh.elim
   ·rename_i s x ty ty' hargs htys
    obtain ⟨os,ox,rfl,hos,hox⟩:=list2 hargs
    have:=arr2 htys
    subst this
    split at hh
    ·rename_i e1 d hel
     cases hb:Nat.beq ty ty' with
     | false =>
      simp only [hb,cond_false] at hh
      split at hh
      ·rename_i hu
       rw [← hos,← hox] at hh
       exact sB hE.ty hlk hs hel hu rfl hh ha
      ·exact hh.elim
     | true =>
      simp only [hb,cond_true] at hh
      have:=(aq _ _).1 hb
      subst this
      rw [← hos,← hox] at hh
      exact tj hE.ty hlk hs hel hh ha
    ·exact hh.elim
   ·rename_i s x ty ty' hargs htys
    obtain ⟨os,ox,rfl,hos,hox⟩:=list2 hargs
    have:=arr2 htys
    subst this
    split at hh
    ·rename_i e1 d hel
     cases hb:Nat.beq ty ty' with
     | false=>simp [hb,Prg.hits] at hh
     | true =>
      simp only [hb,cond_true] at hh
      have:=(aq _ _).1 hb
      subst this
      rw [← hos,← hox] at hh
      exact xq hE.ty hlk hs hel hh ha
    ·exact hh.elim
   ·rename_i s ty hargs htys
    obtain ⟨os,rfl,hos⟩:=list1 hargs
    have:=arr1 htys
    subst this
    split at hh
    ·rename_i e1 d hel
     rw [← hos] at hh
     exact vc hE.ty hlk hs hel hh ha
    ·exact hh.elim
   ·rename_i x y hargs
    obtain ⟨ox,oy,rfl,hox,hoy⟩:=list2 hargs
    rw [← hox,← hoy] at hh
    exact rz hs hh ha
   ·rename_i x y hargs
    obtain ⟨ox,oy,rfl,hox,hoy⟩:=list2 hargs
    rw [← hox,← hoy] at hh
    exact rz hs hh ha
   ·exact hh.elim
  | value f =>
   cases f with
   | func f =>
    have hops:(Op.call ⟨.value (.func f),args,tys⟩).operands.toList=.func f :: args.toList:=by simp [Op.operands,Call.operands]
    simp only [hops,List.map_cons] at hh
    exact DA hE.call hE.ty hlk hs hh ha
   | tmp t =>
    have hops:(Op.call ⟨.value (.tmp t),args,tys⟩).operands.toList=.tmp t :: args.toList:=by simp [Op.operands,Call.operands]
    simp only [hops,List.map_cons] at hh
    exact op_dyn hE.call hE.ty hlk hs hh ha
   | _=>simp [opL,Prg.hits] at hh
  | invoke r m=>simp [opL,Prg.hits] at hh
 | _=>simp [opL,Prg.hits] at hh
def AV.nf:AV→AV
 | .one (.t (.lit (.bool b)))=>.bl b
 | .tv (.lit (.bool b))=>.bl b
 | v=>v
def Eff.nfE:Eff→Eff
 | .val v=>.val v.nf
 | .new b v=>.new b v.nf
 | .upd i b v=>.upd i b v.nf
 | .gen ps v=>.gen ps v.nf
def ASt.nfS (st:ASt):ASt:=⟨st.slots.map AV.nf,st.boxes,st.out⟩
theorem aC (v:AV):v.nf=v∨∃ b,v.nf=.bl b∧(v=.one (.t (.lit (.bool b)))∨v=.tv (.lit (.bool b))):=by
 unfold AV.nf
 split
 ·exact .inr ⟨_,rfl,.inl rfl⟩
 ·exact .inr ⟨_,rfl,.inr rfl⟩
 ·exact .inl rfl
theorem tq (v:AV):v.nf.nf=v.nf:=by
 rcases aC v with h | ⟨b,h,_⟩
 ·rw [h,h]
 ·rw [h]; rfl
theorem gB (v:AV):v.nf.tv? = v.tv? := by
 rcases aC v with h | ⟨b,h,rfl | rfl⟩
 ·rw [h]
 ·rfl
 ·rfl
theorem Bg {v:AV} {u:Value}:bD w g look v.nf u ↔ bD w g look v u:=by
 rcases aC v with h | ⟨b,h,rfl | rfl⟩
 ·rw [h]
 ·rw [h]
  constructor
  ·intro h'
   have:u=.bool b:=h'
   subst this
   exact ⟨.lit _,rfl⟩
  ·intro h'
   exact bp h'.1
 ·rw [h]
  constructor
  ·intro h'
   have:u=.bool b:=h'
   subst this
   exact .lit _
  ·intro h'
   exact bp h'
theorem lX (v:AV):v.nf.dH=v.dH:=by
 rcases aC v with h | ⟨b,h,rfl | rfl⟩
 ·rw [h]
 ·rw [h]; rfl
 ·rw [h]; rfl
theorem bZ (e:Eff):db e.nfE=db e:=by cases e <;> simp only [Eff.nfE,db,lX]
theorem nr (e:Eff):e.nfE.plain=e.plain:=by cases e <;> rfl
theorem wl (base:Nat) (own:List (List Nat × List Nat)) (e:Eff):e.nfE.mH base own=e.mH base own:=by cases e <;> rfl
theorem wt {S:Type} {agg:Bool} {n:Nat} {v:AV} {k k':List CA→Prg S} {e:S} (hk:∀ cs,(k cs).hits C e→(k' cs).hits C e) (h:(v.aT agg n k).hits C e):(v.aT agg n k').hits C e:=by
 unfold AV.aT at h ⊢
 split at h
 ·rename_i c
  cases hc:c.kept with
  | true=>rw [hc] at h; exact hk _ h
  | false=>rw [hc] at h; exact h.elim
 ·exact ⟨h.1,hk _ h.2⟩
 ·exact hk _ h
 ·exact hk _ h
 ·rename_i cs
  cases hc:cs.length.beq n with
  | true=>rw [hc] at h; exact hk _ h
  | false=>rw [hc] at h; exact h.elim
 ·exact ⟨h.1,hk _ h.2⟩
 ·exact h.elim
theorem eY {S:Type} {agg:Bool} {n:Nat} {v:AV} {k:List CA→Prg S} {e:S} (h:(v.aT agg n k).hits C e):(v.nf.aT agg n k).hits C e:=by
 rcases aC v with h1 | ⟨b,h1,rfl | rfl⟩
 ·rwa [h1]
 ·rw [h1]
  cases agg with
  | false=>exact h
  | true=>exact h.elim
 ·rw [h1]
  cases agg with
  | false=>exact h.2
  | true=>exact (by simp [AV.aT,TV.isAgg,Prg.hits] at h)
theorem lC {S:Type} {e:S}:∀ {vs:List AV} {k:List CA→Prg S},(kb vs k).hits C e→(kb (vs.map AV.nf) k).hits C e
 | [],k,h=>h
 | x :: vs, k, h => by
  simp only [kb,List.map_cons] at h ⊢
  refine eY ?_
  unfold AV.aT at h ⊢
  split at h
  ·rename_i c _
   cases hc:c.kept with
   | false=>simp [hc,Prg.hits] at h
   | true=>simp only [hc,cond_true] at h ⊢; exact lC h
  ·exact ⟨h.1,lC h.2⟩
  ·exact lC h
  ·exact lC h
  ·rename_i cs' hb; cases hb
  ·rename_i cs' hb; cases hb
  ·exact h.elim
theorem jD {f:FuncId} {e:Eff}:∀ {vs:List AV} {k:List CA→List CA},(kb vs fun cs=>(.ret (.val (.clo f (k cs))):Out)).hits C e→∃ cs,e=.val (.clo f cs)
 | [],k,h=>⟨_,h.symm⟩
 | x :: vs, k, h => by
  simp only [kb] at h
  unfold AV.aT at h
  split at h
  ·rename_i c _
   cases hc:c.kept with
   | false=>simp [hc,Prg.hits] at h
   | true=>simp only [hc,cond_true] at h; exact jD (k:=fun cs=>k (_ ++ cs)) h
  ·exact jD (k:=fun cs=>k (_ ++ cs)) h.2
  ·exact jD (k:=fun cs=>k (_ ++ cs)) h
  ·exact jD (k:=fun cs=>k (_ ++ cs)) h
  ·rename_i hb; cases hb
  ·rename_i hb; cases hb
  ·exact h.elim
theorem qJ {S:Type} {at_:Nat→Option (Nat × Bool × Nat)} {k:List CA→Prg S} {e:S}:∀ {is:List Nat} {vs:List AV} {cs:List CA},(bM at_ is vs cs k).hits C e→(bM at_ is (vs.map AV.nf) cs k).hits C e
 | [],[],cs,h=>h
 | i :: is, x :: vs, cs, h => by
  simp only [bM,List.map_cons] at h ⊢
  split at h
  ·rename_i off agg n hat
   have key:∀ ps,((bif (off + ps.length).ble cs.length && ps.length.beq n then bM at_ is vs (bT cs off ps) k else .fail):Prg S).hits C e→((bif (off + ps.length).ble cs.length && ps.length.beq n then bM at_ is (vs.map AV.nf) (bT cs off ps) k else .fail):Prg S).hits C e:=by
    intro ps hp
    cases hb:(off + ps.length).ble cs.length && ps.length.beq n with
    | false=>simp [hb,Prg.hits] at hp
    | true=>simp only [hb,cond_true] at hp ⊢; exact qJ hp
   refine eY ?_
   unfold AV.aT at h ⊢
   split at h
   ·rename_i c
    cases hc:c.kept with
    | false=>simp [hc,Prg.hits] at h
    | true=>simp only [hc,cond_true] at h ⊢; exact key _ h
   ·exact ⟨h.1,key _ h.2⟩
   ·exact key _ h
   ·exact key _ h
   ·rename_i cs'
    have:=key cs'
    cases hc:cs'.length.beq n with
    | false=>simp [hc,Prg.hits] at h
    | true=>simp only [hc,cond_true] at h this ⊢; exact this h
   ·exact ⟨h.1,key _ h.2⟩
   ·exact h.elim
  ·exact h.elim
 | [],_ :: _,cs,h=>h.elim
 | _ :: _,[],cs,h=>h.elim
theorem vo {S:Type} {v:AV} {k:TV→Prg S}:ta look v.nf k=ta look v k:=by
 rcases aC v with h | ⟨b,h,rfl | rfl⟩
 ·rw [h]
 ·rfl
 ·rfl
theorem Cm {S:Type} {v:AV} {k:TV→Prg S}:rb look v.nf k=rb look v k:=by
 rcases aC v with h | ⟨b,h,rfl | rfl⟩
 ·rw [h]
 ·rfl
 ·rfl
theorem CC {S:Type} {v:AV} {k:TV→List (Nat × Nat)→Prg S}:rT look v.nf k=rT look v k:=by
 rcases aC v with h | ⟨b,h,rfl | rfl⟩
 ·rw [h]
 ·rfl
 ·rfl
theorem jK {S:Type}:∀ {vs:List AV} {k:List TV→Prg S},lends look (vs.map AV.nf) k=lends look vs k
 | [],k=>rfl
 | v :: vs,k=>by simp only [List.map_cons,lends,Cm,jK]
theorem rX {S:Type}:∀ {vs:List AV} {k:List TV→List (Nat × Nat)→Prg S},hands look (vs.map AV.nf) k=hands look vs k
 | [],k=>rfl
 | v :: vs,k=>by simp only [List.map_cons,hands,CC,rX]
theorem AZ {E:Env} {id:Nat} {look:Look} {f:FuncId} {ld:fh} (vs:List AV):nI E id look f ld (vs.map AV.nf)=nI E id look f ld vs:=by
 cases vs with
 | nil=>rfl
 | cons v l =>
  rcases aC v with h | ⟨b,h,rfl | rfl⟩
  ·simp only [List.map_cons,h]
   cases v with
   | one c =>
    cases c with
    | ptr i off =>
     cases off with
     | zero=>simp only [nI,rX]
     | succ n=>rfl
    | _=>rfl
   | _=>rfl
  ·simp only [List.map_cons,h]; rfl
  ·simp only [List.map_cons,h]; rfl
theorem B6 {look:Look} {f:FuncId} {c:Nat × Nat} (vs:List AV):ns look f c (vs.map AV.nf)=ns look f c vs:=by
 cases vs with
 | nil=>rfl
 | cons v l =>
  rcases aC v with h | ⟨b,h,rfl | rfl⟩
  ·simp only [List.map_cons,h]
   cases v with
   | one c =>
    cases c with
    | ptr i off =>
     cases off with
     | zero=>simp only [ns,jK]
     | succ n=>rfl
    | _=>rfl
   | _=>rfl
  ·simp only [List.map_cons,h]; rfl
  ·simp only [List.map_cons,h]; rfl
theorem AO {look:Look} {f:FuncId} (vs:List AV):lr look f (vs.map AV.nf)=lr look f vs:=by
 cases vs with
 | nil=>rfl
 | cons v l =>
  rcases aC v with h | ⟨b,h,rfl | rfl⟩
  ·simp only [List.map_cons,h]
   cases v with
   | one c=>cases c <;> simp only [lr,jK]
   | _=>rfl
  ·simp only [List.map_cons,h]; rfl
  ·simp only [List.map_cons,h]; rfl
theorem CW {E:Env} {id:Nat} {look:Look} {f:FuncId} {i:Nat} (vs:List AV):wI E id look f i (vs.map AV.nf)=wI E id look f i vs:=by
 simp only [wI,jK]
theorem CQ (d:TyD) (t:TypeId) (v:AV):Cr d t v.nf=Cr d t v:=by
 rcases aC v with h | ⟨b,h,rfl | rfl⟩
 ·rw [h]
 ·rfl
 ·rfl
theorem A0 (d:TyD) (t:TypeId) (v:AV):uw d t v.nf=uw d t v:=by
 simp only [uw,gB]
theorem AK {S:Type} {v:Option AV} {k:Option Nat→Prg S}:fq (v.map AV.nf) k=fq v k:=by
 cases v with
 | none=>rfl
 | some v=>simp only [fq,El,gB]
theorem uq (v:AV):sL v.nf=sL v:=by
 rcases aC v with h | ⟨b,h,rfl | rfl⟩
 ·rw [h]
 ·rfl
 ·rfl
theorem yQ {S:Type} {d:TyD} {dest:Option Nat} {v:AV} {k:List (List TV)→List Prim→Prg S}:xn look d dest v.nf k=xn look d dest v k:=by
 rcases aC v with h | ⟨b,h,rfl | rfl⟩
 ·rw [h]
 ·rfl
 ·rfl
theorem lW {kd:Kd} {sz:Nat} {x:AV} {lo hi:Option AV}:iB look kd sz x.nf (lo.map AV.nf) (hi.map AV.nf)=iB look kd sz x lo hi:=by
 simp only [iB,gB,AK]
 rcases aC x with h | ⟨b,h,rfl | rfl⟩
 ·rw [h]
  cases lo <;> rfl
 ·rfl
 ·rfl
theorem AY (v:AV):ui v.nf=ui v:=by
 rcases aC v with h | ⟨b,h,rfl | rfl⟩
 ·rw [h]
 ·rfl
 ·rfl
theorem opL_nf {op : Op} {vs : List AV} {e : Eff} (h : (opL E id look op vs).hits C e) : ∃ e', (opL E id look op (vs.map AV.nf)).hits C e' ∧ e'.nfE = e.nfE := by
 cases op with
 | move x =>
  rcases vs with _ | ⟨v,_ | ⟨v',r⟩⟩ <;> first | exact h.elim | skip
  cases h
  exact ⟨_,rfl,by simp [Eff.nfE,tq]⟩
 | assign x =>
  rcases vs with _ | ⟨v,_ | ⟨v',r⟩⟩ <;> first | exact h.elim | skip
  cases h
  exact ⟨_,rfl,by simp [Eff.nfE,tq]⟩
 | pick c x y =>
  rcases vs with _ | ⟨v,_ | ⟨v',_ | ⟨v'',_ | ⟨v3,r⟩⟩⟩⟩ <;> first | exact h.elim | skip
  simp only [opL] at h
  split at h
  ·rename_i b
   cases h
   refine ⟨_,rfl,?_⟩
   cases b <;> simp [Eff.nfE,tq]
  ·rename_i v
   obtain ⟨b,hb,h⟩:=h
   have hv:v=.lit (.bool b):=by
    unfold asBool at hb
    split at hb
    ·cases hb; rfl
    ·cases hb
   subst hv
   rcases h with ⟨rfl,h⟩ | ⟨rfl,h⟩ <;> (cases h; exact ⟨_,rfl,by simp [Eff.nfE,tq]⟩)
  ·rename_i v
   obtain ⟨b,hb,h⟩:=h
   have hv:v=.lit (.bool b):=by
    unfold asBool at hb
    split at hb
    ·cases hb; rfl
    ·cases hb
   subst hv
   rcases h with ⟨rfl,h⟩ | ⟨rfl,h⟩ <;> (cases h; exact ⟨_,rfl,by simp [Eff.nfE,tq]⟩)
  ·exact h.elim
 | alloc t =>
  rcases vs with _ | ⟨v,r⟩ <;> first | exact h.elim | exact ⟨e,h,rfl⟩
 | box t x =>
  rcases vs with _ | ⟨v,_ | ⟨v',r⟩⟩ <;> first | exact h.elim | skip
  refine ⟨e,?_,rfl⟩
  simp only [opL,List.map_cons,List.map_nil] at h ⊢
  split at h
  ·exact eY h
  ·exact h.elim
 | makeFunc fn first cap =>
  cases fn with
  | func f =>
   have:∃ cs,e=.val (.clo f cs):=by
    simp only [opL] at h
    cases hb:first.size.beq 0 with
    | false=>simp [hb,Prg.hits] at h
    | true =>
     simp only [hb,cond_true] at h
     exact jD (k:=fun l=>l) h
   obtain ⟨cs,rfl⟩:=this
   refine ⟨_,?_,rfl⟩
   simp only [opL] at h ⊢
   cases hb:first.size.beq 0 with
   | false=>simp [hb,Prg.hits] at h
   | true=>simp only [hb,cond_true] at h ⊢; exact lC h
  | _=>exact h.elim
 | build t parts =>
  refine ⟨e,?_,rfl⟩
  simp only [opL] at h ⊢
  split at h
  ·rename_i d hd
   cases hb:kW E.T d.kd with
   | false=>simp [hb,Prg.hits] at h
   | true=>simp only [hb,cond_true] at h ⊢; exact qJ h
  ·exact h.elim
 | buildSlice t len parts =>
  refine ⟨e,?_,rfl⟩
  simp only [opL] at h ⊢
  cases hc:E.cold t && !(len.beq 0) with
  | true =>
   rw [hc] at h
   simp only [cond_true] at h ⊢
   unfold sC at h ⊢
   split at h
   ·exact qJ h
   ·exact h.elim
  | false =>
   rw [hc] at h
   simp only [cond_false] at h ⊢
   unfold iD at h ⊢
   split at h
   ·exact qJ h
   ·exact h.elim
 | load t x =>
  rcases vs with _ | ⟨v,_ | ⟨v',r⟩⟩ <;> first | exact h.elim | skip
  refine ⟨e,?_,rfl⟩
  rcases aC v with h1 | ⟨b,h1,rfl | rfl⟩
  ·simpa only [List.map_cons,List.map_nil,h1] using h
  ·simp only [opL] at h; split at h <;> exact h.elim
  ·simp only [opL] at h; split at h <;> exact h.elim
 | store t x y =>
  rcases vs with _ | ⟨v,_ | ⟨v',_ | ⟨v'',r⟩⟩⟩ <;> first | exact h.elim | skip
  refine ⟨e,?_,rfl⟩
  simp only [opL,List.map_cons,List.map_nil] at h ⊢
  split at h
  ·rcases aC v with h1 | ⟨b,h1,rfl | rfl⟩
   ·rw [h1]
    unfold uV at h ⊢
    split at h
    ·rename_i e0 _ _ i0 off0 len0 n0
     cases hk0:e0.kd.isAgg with
     | true=>rw [hk0] at h; exact h.elim
     | false =>
      rw [hk0] at h
      simp only [cond_false] at h ⊢
      split at h
      ·exact eY h
      ·exact h.elim
    ·exact eY h
    ·exact eY h
    ·exact h.elim
   ·exact h.elim
   ·exact h.elim
  ·exact h.elim
 | nilCheck x =>
  rcases vs with _ | ⟨v,_ | ⟨v',r⟩⟩ <;> first | exact h.elim | skip
  refine ⟨e,?_,rfl⟩
  rcases aC v with h1 | ⟨b,h1,rfl | rfl⟩
  ·simpa only [List.map_cons,List.map_nil,h1] using h
  ·exact h.elim
  ·exact h.elim
 | binOp op xt x y yt =>
  rcases vs with _ | ⟨v,_ | ⟨v',_ | ⟨v'',r⟩⟩⟩ <;> first | exact h.elim | skip
  refine ⟨e,?_,rfl⟩
  simp only [opL,List.map_cons,List.map_nil] at h ⊢
  split at h
  ·unfold Du at h ⊢
   split at h
   ·split at h
    ·exact eY (wt (fun cs h=>eY h) h)
    ·exact h.elim
   ·simp only [C8,AY] at h ⊢
    exact h
   ·simp only [CX,vo,gB] at h ⊢
    exact h
  ·exact h.elim
 | unOp op xt x =>
  rcases vs with _ | ⟨v,_ | ⟨v',r⟩⟩ <;> first | exact h.elim | skip
  rcases aC v with h1 | ⟨b,h1,h2⟩
  ·refine ⟨e,?_,rfl⟩
   simpa only [List.map_cons,List.map_nil,h1] using h
  ·have hv:∃ t,(opL E id look (.unOp op xt x) [v]).hits C e→(Prg.tv (pun op (.lit (.bool b))) vt).hits C e:=⟨(),by rcases h2 with rfl | rfl <;> intro h <;> cases op <;> exact h⟩
   obtain ⟨_,hv⟩:=hv
   obtain ⟨z,hz,hh⟩:=hv h
   cases op with
   | not =>
    simp only [pun,Ea] at hz
    subst hz
    cases hh
    refine ⟨.val (.bl !b),?_,rfl⟩
    simp only [List.map_cons,List.map_nil,h1]
    rfl
   | _=>simp [pun] at hz
 | convert xt dt x =>
  rcases vs with _ | ⟨v,_ | ⟨v',r⟩⟩ <;> first | exact h.elim | skip
  refine ⟨e,?_,rfl⟩
  simp only [opL,List.map_cons,List.map_nil,zx,gB,vo] at h ⊢
  exact h
 | makeSlice t x y =>
  rcases vs with _ | ⟨v,_ | ⟨v',_ | ⟨v'',r⟩⟩⟩ <;> first | exact h.elim | skip
  refine ⟨e,?_,rfl⟩
  simp only [opL,List.map_cons,List.map_nil,gB] at h ⊢
  exact h
 | slice t x lo hi mx =>
  refine ⟨e,?_,rfl⟩
  cases mx with
  | some m=>rcases vs with _ | ⟨v,r⟩ <;> exact h.elim
  | none =>
   rcases vs with _ | ⟨v,r⟩
   ·exact h.elim
   ·simp only [opL, List.map_cons] at h ⊢
    split at h
    ·rename_i d hT
     split at h
     ·rename_i sz hsz
      cases lo with
      | none =>
       cases hi with
       | none =>
        rcases r with _ | ⟨l,r⟩
        ·have:=lW (look:=look) (kd:=d.kd) (sz:=sz) (x:=v) (lo:=none) (hi:=none)
         simp only [Option.map_none] at this
         simp only [List.map_nil]
         rw [this]; exact h
        ·exact h.elim
       | some hh =>
        rcases r with _ | ⟨l,_ | ⟨l',r⟩⟩
        ·exact h.elim
        ·have:=lW (look:=look) (kd:=d.kd) (sz:=sz) (x:=v) (lo:=none) (hi:=some l)
         simp only [Option.map_none,El] at this
         simp only [List.map_cons,List.map_nil]
         rw [this]; exact h
        ·exact h.elim
      | some ll =>
       cases hi with
       | none =>
        rcases r with _ | ⟨l,_ | ⟨l',r⟩⟩
        ·exact h.elim
        ·have:=lW (look:=look) (kd:=d.kd) (sz:=sz) (x:=v) (lo:=some l) (hi:=none)
         simp only [Option.map_none,El] at this
         simp only [List.map_cons,List.map_nil]
         rw [this]; exact h
        ·exact h.elim
       | some hh =>
        rcases r with _ | ⟨l,_ | ⟨l',_ | ⟨l'',r⟩⟩⟩
        ·exact h.elim
        ·exact h.elim
        ·have:=lW (look:=look) (kd:=d.kd) (sz:=sz) (x:=v) (lo:=some l) (hi:=some l')
         simp only [El] at this
         simp only [List.map_cons,List.map_nil]
         rw [this]; exact h
        ·exact h.elim
     ·exact h.elim
    ·exact h.elim
 | fieldAddr t x f =>
  rcases vs with _ | ⟨v,_ | ⟨v',r⟩⟩ <;> first | exact h.elim | skip
  refine ⟨e,?_,rfl⟩
  rcases aC v with h1 | ⟨b,h1,rfl | rfl⟩
  ·simpa only [List.map_cons,List.map_nil,h1] using h
  ·simp only [opL] at h
   split at h
   ·rename_i hv
    cases hv
    split at h
    ·rename_i n _ _
     cases hb:Nat.blt 0 n <;> simp [hb,CA.add,Prg.hits] at h
    ·exact h.elim
   ·exact h.elim
  ·simp only [opL] at h
   split at h
   ·rename_i hv; cases hv
   ·exact h.elim
 | field t x f =>
  rcases vs with _ | ⟨v,_ | ⟨v',r⟩⟩ <;> first | exact h.elim | skip
  refine ⟨e,?_,rfl⟩
  rcases aC v with h1 | ⟨b,h1,rfl | rfl⟩
  ·simpa only [List.map_cons,List.map_nil,h1] using h
  ·simp only [opL] at h
   split at h
   ·split at h <;> exact h.elim
   ·exact h.elim
  ·simp only [opL] at h
   split at h
   ·split at h
    ·simp [vd,TV.isAgg,Prg.hits] at h
    ·exact h.elim
   ·exact h.elim
 | indexAddr t x y =>
  rcases vs with _ | ⟨v,_ | ⟨v',_ | ⟨v'',r⟩⟩⟩ <;> first | exact h.elim | skip
  refine ⟨e,?_,rfl⟩
  simp only [opL,List.map_cons,List.map_nil] at h ⊢
  split at h
  ·rcases aC v with h1 | ⟨b,h1,rfl | rfl⟩
   ·simp only [h1,oI,gB] at h ⊢; exact h
   ·simp only [oI,gB] at h ⊢; exact h
   ·simp only [oI,gB] at h ⊢; exact h
  ·unfold qB at h ⊢
   rw [gB]
   rcases aC v with h1 | ⟨b,h1,rfl | rfl⟩
   ·rw [h1]; exact h
   ·split at h
    ·split at h <;> first | exact h.elim | (rename_i hx _; cases hx)
    ·exact h.elim
   ·split at h
    ·split at h <;> first | exact h.elim | (rename_i hx _; cases hx)
    ·exact h.elim
 | index t x y =>
  rcases vs with _ | ⟨v,_ | ⟨v',_ | ⟨v'',r⟩⟩⟩ <;> first | exact h.elim | skip
  refine ⟨e,?_,rfl⟩
  simp only [opL,List.map_cons,List.map_nil,gB] at h ⊢
  split at h
  ·exact h
  ·unfold qE at h ⊢
   rw [gB]
   rcases aC v with h1 | ⟨b,h1,rfl | rfl⟩
   ·rw [h1]; exact h
   ·split at h
    ·split at h <;> first | exact h.elim | (rename_i hx _; cases hx)
    ·exact h.elim
   ·split at h
    ·split at h <;> first | exact h.elim | (rename_i hx _; cases hx)
    ·exact h.elim
 | extract x j =>
  rcases vs with _ | ⟨v,_ | ⟨v',r⟩⟩ <;> first | exact h.elim | skip
  refine ⟨e,?_,rfl⟩
  rcases aC v with h1 | ⟨b,h1,rfl | rfl⟩
  ·simpa only [List.map_cons,List.map_nil,h1] using h
  ·exact h.elim
  ·exact h.elim
 | call c =>
  refine ⟨e,?_,rfl⟩
  obtain ⟨callee,args,tys⟩:=c
  cases callee with
  | builtin b =>
   simp only [opL] at h ⊢
   unfold dO at h
   split at h
   ·rename_i x ty htys
    simp only [htys,dO,List.map_cons,List.map_nil]
    split at h
    ·rename_i d hd
     have key:∀ kd,(yd look kd x).hits C e→(yd look kd x.nf).hits C e:=by intro kd; cases kd <;> simp only [yd,vo] <;> exact fun h=>h
     exact key _ h
    ·exact h.elim
   ·rename_i s x ty ty' htys
    simp only [htys,dO,List.map_cons,List.map_nil]
    split at h
    ·rename_i _ d hel
     cases hb:Nat.beq ty ty' with
     | false =>
      simp only [hb,cond_false] at h ⊢
      split at h
      ·rename_i hu
       unfold lz at h ⊢
       rw [gB]
       rcases aC s with h1 | ⟨b,h1,rfl | rfl⟩
       ·rw [h1]; exact h
       ·exact h
       ·exact h
      ·exact h.elim
     | true =>
      simp only [hb,cond_true] at h ⊢
      unfold np at h ⊢
      rw [yQ,uq]
      rcases aC s with h1 | ⟨b,h1,rfl | rfl⟩
      ·rw [h1]; exact h
      ·exact h
      ·exact h
    ·exact h.elim
   ·rename_i s x ty ty' htys
    simp only [htys,dO,List.map_cons,List.map_nil]
    split at h
    ·rename_i _ d hel
     cases hb:Nat.beq ty ty' with
     | false=>simp [hb,Prg.hits] at h
     | true =>
      simp only [hb,cond_true] at h ⊢
      unfold yB at h ⊢
      rw [yQ,uq]
      rcases aC s with h1 | ⟨b,h1,rfl | rfl⟩
      ·rw [h1]; exact h
      ·exact h
      ·exact h
    ·exact h.elim
   ·rename_i s ty htys
    simp only [htys,dO,List.map_cons,List.map_nil]
    split at h
    ·unfold vq at h ⊢
     rcases aC s with h1 | ⟨b,h1,rfl | rfl⟩
     ·rw [h1]; exact h
     ·exfalso
      revert h
      cases Nat.blt 0 _ <;> exact fun h=>h.elim
     ·exfalso
      revert h
      cases Nat.blt 0 _ <;> exact fun h=>h.elim
    ·exact h.elim
   ·simp only [dO,List.map_cons,List.map_nil,wJ,gB] at h ⊢
    exact h
   ·simp only [dO,List.map_cons,List.map_nil,wJ,gB] at h ⊢
    exact h
   ·exact h.elim
  | value f =>
   cases f with
   | func f =>
    rcases vs with _ | ⟨v,r⟩
    ·exact h.elim
    ·simp only [opL,List.map_cons,mE,jK,rX,AZ,B6,AO] at h ⊢
     exact h
   | tmp t =>
    rcases vs with _ | ⟨v,r⟩
    ·exact h.elim
    ·simp only [opL,List.map_cons,gB,jK,CW] at h ⊢
     rcases aC v with h1 | ⟨b,h1,rfl | rfl⟩
     ·rw [h1]; exact h
     ·exact h
     ·exact h
   | _=>exact h.elim
  | invoke r m=>exact h.elim
 | makeInterface t x =>
  rcases vs with _ | ⟨v,_ | ⟨v',r⟩⟩ <;> first | exact h.elim | skip
  refine ⟨e,?_,rfl⟩
  simp only [opL,List.map_cons,List.map_nil,CQ] at h ⊢
  exact h
 | typeAssert x xt t ok =>
  rcases vs with _ | ⟨v,_ | ⟨v',r⟩⟩ <;> cases ok <;> first | exact h.elim | skip
  refine ⟨e,?_,rfl⟩
  simp only [opL,List.map_cons,List.map_nil,A0] at h ⊢
  exact h
 | _=>exact h.elim
theorem kX (st:ASt):st.nfS.look=st.look:=rfl
theorem nJ (st:ASt):st.nfS.base=st.base:=rfl
theorem uU (st:ASt) (d:Option Tmp):st.nfS.nid d=st.nid d:=by cases d <;> rfl
theorem iS (st:ASt) (d:Option Tmp) (v:AV):(st.put d v).nfS=st.nfS.put d v.nf:=by
 cases d with
 | none=>rfl
 | some d=>simp [ASt.nfS,ASt.put,ai,List.map_set]
theorem s6 (st:ASt) (i:Nat) (b:Option BC):(st.ab i b).nfS=st.nfS.ab i b:=rfl
theorem jN (st:ASt) (t:Nat):nth (.one .junk) st.nfS.slots t=(nth (.one .junk) st.slots t).nf:=by
 simp only [ASt.nfS,aL,Ee]
 cases st.slots[t]? <;> rfl
theorem An (ps:List Nat) (st:ASt) (d:Option Nat) (e:Eff):b7 ps st.nfS d e.nfE=b7 ps st d e:=by
 unfold b7
 congr 1
 funext k
 cases d with
 | none=>rw [nJ,bZ]
 | some d=>simp only [nJ,bZ,jN,lX]
theorem nV (k s:Nat):∀ (l:List AV) (n:Nat),eX k s n (l.map AV.nf)=eX k s n l
 | [],n=>rfl
 | v :: l,n=>by simp only [List.map_cons,eX,lX,nV k s l (n + 1)]
theorem xj {k:Nat} {v:AV} (h:jl k v=true):jl k v.nf=true:=by
 unfold jl at h
 split at h
 ·exact h
 ·cases h
theorem iw {e:Eff} {i:Nat} {y:TV} (h:jm e=some (i,y)):e=.gen [.drop i 0 [] false,.root i 0 y] (.one (.sref i 0 [])):=by
 unfold jm at h
 split at h
 ·rename_i i' j y' k
  cases hb:i'.beq j && i'.beq k with
  | false=>rw [hb] at h; cases h
  | true =>
   simp only [hb,cond_true,Ea,Prod.mk.injEq] at h
   simp only [Eb] at hb
   obtain ⟨rfl,rfl⟩:=h
   rw [← (aq _ _).1 hb.1,← (aq _ _).1 hb.2]
 ·cases h
theorem mA (i:Nat) (y:TV):jm (.gen [.drop i 0 [] false,.root i 0 y] (.one (.sref i 0 [])))=some (i,y):=by
 simp only [jm,(aq i i).2 rfl,Bool.and_self,cond_true]
theorem AF {o:Item} {st:ASt} {e:Eff} (h:cS o st e=true):cS o st.nfS e.nfE=true:=by
 unfold cS at h ⊢
 split at h
 ·rename_i s i y h1 h2
  have:=iw h2
  subst this
  simp only [Eb] at h
  simp only [h1,Eff.nfE,AV.nf,mA,Eb]
  refine ⟨⟨⟨⟨⟨h.1.1.1.1.1,?_⟩,h.1.1.1.2⟩,?_⟩,h.1.2⟩,h.2⟩
  ·rw [jN]; exact xj h.1.1.1.1.2
  ·rw [show st.nfS.slots=st.slots.map AV.nf from rfl,nV]; exact h.1.1.2
 ·cases h
theorem s7 (st:ASt) (x:Operand):st.nfS.ev x=(st.ev x).nf:=by
 cases x with
 | tmp t=>exact jN st t
 | const v =>
  cases v with
  | bool b=>rfl
  | _=>first | rfl | (simp only [ASt.ev]; cases Value.oneCell' _ <;> rfl)
 | global g=>rfl
 | func f=>rfl
theorem rH:∀ (l:List AV),cg (l.map AV.nf)=cg l
 | []=>rfl
 | v :: l=>by simp only [List.map_cons,cg,gB,rH l]
theorem kq (e:Eff):ip e.nfE=ip e:=by
 cases e with
 | new b v=>cases b <;> rfl
 | _=>rfl
theorem zK {i:Item} {st:ASt} {e:Eff}:gL i st.nfS e.nfE=gL i st e:=by
 unfold gL
 have:i.o.op.operands.toList.map st.nfS.ev=(i.o.op.operands.toList.map st.ev).map AV.nf:=by
  rw [List.map_map]
  exact List.map_congr_left fun x _=>s7 st x
 rw [this,rH,kq,bZ]
 rfl
theorem wA:∀ (l:List AV),fE (l.map AV.nf)=fE l
 | []=>rfl
 | v :: l=>by simp only [List.map_cons,fE,lX,wA l]
theorem oZ (e:Eff):lp e.nfE=lp e:=by cases e <;> rfl
theorem x7 (e:Eff):drE e.nfE=drE e:=by cases e <;> rfl
theorem rl (k:Nat) (e:Eff):ur k e.nfE=ur k e:=by cases e <;> rfl
theorem qN (v:AV):(v.nf.bL CA.deep).dH=(v.bL CA.deep).dH:=by
 rcases aC v with h | ⟨b,h,rfl | rfl⟩
 ·rw [h]
 ·rw [h]; rfl
 ·rw [h]; rfl
theorem vP:∀ (l:List AV),fE (bP CA.deep (l.map AV.nf))=fE (bP CA.deep l)
 | []=>rfl
 | v :: l=>by simp only [List.map_cons,bP,fE,qN,vP l]
theorem ql (e:Eff):nw e.nfE=nw e:=by
 cases e with
 | val v=>exact qN v
 | new b v=>exact bZ (.new b v)
 | upd i b v=>exact bZ (.upd i b v)
 | gen ps v=>exact bZ (.gen ps v)
theorem zI {i:Item} {st:ASt} {e:Eff}:ce i st.nfS e.nfE=ce i st e:=by
 unfold ce
 simp only [oZ,x7,rl]
 rfl
theorem Am {i:Item} {st:ASt} {e:Eff}:cN i st.nfS e.nfE=cN i st e:=by
 unfold cN
 have hd:∀ d b,iL st.nfS d b=iL st d b:=fun d b=>by
  cases d with
  | none=>rfl
  | some d =>
   have:=s7 st (.tmp d)
   simp only [ASt.ev] at this
   simp only [iL,this,lX]
 have hd2:∀ d b,gE st.nfS d b=gE st d b:=fun d b=>by
  cases d with
  | none=>rfl
  | some d =>
   have:=s7 st (.tmp d)
   simp only [ASt.ev] at this
   simp only [gE,this,qN]
 simp only [hd,hd2,bZ,ql]
 have:i.o.op.operands.toList.map st.nfS.ev=(i.o.op.operands.toList.map st.ev).map AV.nf:=by
  rw [List.map_map]
  exact List.map_congr_left fun x _=>s7 st x
 rw [this,wA,vP]
 rfl
theorem okE_nf {i:Item} {st:ASt} {e:Eff} (h:okE i st e=true):okE i st.nfS e.nfE=true:=by
 unfold okE at h ⊢
 rw [Bool.or_eq_true] at h ⊢
 rcases h with h | h
 ·rw [zI]; exact .inl h
 refine .inr ?_
 rw [Bool.or_eq_true] at h ⊢
 rcases h with h | h
 ·rw [nr,wl,nJ,An,zK,Am]; exact .inl h
 ·exact .inr (AF h)
theorem uN (hs:Sim w0 I0 st a ov w):Sim w0 I0 st.nfS a ov w:=by
 obtain ⟨g,hs⟩:=hs
 refine ⟨g,hs.below,hs.sub,hs.lt,hs.old,by simp [ASt.nfS,hs.len],hs.defers,fun t v hv=>?_,hs.olen,hs.outs,hs.cells,hs.trees,hs.foot,hs.apart,hs.apartR,hs.res,hs.base,hs.out⟩
 simp only [ASt.nfS,Ee] at hv
 cases hsl:st.slots[t]? with
 | none=>simp [hsl] at hv
 | some u =>
  simp only [hsl,El,Ea] at hv
  subst hv
  exact Bg.2 (hs.slots t u hsl)
theorem eb (hs:Sim w0 I0 st.nfS a ov w):Sim w0 I0 st a ov w:=by
 obtain ⟨g,hs⟩:=hs
 refine ⟨g,hs.below,hs.sub,hs.lt,hs.old,by have:=hs.len; simpa [ASt.nfS] using this,hs.defers,fun t v hv=>?_,hs.olen,hs.outs,hs.cells,hs.trees,hs.foot,hs.apart,hs.apartR,hs.res,hs.base,hs.out⟩
 exact Bg.1 (hs.slots t v.nf (by simp [ASt.nfS,hv]))
theorem nN (i r:Nat) (js:List Nat) (b:Bool) (v:AV):(v.bL (CA.drop i r js b)).nf=v.nf.bL (CA.drop i r js b):=by
 rcases aC v with h | ⟨b,h,rfl | rfl⟩
 ·rw [h]
  cases v with
  | one c =>
   have key:∀ c:CA,c.drop i r js b=c∨c.drop i r js b=.junk:=fun c=>by
    rcases eA i r js b c with ⟨h,_⟩ | h
    ·exact .inl h
    ·exact .inr h
   simp only [AV.bL]
   rcases key c with h' | h'
   ·rw [h',h]
   ·rw [h']; rfl
  | tv x=>exact h
  | _=>rfl
 ·rfl
 ·rfl
theorem AX (st:ASt) (i r:Nat) (js:List Nat) (b:Bool):(st.aw (CA.drop i r js b)).nfS=st.nfS.aw (CA.drop i r js b):=by
 simp only [ASt.nfS,ASt.aw]
 congr 1
 apply List.ext_getElem?
 intro t
 simp only [Ee,ma]
 cases st.slots[t]? with
 | none=>rfl
 | some v=>simp [nN]
theorem p9 (i:Nat) (v:AV):(v.bL (CA.unM i)).nf=v.nf.bL (CA.unM i):=by
 cases v with
 | one c =>
  cases c with
  | t x =>
   cases x with
   | lit u=>cases u <;> rfl
   | _=>rfl
  | may j ty =>
   simp only [AV.bL,CA.unM,AV.nf]
   cases j.beq i <;> rfl
  | _=>rfl
 | tv x =>
  cases x with
  | lit u=>cases u <;> rfl
  | _=>rfl
 | _=>rfl
theorem Dj (st:ASt) (i:Nat):(st.aw (CA.unM i)).nfS=st.nfS.aw (CA.unM i):=by
 simp only [ASt.aw,ASt.nfS]
 congr 1
 induction st.slots with
 | nil=>rfl
 | cons v l ih=>simp only [bP,List.map_cons,p9,ih]
theorem ug {i:Nat} {b:BC} (h:st.bn i b=some st'):st.nfS.bn i b=some st'.nfS:=by
 obtain ⟨h1,h2,rfl⟩:=bg h
 have h2':i.blt st.nfS.boxes.length=true:=by simpa [ASt.nfS] using h2
 simp only [ASt.bn,kX,h1,h2',cond_true,s6]
theorem qf {d:Option Tmp}:∀ {ps:List Prim} {st st':ASt},ae d ps st=some st'→ae d ps st.nfS=some st'.nfS
 | [],st,st',h=>by simp only [ae,Ea] at h; subst h; rfl
 | p :: ps, st, st', h => by
  simp only [ae] at h ⊢
  cases h1:p.app st d with
  | none=>simp [h1] at h
  | some s1 =>
   simp only [h1] at h
   have:p.app st.nfS d=some s1.nfS:=by
    cases p with
    | drop i r js b =>
     simp only [Prim.app,Ea] at h1 ⊢
     subst h1
     rw [AX]
    | root i r x =>
     simp only [Prim.app,kX] at h1 ⊢
     split at h1
     ·rename_i b hb
      simp only [Ea] at h1
      subst h1
      rfl
     ·cases h1
    | frz i r =>
     simp only [Prim.app,kX] at h1 ⊢
     split at h1
     ·rename_i x hx
      split at h1
      ·rename_i b hb
       simp only [Ea] at h1
       subst h1
       rfl
      ·cases h1
     ·cases h1
    | unmay i =>
     simp only [Prim.app,Ea] at h1 ⊢
     subst h1
     rw [Dj]
    | newB b =>
     cases d with
     | none=>simp [Prim.app] at h1
     | some d =>
      simp only [Prim.app] at h1 ⊢
      rw [uU]
      exact ug h1
    | setB i cs =>
     simp only [Prim.app,kX] at h1 ⊢
     split at h1
     ·simp only [Ea] at h1
      subst h1
      rfl
     ·cases h1
   rw [this]
   exact qf h
theorem app_nf {e:Eff} {d:Option Tmp} (h:e.app st d=some st'):e.nfE.app st.nfS d=some st'.nfS:=by
 cases e with
 | val v =>
  simp only [Eff.app,Eff.nfE,Ea] at h ⊢
  subst h
  rw [iS]
 | new b v =>
  cases d with
  | none=>simp [Eff.app] at h
  | some d =>
   simp only [Eff.app,Eff.nfE] at h ⊢
   rw [uU]
   split at h
   ·rename_i s1 hs1
    simp only [Ea] at h
    subst h
    rw [ug hs1]
    simp only [iS]
   ·cases h
 | upd i b v =>
  simp only [Eff.app,Eff.nfE,Ea] at h ⊢
  subst h
  rw [iS,s6]
 | gen ps v =>
  simp only [Eff.app,Eff.nfE] at h ⊢
  split at h
  ·rename_i s1 hs1
   simp only [Ea] at h
   subst h
   rw [qf hs1]
   simp only [iS]
  ·cases h
theorem kr {d:Option Tmp} {v:AV} (hs:Sim w0 I0 (st.put d v) a ov w):Sim w0 I0 (st.put d v.nf) a ov w:=by
 apply eb
 have:=uN hs
 rw [iS] at this ⊢
 rwa [tq]
theorem zD {e:Eff} {d:Option Tmp} (h:e.nfE.app st d=some st'):∃ st1,e.app st d=some st1∧∀ w0 I0 a ov w,Sim w0 I0 st1 a ov w→Sim w0 I0 st' a ov w:=by
 cases e with
 | val v =>
  simp only [Eff.app,Eff.nfE,Ea] at h ⊢
  subst h
  exact ⟨_,rfl,fun w0 I0 a ov w hs=>kr hs⟩
 | new b v =>
  cases d with
  | none=>simp [Eff.app,Eff.nfE] at h
  | some d =>
   simp only [Eff.app,Eff.nfE] at h ⊢
   split at h
   ·rename_i s1 hs1
    simp only [Ea] at h
    subst h
    exact ⟨_,rfl,fun w0 I0 a ov w hs=>kr hs⟩
   ·cases h
 | upd i b v =>
  simp only [Eff.app,Eff.nfE,Ea] at h ⊢
  subst h
  exact ⟨_,rfl,fun w0 I0 a ov w hs=>kr hs⟩
 | gen ps v =>
  simp only [Eff.app,Eff.nfE] at h ⊢
  split at h
  ·rename_i s1 hs1
   simp only [Ea] at h
   subst h
   exact ⟨_,rfl,fun w0 I0 a ov w hs=>kr hs⟩
  ·cases h
end
end Go.Ab
end
section
namespace Go.Ab
open Go.RowKit
def Prg.All {R:Type} (p:R→Prop):Prg R→Prop
 | .fail=>True
 | .ret e=>p e
 | .tv _ k=>∀ v,(k v).All p
 | .tvs _ k=>∀ v,(k v).All p
 | .rws _ k=>∀ v,(k v).All p
 | .nat _ k=>∀ v,(k v).All p
 | .chk _ k=>k.All p
 | .ite _ t e=>t.All p∧e.All p
 | .call _ _ k=>∀ v,(k v).All p
 | .jmp _ _=>True
theorem Prg.All.hits {R:Type} {C:Cal} {p:R→Prop} {e:R}:∀ {o:Prg R},o.All p→o.hits C e→p e
 | .ret e',h,h'=>by cases h'; exact h
 | .tv _ k,h,⟨v,_,h'⟩=>(h v).hits h'
 | .tvs _ k,h,⟨v,_,h'⟩=>(h v).hits h'
 | .rws _ k,h,⟨v,_,h'⟩=>(h v).hits h'
 | .nat _ k,h,⟨v,_,h'⟩=>(h v).hits h'
 | .chk _ k,h,⟨_,h'⟩=>Prg.All.hits (o:=k) h h'
 | .ite _ t e,h,⟨v,_,.inl ⟨_,h'⟩⟩=>Prg.All.hits (o:=t) h.1 h'
 | .ite _ t e,h,⟨v,_,.inr ⟨_,h'⟩⟩=>Prg.All.hits (o:=e) h.2 h'
 | .call _ _ k,h,⟨v,_,h'⟩=>(h v).hits h'
section
variable {E:Env} {look look':Look} {p:Eff→Prop} {id:Nat}
theorem aE {b:Bool} {x y:Out} (hx:x.All p) (hy:y.All p):(bif b then x else y).All p:=by cases b <;> assumption
theorem iy {q:Way} {x:TV} {k:TV→Out} (h:∀ y,(k y).All p):(mI q x k).All p:=by
 unfold mI
 split
 ·exact h _
 ·exact h
theorem fo {c:CA} {k:TV→Out} (h:∀ y,(k y).All p):(iA look c k).All p:=by
 unfold iA
 split
 ·exact h _
 ·split
  ·exact iy h
  ·exact trivial
 ·split
  ·exact iy fun y z=>h z
  ·exact trivial
 ·exact trivial
theorem oF {v:AV} {k:TV→Out} (h:∀ y,(k y).All p):(ta look v k).All p:=by
 unfold ta
 split
 ·exact fo h
 ·exact h _
 ·exact h _
 ·exact trivial
theorem ue {c:CA} {k:TV→Out} (h:∀ y,(k y).All p):(sA look c k).All p:=by
 unfold sA
 split
 ·exact h _
 ·exact fo fun y=>h _
 ·exact fo fun y=>h _
 ·exact trivial
theorem tF {k:List TV→Out}:∀ {cs:List CA} {k:List TV→Out},(∀ y,(k y).All p)→(zj look cs k).All p
 | [],k,h=>h _
 | c :: cs,k,h=>ue fun y=>tF (k:=fun _=>.fail) fun ys=>h _
theorem zZ {v:AV} {k:TV→Out} (h:∀ y,(k y).All p):(rb look v k).All p:=by
 unfold rb
 split
 ·exact ue h
 ·exact h _
 ·exact tF (k:=fun _=>.fail) fun ys=>h _
 ·exact trivial
 ·exact trivial
 ·exact h _
theorem fS:∀ {vs:List AV} {k:List TV→Out},(∀ y,(k y).All p)→(lends look vs k).All p
 | [],k,h=>h _
 | v :: vs,k,h=>zZ fun y=>fS fun ys=>h _
theorem tw {c:CA} {k:TV→List (Nat × Nat)→Out} (h:∀ y r,(k y r).All p):(rC look c k).All p:=by
 unfold rC
 split
 ·exact h _ _
 ·split
  ·split
   ·exact h _ _
   ·exact fun y=>h _ _
  ·exact trivial
 ·split
  ·split
   ·exact fun y=>h _ _
   ·exact fun z y=>h _ _
  ·exact trivial
 ·exact trivial
theorem tX:∀ {cs:List CA} {k:List TV→List (Nat × Nat)→Out},(∀ y r,(k y r).All p)→(yK look cs k).All p
 | [],k,h=>h _ _
 | c :: cs,k,h=>tw fun y r=>tX fun ys rs=>h _ _
theorem zL {v:AV} {k:TV→List (Nat × Nat)→Out} (h:∀ y r,(k y r).All p):(rT look v k).All p:=by
 unfold rT
 split
 ·exact tw h
 ·exact h _ _
 ·exact tX fun ys rs=>h _ _
 ·exact trivial
 ·exact trivial
 ·exact h _ _
theorem pF:∀ {vs:List AV} {k:List TV→List (Nat × Nat)→Out},(∀ y r,(k y r).All p)→(hands look vs k).All p
 | [],k,h=>h _ _
 | v :: vs,k,h=>zL fun y r=>pF fun ys rs=>h _ _
theorem dR:∀ {cs:List CA} {k:List TV→List Prim→List (Nat × Nat)→Out},(∀ y q r,(k y q r).All p)→(cp look cs k).All p
 | [],k,h=>h _ _ _
 | .t x :: l,k,h=>by
  simp only [cp]
  exact dR (cs:=l) fun xs ps ts=>h _ _ _
 | .sref i r q :: l, k, h => by
  simp only [cp]
  split
  ·split
   ·exact dR (cs:=l) fun xs ps ts=>h _ _ _
   ·exact fun y=>dR (cs:=l) fun xs ps ts=>h _ _ _
  ·exact trivial
 | .swin i r q lo len :: l, k, h => by
  simp only [cp]
  split
  ·split
   ·exact fun y=>dR (cs:=l) fun xs ps ts=>h _ _ _
   ·exact fun z y=>dR (cs:=l) fun xs ps ts=>h _ _ _
  ·exact trivial
 | .ptr _ _ :: l,k,h=>trivial
 | .ref _ _ :: l,k,h=>trivial
 | .tptr _ _ _ _ _ :: l,k,h=>trivial
 | .may _ _ :: l,k,h=>trivial
 | .aptr _ _ _ _ :: l,k,h=>trivial
 | .ifp _ _ :: l,k,h=>trivial
 | .fn1 _ _ :: l,k,h=>trivial
 | .yl _ :: l,k,h=>trivial
 | .undef :: l,k,h=>trivial
 | .junk :: l,k,h=>trivial
theorem dZ:∀ {cs:List CA} {k:List TV→List Prim→List (Nat × Nat)→Out},(∀ y q r,(k y q r).All p)→(bU look cs k).All p
 | [],k,h=>h _ _ _
 | .t x :: l,k,h=>by
  simp only [bU]
  exact dZ (cs:=l) fun xs ps ts=>h _ _ _
 | .sref i r q :: l, k, h => by
  simp only [bU]
  split
  ·split
   ·exact dZ (cs:=l) fun xs ps ts=>h _ _ _
   ·exact fun y=>⟨dZ (cs:=l) fun xs ps ts=>h _ _ _,fun x'=>dZ (cs:=l) fun xs ps ts=>h _ _ _⟩
  ·exact trivial
 | .swin i r q lo len :: l, k, h => by
  simp only [bU]
  split
  ·split
   ·exact fun y=>dZ (cs:=l) fun xs ps ts=>h _ _ _
   ·exact fun z y=>dZ (cs:=l) fun xs ps ts=>h _ _ _
  ·exact trivial
 | .ptr _ _ :: l,k,h=>trivial
 | .ref _ _ :: l,k,h=>trivial
 | .tptr _ _ _ _ _ :: l,k,h=>trivial
 | .may _ _ :: l,k,h=>trivial
 | .aptr _ _ _ _ :: l,k,h=>trivial
 | .ifp _ _ :: l,k,h=>trivial
 | .fn1 _ _ :: l,k,h=>trivial
 | .yl _ :: l,k,h=>trivial
 | .undef :: l,k,h=>trivial
 | .junk :: l,k,h=>trivial
theorem d9 {agg:Bool} {n:Nat} {x:AV} {k:List CA→Out} (h:∀ cs,(k cs).All p):(x.aT agg n k).All p:=by
 unfold AV.aT
 split
 ·rename_i c; cases c.kept <;> first | exact trivial | exact h _
 ·exact h _
 ·exact h _
 ·exact h _
 ·rename_i cs; cases cs.length.beq n <;> first | exact trivial | exact h _
 ·exact h _
 ·exact trivial
theorem od {at_:Nat→Option (Nat × Bool × Nat)} {k:List CA→Out} (h:∀ cs,(k cs).All p):∀ (is:List Nat) (vs:List AV) (cs:List CA),(bM at_ is vs cs k).All p
 | [],[],cs=>h cs
 | i :: is, x :: vs, cs => by
  simp only [bM]
  split
  ·refine d9 (fun ps=>?_)
   exact aE (od h is vs _) trivial
  ·exact trivial
 | [],_ :: _,cs=>trivial
 | _ :: _,[],cs=>trivial
theorem eT {v:Option AV} {k:Option Nat→Out} (h:∀ n,(k n).All p):(fq v k).All p:=by
 unfold fq
 split
 ·exact h _
 ·split
  ·exact fun v=>h _
  ·exact trivial
abbrev cW (e:Eff):Prop:=∃ v,e=.val v
abbrev cX (e:Eff):Prop:=∃ b v,e=.new b v
theorem wb {d:TyD} {x:List TV} {off:Nat}:(jX d x off).All cW:=by
 unfold jX
 cases d.kd.isAgg
 ·exact ⟨_,rfl⟩
 ·exact ⟨_,rfl⟩
theorem t8:∀ {vs:List AV} {k:List CA→Out},(∀ cs,(k cs).All p)→(kb vs k).All p
 | [],k,h=>h _
 | v :: vs,k,h=>d9 fun cs=>t8 fun cs'=>h _
theorem DY {op:Op} (h:ap op=.N) (vs:List AV):(opL E id look op vs).All cW:=by
 cases op with
 | move x=>rcases vs with _ | ⟨v,_ | ⟨v',r⟩⟩ <;> first | exact trivial | exact ⟨_,rfl⟩
 | assign x=>rcases vs with _ | ⟨v,_ | ⟨v',r⟩⟩ <;> first | exact trivial | exact ⟨_,rfl⟩
 | pick c x y =>
  rcases vs with _ | ⟨v,_ | ⟨v',_ | ⟨v'',_ | ⟨v3,r⟩⟩⟩⟩ <;> first | exact trivial | skip
  simp only [opL]
  split <;> first | exact trivial | exact ⟨_,rfl⟩ | exact ⟨⟨_,rfl⟩,⟨_,rfl⟩⟩
 | build t parts =>
  simp only [opL]
  split
  ·refine aE ?_ trivial
   refine od ?_ _ _ _
   exact fun cs=>⟨_,rfl⟩
  ·exact trivial
 | nilCheck x =>
  rcases vs with _ | ⟨v,_ | ⟨v',r⟩⟩ <;> first | exact trivial | skip
  simp only [opL]
  split <;> first | exact trivial | exact ⟨_,rfl⟩
 | unOp op xt x =>
  rcases vs with _ | ⟨v,_ | ⟨v',r⟩⟩ <;> first | exact trivial | skip
  simp only [opL]
  split
  ·exact ⟨_,rfl⟩
  ·split
   ·exact fun v=>⟨_,rfl⟩
   ·exact trivial
 | fieldAddr t x f =>
  rcases vs with _ | ⟨v,_ | ⟨v',r⟩⟩ <;> first | exact trivial | skip
  simp only [opL]
  split
  ·split
   ·refine aE ?_ trivial
    split <;> first | exact trivial | exact ⟨_,rfl⟩
   ·exact trivial
  ·exact trivial
 | field t x f =>
  rcases vs with _ | ⟨v,_ | ⟨v',r⟩⟩ <;> first | exact trivial | skip
  simp only [opL]
  split
  ·split
   ·unfold vd
    split
    ·split
     ·split <;> first | exact trivial | exact ⟨_,rfl⟩
     ·exact trivial
    ·exact ⟨_,rfl⟩
    ·exact trivial
   ·exact trivial
  ·exact trivial
 | index t x y =>
  rcases vs with _ | ⟨v,_ | ⟨v',_ | ⟨v'',r⟩⟩⟩ <;> first | exact trivial | skip
  simp only [opL]
  split
  ·exact fun v=>⟨_,rfl⟩
  ·unfold qE
   split
   ·split
    ·refine aE ?_ trivial
     split
     ·exact fun k v=>⟨_,rfl⟩
     ·exact trivial
    ·exact trivial
   ·exact trivial
 | extract x j =>
  rcases vs with _ | ⟨v,_ | ⟨v',r⟩⟩ <;> first | exact trivial | skip
  simp only [opL]
  split
  ·split
   ·split <;> first | exact trivial | exact ⟨_,rfl⟩
   ·exact trivial
  ·exact trivial
 | makeFunc fn first cap =>
  cases fn with
  | func f =>
   simp only [opL]
   exact aE (t8 fun cs=>⟨_,rfl⟩) trivial
  | _=>exact trivial
 | call c =>
  obtain ⟨callee,args,tys⟩:=c
  cases callee with
  | builtin b=>cases b <;> simp [ap] at h
  | value f=>cases f <;> simp [ap] at h
  | invoke r m=>simp [ap] at h
 | makeInterface t x =>
  rcases vs with _ | ⟨v,_ | ⟨v',r⟩⟩ <;> first | exact trivial | skip
  simp only [opL]
  split
  ·unfold Cr
   refine aE ?_ trivial
   split
   ·exact ⟨_,rfl⟩
   ·split
    ·exact fun v=>⟨_,rfl⟩
    ·exact trivial
  ·exact trivial
 | typeAssert x xt t ok =>
  rcases vs with _ | ⟨v,_ | ⟨v',r⟩⟩ <;> cases ok <;> first | exact trivial | skip
  simp only [opL]
  split
  ·unfold uw
   refine aE ?_ trivial
   split
   ·exact fun v=>⟨_,rfl⟩
   ·exact trivial
  ·exact trivial
 | _=>simp [ap] at h
theorem Ba {op:Op} (h:ap op=.R) (vs:List AV):(opL E id look op vs).All cW:=by
 cases op with
 | load t x =>
  rcases vs with _ | ⟨v,_ | ⟨v',r⟩⟩ <;> first | exact trivial | skip
  simp only [opL]
  split
  ·unfold yO
   split
   ·refine aE trivial ?_
    split
    ·exact fun v=>⟨_,rfl⟩
    ·exact trivial
   ·split
    ·split
     ·split
      ·exact ⟨_,rfl⟩
      ·exact trivial
     ·exact trivial
    ·exact trivial
   ·exact wb
   ·split
    ·refine iy (fun s e=>?_)
     simp only [Prg.All]
     split
     ·exact ⟨_,rfl⟩
     ·exact trivial
    ·exact trivial
   ·exact trivial
  ·exact trivial
 | convert xt dt x =>
  rcases vs with _ | ⟨v,_ | ⟨v',r⟩⟩ <;> first | exact trivial | skip
  simp only [opL]
  split
  ·unfold zx
   split
   ·split
    ·exact aE (oF fun y=>fun rows=>fun v=>⟨_,rfl⟩) trivial
    ·exact trivial
   ·split
    ·exact fun v=>⟨_,rfl⟩
    ·exact trivial
  ·exact trivial
 | binOp op xt x y yt =>
  rcases vs with _ | ⟨v,_ | ⟨v',_ | ⟨v'',r⟩⟩⟩ <;> first | exact trivial | skip
  simp only [opL]
  split
  ·unfold Du
   split
   ·split
    ·refine d9 fun cs=>d9 fun cs'=>?_
     split
     ·exact fun v=>⟨_,rfl⟩
     ·exact trivial
    ·exact trivial
   ·unfold C8
    split
    ·exact ⟨_,rfl⟩
    ·exact ⟨_,rfl⟩
    ·exact trivial
   unfold CX
   refine aE (oF fun x=>oF fun y=>fun v=>⟨_,rfl⟩) ?_
   split
   ·exact fun v=>⟨_,rfl⟩
   ·exact trivial
  ·exact trivial
 | slice t x lo hi mx =>
  have sl:∀ {kd:Kd} {sz:Nat} {x:AV} {lo hi:Option AV},(iB look kd sz x lo hi).All cW:=by
   intro kd sz x lo hi
   unfold iB
   split
   ·exact eT fun lo=>eT fun hi=>fun v=>⟨_,rfl⟩
   ·split
    ·exact fo fun s n=>eT fun lo=>eT fun hi=>⟨_,rfl⟩
    ·split
     ·exact fo fun s=>eT fun hi=>⟨_,rfl⟩
     ·exact fo fun s=>eT fun lo=>eT fun hi=>⟨_,rfl⟩
    ·exact trivial
  cases mx with
  | some m=>rcases vs with _ | ⟨v,r⟩ <;> exact trivial
  | none =>
   rcases vs with _ | ⟨v,r⟩
   ·exact trivial
   ·simp only [opL]
    split
    ·split
     ·split <;> first | exact trivial | exact sl
     ·exact trivial
    ·exact trivial
 | indexAddr t x y =>
  rcases vs with _ | ⟨v,_ | ⟨v',_ | ⟨v'',r⟩⟩⟩ <;> first | exact trivial | skip
  simp only [opL]
  split
  ·unfold oI
   split
   ·split
    ·exact fun v=>⟨_,rfl⟩
    ·split
     ·exact fo fun s n k=>⟨_,rfl⟩
     ·exact fo fun s k=>⟨_,rfl⟩
     ·exact trivial
   ·exact trivial
  ·unfold qB
   split
   ·split
    ·exact aE (fun k=>⟨_,rfl⟩) trivial
    ·exact trivial
   ·exact trivial
 | call c =>
  obtain ⟨callee,args,tys⟩:=c
  cases callee with
  | builtin b =>
   have mn:∀ {mx:Bool} {x y:AV},(wJ mx x y).All cW:=by
    intro mx x y
    unfold wJ
    split
    ·exact fun v=>⟨_,rfl⟩
    ·exact trivial
   cases b <;> simp [ap] at h
   all_goals simp only [opL]
   all_goals unfold dO
   all_goals split <;> first | exact trivial | exact mn | contradiction | skip
   split
   ·unfold yd
    split
    ·exact ⟨_,rfl⟩
    ·exact oF fun s v=>⟨_,rfl⟩
   ·exact trivial
  | value f=>cases f <;> simp [ap] at h
  | invoke r m=>simp [ap] at h
 | _=>simp [ap] at h
theorem cls_A {op:Op} (h:ap op=.A) (vs:List AV):(opL E id look op vs).All cX:=by
 cases op with
 | alloc t =>
  rcases vs with _ | ⟨v,r⟩ <;> first | exact trivial | skip
  simp only [opL]
  split
  ·exact ⟨_,_,rfl⟩
  ·exact trivial
 | box t x =>
  rcases vs with _ | ⟨v,_ | ⟨v',r⟩⟩ <;> first | exact trivial | skip
  simp only [opL]
  split
  ·exact d9 (fun cs=>⟨_,_,rfl⟩)
  ·exact trivial
 | makeSlice t x y =>
  rcases vs with _ | ⟨v,_ | ⟨v',_ | ⟨v'',r⟩⟩⟩ <;> first | exact trivial | skip
  simp only [opL]
  split
  ·refine aE ?_ trivial
   exact fun n m=>⟨_,_,rfl⟩
  ·exact trivial
 | call c =>
  obtain ⟨callee,args,tys⟩:=c
  cases callee with
  | builtin b=>cases b <;> simp [ap] at h
  | value f=>cases f <;> simp [ap] at h
  | invoke r m=>simp [ap] at h
 | _=>simp [ap] at h
theorem iV {ps:List Prim} {b:BC} {v:AV}:(cC ps b v).plain=true→cW (cC ps b v)∨cX (cC ps b v):=by
 cases ps with
 | nil=>exact fun _=>.inr ⟨_,_,rfl⟩
 | cons q l=>exact fun h=>by cases h
theorem tV {ps:List Prim} {v:AV}:(match ps with | []=>Eff.val v | _=>.gen ps v).plain=true→cW (match ps with | []=>Eff.val v | _=>.gen ps v)∨cX (match ps with | []=>Eff.val v | _=>.gen ps v):=by
 cases ps with
 | nil=>exact fun _=>.inl ⟨_,rfl⟩
 | cons q l=>exact fun h=>by cases h
theorem j6 {d:TyD} {x:TV} {k:Out} (h:k.All p):(jb d x k).All p:=by
 unfold jb
 exact aE h h
theorem qg {x:TV} {k:Out} (h:k.All p):∀ (ds:List TyD) (j:Nat),(fU x ds j k).All p
 | [],j=>h
 | d :: ds,j=>j6 (qg h ds (j + 1))
theorem sP {ds:List TyD} {v:TV} {ps:List Prim}:(tg id ds v ps).All fun e=>e.plain=true→cW e∨cX e:=by
 have many:∀ ds:List TyD,(Prg.chk (v.isTup ds.length) (fU v ds 0 (bif gj ds then .ret (cC ps (.tree (bh v ds 0)) (.tups (dG id v ds 0 0)))
   else .ret (match ps with | []=>.val (.tups (dG id v ds 0 0)) | _=>.gen ps (.tups (dG id v ds 0 0)))))).All fun e=>e.plain=true→cW e∨cX e:=by
  intro ds
  refine qg ?_ ds 0
  exact aE iV tV
 match ds with
 | []=>exact many []
 | [d] =>
  simp only [tg]
  refine j6 ?_
  split
  ·exact aE iV tV
  ·exact trivial
 | d :: d' :: l=>exact many _
theorem BV {ds:List TyD} {v:TV} {k:AV→Out} {p:Eff→Prop} (h:∀ av,(k av).All p):(Cj id ds v k).All p:=by
 have some:∀ (ds:List TyD) (j:Nat) (k:Out),k.All p→(fU v ds j k).All p:=by
  intro ds
  induction ds with
  | nil=>intro j k h; exact h
  | cons d ds ih=>intro j k h; exact j6 (ih (j + 1) k h)
 unfold Cj
 split
 ·refine j6 ?_
  split
  ·exact h _
  ·exact trivial
 ·exact some _ 0 _ (h _)
theorem zG {f:FuncId} {ld:fh} {vs:List AV}:(nI E id look f ld vs).All fun e=>e.plain=true→cW e∨cX e:=by
 unfold nI
 split
 ·split
  ·refine aE trivial ?_
   exact pF fun xs rs=>dR fun ys qs ts=>aE (fun v=>BV fun av=>fun h=>by simp [Eff.plain] at h) trivial
  ·exact trivial
 ·exact trivial
theorem zT {f:FuncId} {c:Nat × Nat} {vs:List AV}:(ns look f c vs).All fun e=>e.plain=true→cW e∨cX e:=by
 unfold ns
 split
 ·split
  ·split
   ·exact aE (fS fun xs=>fun v=>fun _=>.inl ⟨_,rfl⟩) trivial
   ·exact trivial
  ·exact trivial
 ·exact trivial
theorem uC {p:Eff→Prop} {q:Way} {x y:TV} {k:TV→Out} (h:∀ y,(k y).All p):(vI q x y k).All p:=by
 unfold vI
 split
 ·exact h _
 ·exact fun v=>h _
theorem Ao {f:FuncId} {vs:List AV}:(lr look f vs).All fun e=>e.plain=true→cW e∨cX e:=by
 unfold lr
 split
 ·split
  ·exact iy fun z=>fS fun xs=>fun v=>fun y=>uC fun x'=>fun h=>by cases h
  ·exact trivial
 ·split
  ·exact iy fun z=>fun z1=>fS fun xs=>fun v=>fun y=>uC fun x'=>fun h=>by cases h
  ·exact trivial
 ·exact trivial
theorem BG {f:FuncId} {i:Nat} {vs:List AV}:(wI E id look f i vs).All fun e=>e.plain=true→cW e∨cX e:=by
 unfold wI
 refine aE ?_ trivial
 split
 ·split
  ·exact fS fun xs=>fun v=>sP
  ·exact trivial
 ·exact trivial
theorem cls_B {op:Op} (h:ap op=.B) (vs:List AV):(opL E id look op vs).All fun e=>e.plain=true→cW e∨cX e:=by
 cases op with
 | buildSlice t len parts =>
  simp only [opL]
  refine aE ?_ ?_
  ·unfold sC
   split
   ·refine od (fun cs=>?_) _ _ _
    split
    ·exact aE (fun _=>.inr ⟨_,_,rfl⟩) trivial
    ·exact trivial
   ·exact trivial
  unfold iD
  split
  ·refine od (fun cs=>?_) _ _ _
   refine dZ fun ys qs ts=>?_
   exact aE iV trivial
  ·exact trivial
 | call c =>
  obtain ⟨callee,args,tys⟩:=c
  cases callee with
  | builtin b=>cases b <;> simp [ap] at h
  | value f =>
   cases f with
   | func f =>
    rcases vs with _ | ⟨v,r⟩
    ·exact trivial
    ·simp only [opL,mE]
     refine aE Ao (aE trivial ?_)
     split
     ·exact zT
     split
     ·exact zG
     ·split
      ·refine aE ?_ ?_
       ·exact fS fun xs=>fun v=>sP
       ·exact pF fun xs rs=>aE (fun v=>sP) trivial
      ·exact trivial
   | tmp t =>
    rcases vs with _ | ⟨v,r⟩
    ·exact trivial
    ·simp only [opL]
     split
     ·exact fun f=>fS fun xs v=>fun _=>.inl ⟨_,rfl⟩
     ·split
      ·exact BG
      ·exact trivial
   | _=>simp [ap] at h
  | invoke r m=>simp [ap] at h
 | _=>simp [ap] at h
abbrev isUpd (look:Look) (e:Eff):Prop:=∃ i b v,e=.upd i b v∧(look i).isSome=true
theorem A1 {op : Op} (h : ap op = .W) (vs : List AV) : (opL E id look op vs).All fun e => e.plain = true → isUpd look e := by
 cases op with
 | store t x y =>
  rcases vs with _ | ⟨v,_ | ⟨v',_ | ⟨v'',r⟩⟩⟩ <;> first | exact trivial | skip
  simp only [opL]
  split
  ·unfold uV
   split
   ·refine aE trivial ?_
    split
    ·rename_i cs xs hrow
     refine d9 (fun ps=>?_)
     split
     ·exact fun _=>⟨_,_,_,rfl,by simp [(iR hrow).1]⟩
     ·exact trivial
    ·exact trivial
   ·refine d9 (fun ps=>?_)
    split
    ·rename_i cs hl
     exact aE (fun _=>⟨_,_,_,rfl,by simp [hl]⟩) trivial
    ·exact trivial
   ·refine d9 (fun ps=>?_)
    split
    ·refine aE trivial (aE ?_ ?_)
     ·refine dR fun ys qs ts=>aE ?_ trivial
      exact iy fun s e=>fun x' hp=>by cases hp
     ·refine dR fun ys qs ts=>?_
      split
      ·refine aE ?_ trivial
       refine iy fun s e=>?_
       simp only [Prg.All]
       intro x'
       split
       ·rename_i b hb
        refine fun _=>⟨_,_,_,rfl,?_⟩
        unfold bW at hb
        split at hb
        ·rename_i hl; simp [hl]
        ·cases hb
       ·exact trivial
      ·exact trivial
    ·exact trivial
   ·exact trivial
  ·exact trivial
 | call c =>
  obtain ⟨callee,args,tys⟩:=c
  cases callee with
  | builtin b=>cases b <;> simp [ap] at h
  | value f=>cases f <;> simp [ap] at h
  | invoke r m=>simp [ap] at h
 | _=>simp [ap] at h
theorem pM {d:TyD} {s:AV} {news:List (List TV)} {ps:List Prim}:(lP id look d s news ps).All fun e=>e.plain=true→cW e∨cX e:=by
 unfold lP
 split
 ·exact aE (fun y=>iV) trivial
 ·split
  ·split
   ·split
    ·exact fun y h=>by cases h
    ·exact fun z y x' h=>by cases h
   ·exact trivial
  ·split
   ·split
    ·exact fun z y h=>by cases h
    ·exact fun z0 z y x' h=>by cases h
   ·exact trivial
  ·exact trivial
theorem Bh {d:TyD} {dest:Option Nat} {x:AV} {k:List (List TV)→List Prim→Out} (h:∀ xs ps,(k xs ps).All p):(xn look d dest x k).All p:=by
 unfold xn
 split
 ·exact fun xs=>h _ _
 ·split
  ·refine aE ?_ ?_
   ·split
    ·split
     ·split
      ·exact aE trivial (fun xs=>h _ _)
      ·exact fun y=>fun xs=>h _ _
     ·exact trivial
    ·split
     ·split
      ·exact aE trivial (fun y xs=>h _ _)
      ·exact fun z y=>fun xs=>h _ _
     ·exact trivial
    ·exact trivial
   ·exact fo (fun s xs=>h _ _)
  ·exact trivial
theorem cls_P {op:Op} (h:ap op=.P) (vs:List AV):(opL E id look op vs).All fun e=>e.plain=true→cW e∨cX e:=by
 cases op with
 | call c =>
  obtain ⟨callee,args,tys⟩:=c
  cases callee with
  | builtin b =>
   cases b <;> simp [ap] at h
   simp only [opL]
   unfold dO
   split <;> try (first | exact trivial | contradiction)
   split
   ·refine aE ?_ ?_
    ·unfold np
     exact aE (Bh (fun xs ps=>pM)) trivial
    ·split
     ·unfold lz
      refine aE ?_ trivial
      split
      ·exact fun news=>pM
      ·exact trivial
     ·exact trivial
   ·exact trivial
  | value f=>cases f <;> simp [ap] at h
  | invoke r m=>simp [ap] at h
 | _=>simp [ap] at h
theorem uk {op:Op} (h:ap op=.N∨ap op=.A) (vs:List AV):opL E id look op vs=opL E id look' op vs:=by
 cases op <;> first
  | (rcases vs with _ | ⟨a,_ | ⟨b,_ | ⟨c,_ | ⟨d,r⟩⟩⟩⟩ <;> rfl)
  | (simp [ap] at h; done)
  | (rename_i fn _ _; cases fn <;> rfl)
  | (rename_i ok; cases ok <;> rcases vs with _ | ⟨a,_ | ⟨b,r⟩⟩ <;> rfl)
  | skip
 all_goals
  rename_i c
  obtain ⟨callee,args,tys⟩:=c
  cases callee with
  | builtin b=>cases b <;> simp [ap] at h
  | value f=>cases f <;> simp [ap] at h
  | invoke r m=>simp [ap] at h
end
end Go.Ab
end

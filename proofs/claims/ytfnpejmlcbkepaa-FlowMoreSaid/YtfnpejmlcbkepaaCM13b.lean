import Derived.Test.YtfnpejmlcbkepaaCM12b
set_option linter.all false
section
namespace Go.Ab
open Go.RowKit
structure gf (P:Program) (G:Laid) (E:Env) (C:Cal):Prop where
 ty:∀ t d,E.T t=some d->aJ P t d
 call:vM P G E C
section
variable {P:Program} {E:Env} {C:Cal} {w0:Bs} {w w':World} {I0 I R:Nat->Prop} {g g':Gh} {st st':ASt} {a:Act} {ov:List Value} {look:Look} {Q:Exit->Act->World->Prop} {id:Nat}
theorem Ar (hE:gf P w0.G E C) (hlk:∀ i b,look i=some b->st.look i=some b) (hs:ah w0 I0 NoR g st a ov w) {o:Oper} {e:Eff} (hh:(opL E (st.nid o.dst) look o.op (o.op.operands.toList.map st.ev)).hits C e) (ha:e.app st o.dst=some st') :
  Good P w0 I0 ov o st' a w Q:=by
 obtain ⟨dst,op,type,pos,after,guard⟩:=o
 cases op with
 | move x=>exact BN hs hh ha
 | assign x=>exact yL hs hh ha
 | pick c x y=>exact BV hs hh ha
 | alloc t=>exact zD hE.ty hs hh ha
 | box t x=>exact op_box hE.ty hs hh ha
 | build t parts=>exact A1 hE.ty hs hh ha
 | makeFunc fn first cap=>exact uO hs hh ha
 | buildSlice t len parts =>
  simp only [opL] at hh
  cases hc:E.cold t && !(len.beq 0) with
  | true=>rw [hc] at hh; exact BI hE.ty hlk hs hh ha
  | false=>rw [hc] at hh; exact sa hE.ty hlk hs hh ha
 | load t x=>exact Bv hE.ty hlk hs hh ha
 | store t x y=>exact zS hE.ty hlk hs hh ha
 | nilCheck x=>exact vj hs hh ha
 | binOp op xt x y yt=>exact op_bin hE.ty hlk hs hh ha
 | unOp op xt x=>exact op_un hs hh ha
 | convert xt dt x=>exact wL hE.ty hlk hs hh ha
 | makeSlice t x y=>exact tZ hE.ty hs hh ha
 | makeInterface t x=>exact op_ifc hE.ty hs hh ha
 | typeAssert x xt t ok=>exact BQ hE.ty hs hh ha
 | slice t x lo hi mx=>exact zE hE.ty hlk hs hh ha
 | fieldAddr t x f=>exact un hE.ty hs hh ha
 | field t x f=>exact AM hE.ty hs hh ha
 | indexAddr t x y=>exact uc hE.ty hlk hs hh ha
 | index t x y=>exact zT hE.ty hs hh ha
 | extract x j=>exact wx hs hh ha
 | call c =>
  obtain ⟨callee,args,tys⟩:=c
  cases callee with
  | builtin b =>
   have hops:(Op.call ⟨.builtin b,args,tys⟩).operands.toList=args.toList:=by simp [Op.operands,Call.operands]
   simp only [hops] at hh
   simp only [opL] at hh
   unfold dM at hh
   split at hh
   ·rename_i x ty hargs htys
    obtain ⟨ox,rfl,hox⟩:=list1 hargs
    have:=arr1 htys
    subst this
    split at hh
    ·rename_i d hT
     rw [<- hox] at hh
     exact wW hlk hs (hE.ty _ _ hT) hh ha
    ·exact hh.elim
   ·rename_i s x ty ty' hargs htys
    obtain ⟨os,ox,rfl,hos,hox⟩:=list2 hargs
    have:=arr2 htys
    subst this
    split at hh
    ·rename_i e1 d hel
     cases hb:Nat.beq ty ty' with
     | false =>
      simp only [hb,cond_false] at hh
      split at hh
      ·rename_i hu
       rw [<- hos,<- hox] at hh
       exact qv hE.ty hlk hs hel hu rfl hh ha
      ·exact hh.elim
     | true =>
      simp only [hb,cond_true] at hh
      have:=(am _ _).1 hb
      subst this
      rw [<- hos,<- hox] at hh
      exact r9 hE.ty hlk hs hel hh ha
    ·exact hh.elim
   ·rename_i s x ty ty' hargs htys
    obtain ⟨os,ox,rfl,hos,hox⟩:=list2 hargs
    have:=arr2 htys
    subst this
    split at hh
    ·rename_i e1 d hel
     cases hb:Nat.beq ty ty' with
     | false=>simp [hb,Prg.hits] at hh
     | true =>
      simp only [hb,cond_true] at hh
      have:=(am _ _).1 hb
      subst this
      rw [<- hos,<- hox] at hh
      exact u9 hE.ty hlk hs hel hh ha
    ·exact hh.elim
   ·rename_i s ty hargs htys
    obtain ⟨os,rfl,hos⟩:=list1 hargs
    have:=arr1 htys
    subst this
    split at hh
    ·rename_i e1 d hel
     rw [<- hos] at hh
     exact ui hE.ty hlk hs hel hh ha
    ·exact hh.elim
   ·rename_i x y hargs
    obtain ⟨ox,oy,rfl,hox,hoy⟩:=list2 hargs
    rw [<- hox,<- hoy] at hh
    exact ra hs hh ha
   ·rename_i x y hargs
    obtain ⟨ox,oy,rfl,hox,hoy⟩:=list2 hargs
    rw [<- hox,<- hoy] at hh
    exact ra hs hh ha
   ·exact hh.elim
  | value f =>
   cases f with
   | func f =>
    have hops:(Op.call ⟨.value (.func f),args,tys⟩).operands.toList=.func f :: args.toList:=by simp [Op.operands,Call.operands]
    simp only [hops,List.map_cons] at hh
    exact Bw hE.call hE.ty hlk hs hh ha
   | tmp t =>
    have hops:(Op.call ⟨.value (.tmp t),args,tys⟩).operands.toList=.tmp t :: args.toList:=by simp [Op.operands,Call.operands]
    simp only [hops,List.map_cons] at hh
    exact op_dyn hE.call hE.ty hlk hs hh ha
   | _=>simp [opL,Prg.hits] at hh
  | invoke r m=>simp [opL,Prg.hits] at hh
 | _=>simp [opL,Prg.hits] at hh
def AV.nf:AV->AV
 | .one (.t (.lit (.bool b)))=>.bl b
 | .tv (.lit (.bool b))=>.bl b
 | v=>v
def Eff.nfE:Eff->Eff
 | .val v=>.val v.nf
 | .new b v=>.new b v.nf
 | .upd i b v=>.upd i b v.nf
 | .gen ps v=>.gen ps v.nf
def ASt.nfS (st:ASt):ASt:=⟨st.slots.map AV.nf,st.boxes,st.out⟩
theorem az (v:AV):v.nf=v\/∃ b,v.nf=.bl b/\(v=.one (.t (.lit (.bool b)))\/v=.tv (.lit (.bool b))):=by
 unfold AV.nf
 split
 ·exact .inr ⟨_,rfl,.inl rfl⟩
 ·exact .inr ⟨_,rfl,.inr rfl⟩
 ·exact .inl rfl
theorem tz (v:AV):v.nf.nf=v.nf:=by
 rcases az v with h | ⟨b,h,_⟩
 ·rw [h,h]
 ·rw [h]; rfl
theorem fK (v:AV):v.nf.tv? = v.tv? := by
 rcases az v with h | ⟨b,h,rfl | rfl⟩
 ·rw [h]
 ·rfl
 ·rfl
theorem zF {v:AV} {u:Value}:bu w g look v.nf u ↔ bu w g look v u:=by
 rcases az v with h | ⟨b,h,rfl | rfl⟩
 ·rw [h]
 ·rw [h]
  constructor
  ·intro h'
   have:u=.bool b:=h'
   subst this
   exact ⟨.lit _,rfl⟩
  ·intro h'
   exact be h'.1
 ·rw [h]
  constructor
  ·intro h'
   have:u=.bool b:=h'
   subst this
   exact .lit _
  ·intro h'
   exact be h'
theorem lH (v:AV):v.nf.dm=v.dm:=by
 rcases az v with h | ⟨b,h,rfl | rfl⟩
 ·rw [h]
 ·rw [h]; rfl
 ·rw [h]; rfl
theorem bR (e:Eff):cN e.nfE=cN e:=by cases e <;> simp only [Eff.nfE,cN,lH]
theorem mN (e:Eff):e.nfE.plain=e.plain:=by cases e <;> rfl
theorem uW (base:Nat) (own:List (List Nat × List Nat)) (e:Eff):e.nfE.lX base own=e.lX base own:=by cases e <;> rfl
theorem vL {S:Type} {agg:Bool} {n:Nat} {v:AV} {k k':List CA->Prg S} {e:S} (hk:∀ cs,(k cs).hits C e->(k' cs).hits C e) (h:(v.aP agg n k).hits C e):(v.aP agg n k').hits C e:=by
 unfold AV.aP at h ⊢
 split at h
 ·rename_i c
  cases hc:c.kept with
  | true=>rw [hc] at h; exact hk _ h
  | false=>rw [hc] at h; exact h.elim
 ·exact ⟨h.1,hk _ h.2⟩
 ·exact hk _ h
 ·exact hk _ h
 ·rename_i cs
  cases hc:cs.length.beq n with
  | true=>rw [hc] at h; exact hk _ h
  | false=>rw [hc] at h; exact h.elim
 ·exact ⟨h.1,hk _ h.2⟩
 ·exact h.elim
theorem eN {S:Type} {agg:Bool} {n:Nat} {v:AV} {k:List CA->Prg S} {e:S} (h:(v.aP agg n k).hits C e):(v.nf.aP agg n k).hits C e:=by
 rcases az v with h1 | ⟨b,h1,rfl | rfl⟩
 ·rwa [h1]
 ·rw [h1]
  cases agg with
  | false=>exact h
  | true=>exact h.elim
 ·rw [h1]
  cases agg with
  | false=>exact h.2
  | true=>exact (by simp [AV.aP,TV.isAgg,Prg.hits] at h)
theorem kJ {S:Type} {e:S}:∀ {vs:List AV} {k:List CA->Prg S},(jG vs k).hits C e->(jG (vs.map AV.nf) k).hits C e
 | [],k,h=>h
 | x :: vs, k, h => by
  simp only [jG,List.map_cons] at h ⊢
  refine eN ?_
  unfold AV.aP at h ⊢
  split at h
  ·rename_i c _
   cases hc:c.kept with
   | false=>simp [hc,Prg.hits] at h
   | true=>simp only [hc,cond_true] at h ⊢; exact kJ h
  ·exact ⟨h.1,kJ h.2⟩
  ·exact kJ h
  ·exact kJ h
  ·rename_i cs' hb; cases hb
  ·rename_i cs' hb; cases hb
  ·exact h.elim
theorem iV {f:FuncId} {e:Eff}:∀ {vs:List AV} {k:List CA->List CA},(jG vs fun cs=>(.ret (.val (.clo f (k cs))):Out)).hits C e->∃ cs,e=.val (.clo f cs)
 | [],k,h=>⟨_,h.symm⟩
 | x :: vs, k, h => by
  simp only [jG] at h
  unfold AV.aP at h
  split at h
  ·rename_i c _
   cases hc:c.kept with
   | false=>simp [hc,Prg.hits] at h
   | true=>simp only [hc,cond_true] at h; exact iV (k:=fun cs=>k (_ ++ cs)) h
  ·exact iV (k:=fun cs=>k (_ ++ cs)) h.2
  ·exact iV (k:=fun cs=>k (_ ++ cs)) h
  ·exact iV (k:=fun cs=>k (_ ++ cs)) h
  ·rename_i hb; cases hb
  ·rename_i hb; cases hb
  ·exact h.elim
theorem pT {S:Type} {at_:Nat->Option (Nat × Bool × Nat)} {k:List CA->Prg S} {e:S}:∀ {is:List Nat} {vs:List AV} {cs:List CA},(bG at_ is vs cs k).hits C e->(bG at_ is (vs.map AV.nf) cs k).hits C e
 | [],[],cs,h=>h
 | i :: is, x :: vs, cs, h => by
  simp only [bG,List.map_cons] at h ⊢
  split at h
  ·rename_i off agg n hat
   have key:∀ ps,((bif (off + ps.length).ble cs.length && ps.length.beq n then bG at_ is vs (bC cs off ps) k else .fail):Prg S).hits C e->((bif (off + ps.length).ble cs.length && ps.length.beq n then bG at_ is (vs.map AV.nf) (bC cs off ps) k else .fail):Prg S).hits C e:=by
    intro ps hp
    cases hb:(off + ps.length).ble cs.length && ps.length.beq n with
    | false=>simp [hb,Prg.hits] at hp
    | true=>simp only [hb,cond_true] at hp ⊢; exact pT hp
   refine eN ?_
   unfold AV.aP at h ⊢
   split at h
   ·rename_i c
    cases hc:c.kept with
    | false=>simp [hc,Prg.hits] at h
    | true=>simp only [hc,cond_true] at h ⊢; exact key _ h
   ·exact ⟨h.1,key _ h.2⟩
   ·exact key _ h
   ·exact key _ h
   ·rename_i cs'
    have:=key cs'
    cases hc:cs'.length.beq n with
    | false=>simp [hc,Prg.hits] at h
    | true=>simp only [hc,cond_true] at h this ⊢; exact this h
   ·exact ⟨h.1,key _ h.2⟩
   ·exact h.elim
  ·exact h.elim
 | [],_ :: _,cs,h=>h.elim
 | _ :: _,[],cs,h=>h.elim
theorem uu {S:Type} {v:AV} {k:TV->Prg S}:rV look v.nf k=rV look v k:=by
 rcases az v with h | ⟨b,h,rfl | rfl⟩
 ·rw [h]
 ·rfl
 ·rfl
theorem Ai {S:Type} {v:AV} {k:TV->Prg S}:rl look v.nf k=rl look v k:=by
 rcases az v with h | ⟨b,h,rfl | rfl⟩
 ·rw [h]
 ·rfl
 ·rfl
theorem A3 {S:Type} {v:AV} {k:TV->List (Nat × Nat)->Prg S}:qD look v.nf k=qD look v k:=by
 rcases az v with h | ⟨b,h,rfl | rfl⟩
 ·rw [h]
 ·rfl
 ·rfl
theorem jk {S:Type}:∀ {vs:List AV} {k:List TV->Prg S},lends look (vs.map AV.nf) k=lends look vs k
 | [],k=>rfl
 | v :: vs,k=>by simp only [List.map_cons,lends,Ai,jk]
theorem qW {S:Type}:∀ {vs:List AV} {k:List TV->List (Nat × Nat)->Prg S},hands look (vs.map AV.nf) k=hands look vs k
 | [],k=>rfl
 | v :: vs,k=>by simp only [List.map_cons,hands,A3,qW]
theorem A6 {E:Env} {id:Nat} {look:Look} {f:FuncId} {ld:eQ} (vs:List AV):nz E id look f ld (vs.map AV.nf)=nz E id look f ld vs:=by
 cases vs with
 | nil=>rfl
 | cons v l =>
  rcases az v with h | ⟨b,h,rfl | rfl⟩
  ·simp only [List.map_cons,h]
   cases v with
   | one c =>
    cases c with
    | ptr i off =>
     cases off with
     | zero=>simp only [nz,qW]
     | succ n=>rfl
    | _=>rfl
   | _=>rfl
  ·simp only [List.map_cons,h]; rfl
  ·simp only [List.map_cons,h]; rfl
theorem Av {look:Look} {f:FuncId} {c:Nat × Nat} (vs:List AV):m7 look f c (vs.map AV.nf)=m7 look f c vs:=by
 cases vs with
 | nil=>rfl
 | cons v l =>
  rcases az v with h | ⟨b,h,rfl | rfl⟩
  ·simp only [List.map_cons,h]
   cases v with
   | one c =>
    cases c with
    | ptr i off =>
     cases off with
     | zero=>simp only [m7,jk]
     | succ n=>rfl
    | _=>rfl
   | _=>rfl
  ·simp only [List.map_cons,h]; rfl
  ·simp only [List.map_cons,h]; rfl
theorem zX {look:Look} {f:FuncId} (vs:List AV):kX look f (vs.map AV.nf)=kX look f vs:=by
 cases vs with
 | nil=>rfl
 | cons v l =>
  rcases az v with h | ⟨b,h,rfl | rfl⟩
  ·simp only [List.map_cons,h]
   cases v with
   | one c=>cases c <;> simp only [kX,jk]
   | _=>rfl
  ·simp only [List.map_cons,h]; rfl
  ·simp only [List.map_cons,h]; rfl
theorem BU {E:Env} {id:Nat} {look:Look} {f:FuncId} {i:Nat} (vs:List AV):vq E id look f i (vs.map AV.nf)=vq E id look f i vs:=by
 simp only [vq,jk]
theorem Bt (d:TyD) (t:TypeId) (v:AV):Aw d t v.nf=Aw d t v:=by
 rcases az v with h | ⟨b,h,rfl | rfl⟩
 ·rw [h]
 ·rfl
 ·rfl
theorem zq (d:TyD) (t:TypeId) (v:AV):sS d t v.nf=sS d t v:=by
 simp only [sS,fK]
theorem yi {S:Type} {v:Option AV} {k:Option Nat->Prg S}:fd (v.map AV.nf) k=fd v k:=by
 cases v with
 | none=>rfl
 | some v=>simp only [fd,CM,fK]
theorem tK (v:AV):ru v.nf=ru v:=by
 rcases az v with h | ⟨b,h,rfl | rfl⟩
 ·rw [h]
 ·rfl
 ·rfl
theorem xG {S:Type} {d:TyD} {dest:Option Nat} {v:AV} {k:List (List TV)->List Prim->Prg S}:vo look d dest v.nf k=vo look d dest v k:=by
 rcases az v with h | ⟨b,h,rfl | rfl⟩
 ·rw [h]
 ·rfl
 ·rfl
theorem lJ {kd:Kd} {sz:Nat} {x:AV} {lo hi:Option AV}:ik look kd sz x.nf (lo.map AV.nf) (hi.map AV.nf)=ik look kd sz x lo hi:=by
 simp only [ik,fK,yi]
 rcases az x with h | ⟨b,h,rfl | rfl⟩
 ·rw [h]
  cases lo <;> rfl
 ·rfl
 ·rfl
theorem AW (v:AV):sL v.nf=sL v:=by
 rcases az v with h | ⟨b,h,rfl | rfl⟩
 ·rw [h]
 ·rfl
 ·rfl
theorem opL_nf {op : Op} {vs : List AV} {e : Eff} (h : (opL E id look op vs).hits C e) : ∃ e', (opL E id look op (vs.map AV.nf)).hits C e' ∧ e'.nfE = e.nfE := by
 cases op with
 | move x =>
  rcases vs with _ | ⟨v,_ | ⟨v',r⟩⟩ <;> first | exact h.elim | skip
  cases h
  exact ⟨_,rfl,by simp [Eff.nfE,tz]⟩
 | assign x =>
  rcases vs with _ | ⟨v,_ | ⟨v',r⟩⟩ <;> first | exact h.elim | skip
  cases h
  exact ⟨_,rfl,by simp [Eff.nfE,tz]⟩
 | pick c x y =>
  rcases vs with _ | ⟨v,_ | ⟨v',_ | ⟨v'',_ | ⟨v3,r⟩⟩⟩⟩ <;> first | exact h.elim | skip
  simp only [opL] at h
  split at h
  ·rename_i b
   cases h
   refine ⟨_,rfl,?_⟩
   cases b <;> simp [Eff.nfE,tz]
  ·rename_i v
   obtain ⟨b,hb,h⟩:=h
   have hv:v=.lit (.bool b):=by
    unfold asBool at hb
    split at hb
    ·cases hb; rfl
    ·cases hb
   subst hv
   rcases h with ⟨rfl,h⟩ | ⟨rfl,h⟩ <;> (cases h; exact ⟨_,rfl,by simp [Eff.nfE,tz]⟩)
  ·rename_i v
   obtain ⟨b,hb,h⟩:=h
   have hv:v=.lit (.bool b):=by
    unfold asBool at hb
    split at hb
    ·cases hb; rfl
    ·cases hb
   subst hv
   rcases h with ⟨rfl,h⟩ | ⟨rfl,h⟩ <;> (cases h; exact ⟨_,rfl,by simp [Eff.nfE,tz]⟩)
  ·exact h.elim
 | alloc t =>
  rcases vs with _ | ⟨v,r⟩ <;> first | exact h.elim | exact ⟨e,h,rfl⟩
 | box t x =>
  rcases vs with _ | ⟨v,_ | ⟨v',r⟩⟩ <;> first | exact h.elim | skip
  refine ⟨e,?_,rfl⟩
  simp only [opL,List.map_cons,List.map_nil] at h ⊢
  split at h
  ·exact eN h
  ·exact h.elim
 | makeFunc fn first cap =>
  cases fn with
  | func f =>
   have:∃ cs,e=.val (.clo f cs):=by
    simp only [opL] at h
    cases hb:first.size.beq 0 with
    | false=>simp [hb,Prg.hits] at h
    | true =>
     simp only [hb,cond_true] at h
     exact iV (k:=fun l=>l) h
   obtain ⟨cs,rfl⟩:=this
   refine ⟨_,?_,rfl⟩
   simp only [opL] at h ⊢
   cases hb:first.size.beq 0 with
   | false=>simp [hb,Prg.hits] at h
   | true=>simp only [hb,cond_true] at h ⊢; exact kJ h
  | _=>exact h.elim
 | build t parts =>
  refine ⟨e,?_,rfl⟩
  simp only [opL] at h ⊢
  split at h
  ·rename_i d hd
   cases hb:kS E.T d.kd with
   | false=>simp [hb,Prg.hits] at h
   | true=>simp only [hb,cond_true] at h ⊢; exact pT h
  ·exact h.elim
 | buildSlice t len parts =>
  refine ⟨e,?_,rfl⟩
  simp only [opL] at h ⊢
  cases hc:E.cold t && !(len.beq 0) with
  | true =>
   rw [hc] at h
   simp only [cond_true] at h ⊢
   unfold qu at h ⊢
   split at h
   ·exact pT h
   ·exact h.elim
  | false =>
   rw [hc] at h
   simp only [cond_false] at h ⊢
   unfold gW at h ⊢
   split at h
   ·exact pT h
   ·exact h.elim
 | load t x =>
  rcases vs with _ | ⟨v,_ | ⟨v',r⟩⟩ <;> first | exact h.elim | skip
  refine ⟨e,?_,rfl⟩
  rcases az v with h1 | ⟨b,h1,rfl | rfl⟩
  ·simpa only [List.map_cons,List.map_nil,h1] using h
  ·simp only [opL] at h; split at h <;> exact h.elim
  ·simp only [opL] at h; split at h <;> exact h.elim
 | store t x y =>
  rcases vs with _ | ⟨v,_ | ⟨v',_ | ⟨v'',r⟩⟩⟩ <;> first | exact h.elim | skip
  refine ⟨e,?_,rfl⟩
  simp only [opL,List.map_cons,List.map_nil] at h ⊢
  split at h
  ·rcases az v with h1 | ⟨b,h1,rfl | rfl⟩
   ·rw [h1]
    unfold ue at h ⊢
    split at h
    ·rename_i e0 _ _ i0 off0 len0 n0
     cases hk0:e0.kd.isAgg with
     | true=>rw [hk0] at h; exact h.elim
     | false =>
      rw [hk0] at h
      simp only [cond_false] at h ⊢
      split at h
      ·exact eN h
      ·exact h.elim
    ·exact eN h
    ·exact eN h
    ·exact h.elim
   ·exact h.elim
   ·exact h.elim
  ·exact h.elim
 | nilCheck x =>
  rcases vs with _ | ⟨v,_ | ⟨v',r⟩⟩ <;> first | exact h.elim | skip
  refine ⟨e,?_,rfl⟩
  rcases az v with h1 | ⟨b,h1,rfl | rfl⟩
  ·simpa only [List.map_cons,List.map_nil,h1] using h
  ·exact h.elim
  ·exact h.elim
 | binOp op xt x y yt =>
  rcases vs with _ | ⟨v,_ | ⟨v',_ | ⟨v'',r⟩⟩⟩ <;> first | exact h.elim | skip
  refine ⟨e,?_,rfl⟩
  simp only [opL,List.map_cons,List.map_nil] at h ⊢
  split at h
  ·unfold B4 at h ⊢
   split at h
   ·split at h
    ·exact eN (vL (fun cs h=>eN h) h)
    ·exact h.elim
   ·simp only [BY,AW] at h ⊢
    exact h
   ·simp only [BD,uu,fK] at h ⊢
    exact h
  ·exact h.elim
 | unOp op xt x =>
  rcases vs with _ | ⟨v,_ | ⟨v',r⟩⟩ <;> first | exact h.elim | skip
  rcases az v with h1 | ⟨b,h1,h2⟩
  ·refine ⟨e,?_,rfl⟩
   simpa only [List.map_cons,List.map_nil,h1] using h
  ·have hv:∃ t,(opL E id look (.unOp op xt x) [v]).hits C e->(Prg.tv (pun op (.lit (.bool b))) vt).hits C e:=⟨(),by rcases h2 with rfl | rfl <;> intro h <;> cases op <;> exact h⟩
   obtain ⟨_,hv⟩:=hv
   obtain ⟨z,hz,hh⟩:=hv h
   cases op with
   | not =>
    simp only [pun,Cz] at hz
    subst hz
    cases hh
    refine ⟨.val (.bl !b),?_,rfl⟩
    simp only [List.map_cons,List.map_nil,h1]
    rfl
   | _=>simp [pun] at hz
 | convert xt dt x =>
  rcases vs with _ | ⟨v,_ | ⟨v',r⟩⟩ <;> first | exact h.elim | skip
  refine ⟨e,?_,rfl⟩
  simp only [opL,List.map_cons,List.map_nil,xq,fK,uu] at h ⊢
  exact h
 | makeSlice t x y =>
  rcases vs with _ | ⟨v,_ | ⟨v',_ | ⟨v'',r⟩⟩⟩ <;> first | exact h.elim | skip
  refine ⟨e,?_,rfl⟩
  simp only [opL,List.map_cons,List.map_nil,fK] at h ⊢
  exact h
 | slice t x lo hi mx =>
  refine ⟨e,?_,rfl⟩
  cases mx with
  | some m=>rcases vs with _ | ⟨v,r⟩ <;> exact h.elim
  | none =>
   rcases vs with _ | ⟨v,r⟩
   ·exact h.elim
   ·simp only [opL, List.map_cons] at h ⊢
    split at h
    ·rename_i d hT
     split at h
     ·rename_i sz hsz
      cases lo with
      | none =>
       cases hi with
       | none =>
        rcases r with _ | ⟨l,r⟩
        ·have:=lJ (look:=look) (kd:=d.kd) (sz:=sz) (x:=v) (lo:=none) (hi:=none)
         simp only [Option.map_none] at this
         simp only [List.map_nil]
         rw [this]; exact h
        ·exact h.elim
       | some hh =>
        rcases r with _ | ⟨l,_ | ⟨l',r⟩⟩
        ·exact h.elim
        ·have:=lJ (look:=look) (kd:=d.kd) (sz:=sz) (x:=v) (lo:=none) (hi:=some l)
         simp only [Option.map_none,CM] at this
         simp only [List.map_cons,List.map_nil]
         rw [this]; exact h
        ·exact h.elim
      | some ll =>
       cases hi with
       | none =>
        rcases r with _ | ⟨l,_ | ⟨l',r⟩⟩
        ·exact h.elim
        ·have:=lJ (look:=look) (kd:=d.kd) (sz:=sz) (x:=v) (lo:=some l) (hi:=none)
         simp only [Option.map_none,CM] at this
         simp only [List.map_cons,List.map_nil]
         rw [this]; exact h
        ·exact h.elim
       | some hh =>
        rcases r with _ | ⟨l,_ | ⟨l',_ | ⟨l'',r⟩⟩⟩
        ·exact h.elim
        ·exact h.elim
        ·have:=lJ (look:=look) (kd:=d.kd) (sz:=sz) (x:=v) (lo:=some l) (hi:=some l')
         simp only [CM] at this
         simp only [List.map_cons,List.map_nil]
         rw [this]; exact h
        ·exact h.elim
     ·exact h.elim
    ·exact h.elim
 | fieldAddr t x f =>
  rcases vs with _ | ⟨v,_ | ⟨v',r⟩⟩ <;> first | exact h.elim | skip
  refine ⟨e,?_,rfl⟩
  rcases az v with h1 | ⟨b,h1,rfl | rfl⟩
  ·simpa only [List.map_cons,List.map_nil,h1] using h
  ·simp only [opL] at h
   split at h
   ·rename_i hv
    cases hv
    split at h
    ·rename_i n _ _
     cases hb:Nat.blt 0 n <;> simp [hb,CA.add,Prg.hits] at h
    ·exact h.elim
   ·exact h.elim
  ·simp only [opL] at h
   split at h
   ·rename_i hv; cases hv
   ·exact h.elim
 | field t x f =>
  rcases vs with _ | ⟨v,_ | ⟨v',r⟩⟩ <;> first | exact h.elim | skip
  refine ⟨e,?_,rfl⟩
  rcases az v with h1 | ⟨b,h1,rfl | rfl⟩
  ·simpa only [List.map_cons,List.map_nil,h1] using h
  ·simp only [opL] at h
   split at h
   ·split at h <;> exact h.elim
   ·exact h.elim
  ·simp only [opL] at h
   split at h
   ·split at h
    ·simp [ut,TV.isAgg,Prg.hits] at h
    ·exact h.elim
   ·exact h.elim
 | indexAddr t x y =>
  rcases vs with _ | ⟨v,_ | ⟨v',_ | ⟨v'',r⟩⟩⟩ <;> first | exact h.elim | skip
  refine ⟨e,?_,rfl⟩
  simp only [opL,List.map_cons,List.map_nil] at h ⊢
  split at h
  ·rcases az v with h1 | ⟨b,h1,rfl | rfl⟩
   ·simp only [h1,oe,fK] at h ⊢; exact h
   ·simp only [oe,fK] at h ⊢; exact h
   ·simp only [oe,fK] at h ⊢; exact h
  ·unfold pY at h ⊢
   rw [fK]
   rcases az v with h1 | ⟨b,h1,rfl | rfl⟩
   ·rw [h1]; exact h
   ·split at h
    ·split at h <;> first | exact h.elim | (rename_i hx _; cases hx)
    ·exact h.elim
   ·split at h
    ·split at h <;> first | exact h.elim | (rename_i hx _; cases hx)
    ·exact h.elim
 | index t x y =>
  rcases vs with _ | ⟨v,_ | ⟨v',_ | ⟨v'',r⟩⟩⟩ <;> first | exact h.elim | skip
  refine ⟨e,?_,rfl⟩
  simp only [opL,List.map_cons,List.map_nil,fK] at h ⊢
  split at h
  ·exact h
  ·unfold pU at h ⊢
   rw [fK]
   rcases az v with h1 | ⟨b,h1,rfl | rfl⟩
   ·rw [h1]; exact h
   ·split at h
    ·split at h <;> first | exact h.elim | (rename_i hx _; cases hx)
    ·exact h.elim
   ·split at h
    ·split at h <;> first | exact h.elim | (rename_i hx _; cases hx)
    ·exact h.elim
 | extract x j =>
  rcases vs with _ | ⟨v,_ | ⟨v',r⟩⟩ <;> first | exact h.elim | skip
  refine ⟨e,?_,rfl⟩
  rcases az v with h1 | ⟨b,h1,rfl | rfl⟩
  ·simpa only [List.map_cons,List.map_nil,h1] using h
  ·exact h.elim
  ·exact h.elim
 | call c =>
  refine ⟨e,?_,rfl⟩
  obtain ⟨callee,args,tys⟩:=c
  cases callee with
  | builtin b =>
   simp only [opL] at h ⊢
   unfold dM at h
   split at h
   ·rename_i x ty htys
    simp only [htys,dM,List.map_cons,List.map_nil]
    split at h
    ·rename_i d hd
     have key:∀ kd,(wv look kd x).hits C e->(wv look kd x.nf).hits C e:=by intro kd; cases kd <;> simp only [wv,uu] <;> exact fun h=>h
     exact key _ h
    ·exact h.elim
   ·rename_i s x ty ty' htys
    simp only [htys,dM,List.map_cons,List.map_nil]
    split at h
    ·rename_i _ d hel
     cases hb:Nat.beq ty ty' with
     | false =>
      simp only [hb,cond_false] at h ⊢
      split at h
      ·rename_i hu
       unfold kU at h ⊢
       rw [fK]
       rcases az s with h1 | ⟨b,h1,rfl | rfl⟩
       ·rw [h1]; exact h
       ·exact h
       ·exact h
      ·exact h.elim
     | true =>
      simp only [hb,cond_true] at h ⊢
      unfold nk at h ⊢
      rw [xG,tK]
      rcases az s with h1 | ⟨b,h1,rfl | rfl⟩
      ·rw [h1]; exact h
      ·exact h
      ·exact h
    ·exact h.elim
   ·rename_i s x ty ty' htys
    simp only [htys,dM,List.map_cons,List.map_nil]
    split at h
    ·rename_i _ d hel
     cases hb:Nat.beq ty ty' with
     | false=>simp [hb,Prg.hits] at h
     | true =>
      simp only [hb,cond_true] at h ⊢
      unfold xm at h ⊢
      rw [xG,tK]
      rcases az s with h1 | ⟨b,h1,rfl | rfl⟩
      ·rw [h1]; exact h
      ·exact h
      ·exact h
    ·exact h.elim
   ·rename_i s ty htys
    simp only [htys,dM,List.map_cons,List.map_nil]
    split at h
    ·unfold tR at h ⊢
     rcases az s with h1 | ⟨b,h1,rfl | rfl⟩
     ·rw [h1]; exact h
     ·exfalso
      revert h
      cases Nat.blt 0 _ <;> exact fun h=>h.elim
     ·exfalso
      revert h
      cases Nat.blt 0 _ <;> exact fun h=>h.elim
    ·exact h.elim
   ·simp only [dM,List.map_cons,List.map_nil,vv,fK] at h ⊢
    exact h
   ·simp only [dM,List.map_cons,List.map_nil,vv,fK] at h ⊢
    exact h
   ·exact h.elim
  | value f =>
   cases f with
   | func f =>
    rcases vs with _ | ⟨v,r⟩
    ·exact h.elim
    ·simp only [opL,List.map_cons,lV,jk,qW,A6,Av,zX] at h ⊢
     exact h
   | tmp t =>
    rcases vs with _ | ⟨v,r⟩
    ·exact h.elim
    ·simp only [opL,List.map_cons,fK,jk,BU] at h ⊢
     rcases az v with h1 | ⟨b,h1,rfl | rfl⟩
     ·rw [h1]; exact h
     ·exact h
     ·exact h
   | _=>exact h.elim
  | invoke r m=>exact h.elim
 | makeInterface t x =>
  rcases vs with _ | ⟨v,_ | ⟨v',r⟩⟩ <;> first | exact h.elim | skip
  refine ⟨e,?_,rfl⟩
  simp only [opL,List.map_cons,List.map_nil,Bt] at h ⊢
  exact h
 | typeAssert x xt t ok =>
  rcases vs with _ | ⟨v,_ | ⟨v',r⟩⟩ <;> cases ok <;> first | exact h.elim | skip
  refine ⟨e,?_,rfl⟩
  simp only [opL,List.map_cons,List.map_nil,zq] at h ⊢
  exact h
 | _=>exact h.elim
theorem kz (st:ASt):st.nfS.look=st.look:=rfl
theorem np (st:ASt):st.nfS.base=st.base:=rfl
theorem tV (st:ASt) (d:Option Tmp):st.nfS.nid d=st.nid d:=by cases d <;> rfl
theorem ir (st:ASt) (d:Option Tmp) (v:AV):(st.put d v).nfS=st.nfS.put d v.nf:=by
 cases d with
 | none=>rfl
 | some d=>simp [ASt.nfS,ASt.put,ag,List.map_set]
theorem qA (st:ASt) (i:Nat) (b:Option BC):(st.ab i b).nfS=st.nfS.ab i b:=rfl
theorem jh (st:ASt) (t:Nat):nth (.one .junk) st.nfS.slots t=(nth (.one .junk) st.slots t).nf:=by
 simp only [ASt.nfS,aI,CE]
 cases st.slots[t]? <;> rfl
theorem yr (ps:List Nat) (st:ASt) (d:Option Nat) (e:Eff):bS ps st.nfS d e.nfE=bS ps st d e:=by
 unfold bS
 congr 1
 funext k
 cases d with
 | none=>rw [np,bR]
 | some d=>simp only [np,bR,jh,lH]
theorem nE (k s:Nat):∀ (l:List AV) (n:Nat),eK k s n (l.map AV.nf)=eK k s n l
 | [],n=>rfl
 | v :: l,n=>by simp only [List.map_cons,eK,lH,nE k s l (n + 1)]
theorem vS {k:Nat} {v:AV} (h:iX k v=true):iX k v.nf=true:=by
 unfold iX at h
 split at h
 ·exact h
 ·cases h
theorem gZ {e:Eff} {i:Nat} {y:TV} (h:iU e=some (i,y)):e=.gen [.drop i 0 [] false,.root i 0 y] (.one (.sref i 0 [])):=by
 unfold iU at h
 split at h
 ·rename_i i' j y' k
  cases hb:i'.beq j && i'.beq k with
  | false=>rw [hb] at h; cases h
  | true =>
   simp only [hb,cond_true,Cz,Prod.mk.injEq] at h
   simp only [CB] at hb
   obtain ⟨rfl,rfl⟩:=h
   rw [<- (am _ _).1 hb.1,<- (am _ _).1 hb.2]
 ·cases h
theorem lS (i:Nat) (y:TV):iU (.gen [.drop i 0 [] false,.root i 0 y] (.one (.sref i 0 [])))=some (i,y):=by
 simp only [iU,(am i i).2 rfl,Bool.and_self,cond_true]
theorem yS {o:Item} {st:ASt} {e:Eff} (h:cD o st e=true):cD o st.nfS e.nfE=true:=by
 unfold cD at h ⊢
 split at h
 ·rename_i s i y h1 h2
  have:=gZ h2
  subst this
  simp only [CB] at h
  simp only [h1,Eff.nfE,AV.nf,lS,CB]
  refine ⟨⟨⟨⟨⟨h.1.1.1.1.1,?_⟩,h.1.1.1.2⟩,?_⟩,h.1.2⟩,h.2⟩
  ·rw [jh]; exact vS h.1.1.1.1.2
  ·rw [show st.nfS.slots=st.slots.map AV.nf from rfl,nE]; exact h.1.1.2
 ·cases h
theorem qB (st:ASt) (x:Operand):st.nfS.ev x=(st.ev x).nf:=by
 cases x with
 | tmp t=>exact jh st t
 | const v =>
  cases v with
  | bool b=>rfl
  | _=>first | rfl | (simp only [ASt.ev]; cases Value.oneCell' _ <;> rfl)
 | global g=>rfl
 | func f=>rfl
theorem rk:∀ (l:List AV),bV (l.map AV.nf)=bV l
 | []=>rfl
 | v :: l=>by simp only [List.map_cons,bV,fK,rk l]
theorem j4 (e:Eff):gP e.nfE=gP e:=by
 cases e with
 | new b v=>cases b <;> rfl
 | _=>rfl
theorem zh {i:Item} {st:ASt} {e:Eff}:gp i st.nfS e.nfE=gp i st e:=by
 unfold gp
 have:i.o.op.operands.toList.map st.nfS.ev=(i.o.op.operands.toList.map st.ev).map AV.nf:=by
  rw [List.map_map]
  exact List.map_congr_left fun x _=>qB st x
 rw [this,rk,j4,bR]
 rfl
theorem vb:∀ (l:List AV),fj (l.map AV.nf)=fj l
 | []=>rfl
 | v :: l=>by simp only [List.map_cons,fj,lH,vb l]
theorem oc (e:Eff):kq e.nfE=kq e:=by cases e <;> rfl
theorem wc (e:Eff):drE e.nfE=drE e:=by cases e <;> rfl
theorem qE (k:Nat) (e:Eff):sg k e.nfE=sg k e:=by cases e <;> rfl
theorem pO (v:AV):(v.nf.bE CA.deep).dm=(v.bE CA.deep).dm:=by
 rcases az v with h | ⟨b,h,rfl | rfl⟩
 ·rw [h]
 ·rw [h]; rfl
 ·rw [h]; rfl
theorem vl:∀ (l:List AV),fj (bI CA.deep (l.map AV.nf))=fj (bI CA.deep l)
 | []=>rfl
 | v :: l=>by simp only [List.map_cons,bI,fj,pO,vl l]
theorem pd (e:Eff):mH e.nfE=mH e:=by
 cases e with
 | val v=>exact pO v
 | new b v=>exact bR (.new b v)
 | upd i b v=>exact bR (.upd i b v)
 | gen ps v=>exact bR (.gen ps v)
theorem ym {i:Item} {st:ASt} {e:Eff}:bX i st.nfS e.nfE=bX i st e:=by
 unfold bX
 simp only [oc,wc,qE]
 rfl
theorem zd {i:Item} {st:ASt} {e:Eff}:cH i st.nfS e.nfE=cH i st e:=by
 unfold cH
 have hd:∀ d b,iD st.nfS d b=iD st d b:=fun d b=>by
  cases d with
  | none=>rfl
  | some d =>
   have:=qB st (.tmp d)
   simp only [ASt.ev] at this
   simp only [iD,this,lH]
 have hd2:∀ d b,fM st.nfS d b=fM st d b:=fun d b=>by
  cases d with
  | none=>rfl
  | some d =>
   have:=qB st (.tmp d)
   simp only [ASt.ev] at this
   simp only [fM,this,pO]
 simp only [hd,hd2,bR,pd]
 have:i.o.op.operands.toList.map st.nfS.ev=(i.o.op.operands.toList.map st.ev).map AV.nf:=by
  rw [List.map_map]
  exact List.map_congr_left fun x _=>qB st x
 rw [this,vb,vl]
 rfl
theorem okE_nf {i:Item} {st:ASt} {e:Eff} (h:okE i st e=true):okE i st.nfS e.nfE=true:=by
 unfold okE at h ⊢
 rw [Bool.or_eq_true] at h ⊢
 rcases h with h | h
 ·rw [ym]; exact .inl h
 refine .inr ?_
 rw [Bool.or_eq_true] at h ⊢
 rcases h with h | h
 ·rw [mN,uW,np,yr,zh,zd]; exact .inl h
 ·exact .inr (yS h)
theorem uf (hs:Sim w0 I0 st a ov w):Sim w0 I0 st.nfS a ov w:=by
 obtain ⟨g,hs⟩:=hs
 refine ⟨g,hs.below,hs.sub,hs.lt,hs.old,by simp [ASt.nfS,hs.len],hs.defers,fun t v hv=>?_,hs.olen,hs.outs,hs.cells,hs.trees,hs.foot,hs.apart,hs.apartR,hs.res,hs.base,hs.out⟩
 simp only [ASt.nfS,CE] at hv
 cases hsl:st.slots[t]? with
 | none=>simp [hsl] at hv
 | some u =>
  simp only [hsl,CM,Cz] at hv
  subst hv
  exact zF.2 (hs.slots t u hsl)
theorem dQ (hs:Sim w0 I0 st.nfS a ov w):Sim w0 I0 st a ov w:=by
 obtain ⟨g,hs⟩:=hs
 refine ⟨g,hs.below,hs.sub,hs.lt,hs.old,by have:=hs.len; simpa [ASt.nfS] using this,hs.defers,fun t v hv=>?_,hs.olen,hs.outs,hs.cells,hs.trees,hs.foot,hs.apart,hs.apartR,hs.res,hs.base,hs.out⟩
 exact zF.1 (hs.slots t v.nf (by simp [ASt.nfS,hv]))
theorem mW (i r:Nat) (js:List Nat) (b:Bool) (v:AV):(v.bE (CA.drop i r js b)).nf=v.nf.bE (CA.drop i r js b):=by
 rcases az v with h | ⟨b,h,rfl | rfl⟩
 ·rw [h]
  cases v with
  | one c =>
   have key:∀ c:CA,c.drop i r js b=c\/c.drop i r js b=.junk:=fun c=>by
    rcases ej i r js b c with ⟨h,_⟩ | h
    ·exact .inl h
    ·exact .inr h
   simp only [AV.bE]
   rcases key c with h' | h'
   ·rw [h',h]
   ·rw [h']; rfl
  | tv x=>exact h
  | _=>rfl
 ·rfl
 ·rfl
theorem AU (st:ASt) (i r:Nat) (js:List Nat) (b:Bool):(st.ap (CA.drop i r js b)).nfS=st.nfS.ap (CA.drop i r js b):=by
 simp only [ASt.nfS,ASt.ap]
 congr 1
 apply List.ext_getElem?
 intro t
 simp only [CE,lB]
 cases st.slots[t]? with
 | none=>rfl
 | some v=>simp [mW]
theorem ph (i:Nat) (v:AV):(v.bE (CA.unM i)).nf=v.nf.bE (CA.unM i):=by
 cases v with
 | one c =>
  cases c with
  | t x =>
   cases x with
   | lit u=>cases u <;> rfl
   | _=>rfl
  | may j ty =>
   simp only [AV.bE,CA.unM,AV.nf]
   cases j.beq i <;> rfl
  | _=>rfl
 | tv x =>
  cases x with
  | lit u=>cases u <;> rfl
  | _=>rfl
 | _=>rfl
theorem Bx (st:ASt) (i:Nat):(st.ap (CA.unM i)).nfS=st.nfS.ap (CA.unM i):=by
 simp only [ASt.ap,ASt.nfS]
 congr 1
 induction st.slots with
 | nil=>rfl
 | cons v l ih=>simp only [bI,List.map_cons,ph,ih]
theorem sZ {i:Nat} {b:BC} (h:st.bc i b=some st'):st.nfS.bc i b=some st'.nfS:=by
 obtain ⟨h1,h2,rfl⟩:=aZ h
 have h2':i.blt st.nfS.boxes.length=true:=by simpa [ASt.nfS] using h2
 simp only [ASt.bc,kz,h1,h2',cond_true,qA]
theorem pr {d:Option Tmp}:∀ {ps:List Prim} {st st':ASt},ac d ps st=some st'->ac d ps st.nfS=some st'.nfS
 | [],st,st',h=>by simp only [ac,Cz] at h; subst h; rfl
 | p :: ps, st, st', h => by
  simp only [ac] at h ⊢
  cases h1:p.app st d with
  | none=>simp [h1] at h
  | some s1 =>
   simp only [h1] at h
   have:p.app st.nfS d=some s1.nfS:=by
    cases p with
    | drop i r js b =>
     simp only [Prim.app,Cz] at h1 ⊢
     subst h1
     rw [AU]
    | root i r x =>
     simp only [Prim.app,kz] at h1 ⊢
     split at h1
     ·rename_i b hb
      simp only [Cz] at h1
      subst h1
      rfl
     ·cases h1
    | frz i r =>
     simp only [Prim.app,kz] at h1 ⊢
     split at h1
     ·rename_i x hx
      split at h1
      ·rename_i b hb
       simp only [Cz] at h1
       subst h1
       rfl
      ·cases h1
     ·cases h1
    | unmay i =>
     simp only [Prim.app,Cz] at h1 ⊢
     subst h1
     rw [Bx]
    | newB b =>
     cases d with
     | none=>simp [Prim.app] at h1
     | some d =>
      simp only [Prim.app] at h1 ⊢
      rw [tV]
      exact sZ h1
    | setB i cs =>
     simp only [Prim.app,kz] at h1 ⊢
     split at h1
     ·simp only [Cz] at h1
      subst h1
      rfl
     ·cases h1
   rw [this]
   exact pr h
theorem app_nf {e:Eff} {d:Option Tmp} (h:e.app st d=some st'):e.nfE.app st.nfS d=some st'.nfS:=by
 cases e with
 | val v =>
  simp only [Eff.app,Eff.nfE,Cz] at h ⊢
  subst h
  rw [ir]
 | new b v =>
  cases d with
  | none=>simp [Eff.app] at h
  | some d =>
   simp only [Eff.app,Eff.nfE] at h ⊢
   rw [tV]
   split at h
   ·rename_i s1 hs1
    simp only [Cz] at h
    subst h
    rw [sZ hs1]
    simp only [ir]
   ·cases h
 | upd i b v =>
  simp only [Eff.app,Eff.nfE,Cz] at h ⊢
  subst h
  rw [ir,qA]
 | gen ps v =>
  simp only [Eff.app,Eff.nfE] at h ⊢
  split at h
  ·rename_i s1 hs1
   simp only [Cz] at h
   subst h
   rw [pr hs1]
   simp only [ir]
  ·cases h
theorem jz {d:Option Tmp} {v:AV} (hs:Sim w0 I0 (st.put d v) a ov w):Sim w0 I0 (st.put d v.nf) a ov w:=by
 apply dQ
 have:=uf hs
 rw [ir] at this ⊢
 rwa [tz]
theorem xM {e:Eff} {d:Option Tmp} (h:e.nfE.app st d=some st'):∃ st1,e.app st d=some st1/\∀ w0 I0 a ov w,Sim w0 I0 st1 a ov w->Sim w0 I0 st' a ov w:=by
 cases e with
 | val v =>
  simp only [Eff.app,Eff.nfE,Cz] at h ⊢
  subst h
  exact ⟨_,rfl,fun w0 I0 a ov w hs=>jz hs⟩
 | new b v =>
  cases d with
  | none=>simp [Eff.app,Eff.nfE] at h
  | some d =>
   simp only [Eff.app,Eff.nfE] at h ⊢
   split at h
   ·rename_i s1 hs1
    simp only [Cz] at h
    subst h
    exact ⟨_,rfl,fun w0 I0 a ov w hs=>jz hs⟩
   ·cases h
 | upd i b v =>
  simp only [Eff.app,Eff.nfE,Cz] at h ⊢
  subst h
  exact ⟨_,rfl,fun w0 I0 a ov w hs=>jz hs⟩
 | gen ps v =>
  simp only [Eff.app,Eff.nfE] at h ⊢
  split at h
  ·rename_i s1 hs1
   simp only [Cz] at h
   subst h
   exact ⟨_,rfl,fun w0 I0 a ov w hs=>jz hs⟩
  ·cases h
end
end Go.Ab
end
section
namespace Go.Ab
open Go.RowKit
def Prg.All {R:Type} (p:R->Prop):Prg R->Prop
 | .fail=>True
 | .ret e=>p e
 | .tv _ k=>∀ v,(k v).All p
 | .tvs _ k=>∀ v,(k v).All p
 | .rws _ k=>∀ v,(k v).All p
 | .nat _ k=>∀ v,(k v).All p
 | .chk _ k=>k.All p
 | .ite _ t e=>t.All p/\e.All p
 | .call _ _ k=>∀ v,(k v).All p
 | .jmp _ _=>True
theorem Prg.All.hits {R:Type} {C:Cal} {p:R->Prop} {e:R}:∀ {o:Prg R},o.All p->o.hits C e->p e
 | .ret e',h,h'=>by cases h'; exact h
 | .tv _ k,h,⟨v,_,h'⟩=>(h v).hits h'
 | .tvs _ k,h,⟨v,_,h'⟩=>(h v).hits h'
 | .rws _ k,h,⟨v,_,h'⟩=>(h v).hits h'
 | .nat _ k,h,⟨v,_,h'⟩=>(h v).hits h'
 | .chk _ k,h,⟨_,h'⟩=>Prg.All.hits (o:=k) h h'
 | .ite _ t e,h,⟨v,_,.inl ⟨_,h'⟩⟩=>Prg.All.hits (o:=t) h.1 h'
 | .ite _ t e,h,⟨v,_,.inr ⟨_,h'⟩⟩=>Prg.All.hits (o:=e) h.2 h'
 | .call _ _ k,h,⟨v,_,h'⟩=>(h v).hits h'
section
variable {E:Env} {look look':Look} {p:Eff->Prop} {id:Nat}
theorem aA {b:Bool} {x y:Out} (hx:x.All p) (hy:y.All p):(bif b then x else y).All p:=by cases b <;> assumption
theorem hM {q:Way} {x:TV} {k:TV->Out} (h:∀ y,(k y).All p):(l8 q x k).All p:=by
 unfold l8
 split
 ·exact h _
 ·exact h
theorem eW {c:CA} {k:TV->Out} (h:∀ y,(k y).All p):(g9 look c k).All p:=by
 unfold g9
 split
 ·exact h _
 ·split
  ·exact hM h
  ·exact trivial
 ·split
  ·exact hM fun y z=>h z
  ·exact trivial
 ·exact trivial
theorem mU {v:AV} {k:TV->Out} (h:∀ y,(k y).All p):(rV look v k).All p:=by
 unfold rV
 split
 ·exact eW h
 ·exact h _
 ·exact h _
 ·exact trivial
theorem sq {c:CA} {k:TV->Out} (h:∀ y,(k y).All p):(qk look c k).All p:=by
 unfold qk
 split
 ·exact h _
 ·exact eW fun y=>h _
 ·exact eW fun y=>h _
 ·exact trivial
theorem tq {k:List TV->Out}:∀ {cs:List CA} {k:List TV->Out},(∀ y,(k y).All p)->(xK look cs k).All p
 | [],k,h=>h _
 | c :: cs,k,h=>sq fun y=>tq (k:=fun _=>.fail) fun ys=>h _
theorem yG {v:AV} {k:TV->Out} (h:∀ y,(k y).All p):(rl look v k).All p:=by
 unfold rl
 split
 ·exact sq h
 ·exact h _
 ·exact tq (k:=fun _=>.fail) fun ys=>h _
 ·exact trivial
 ·exact trivial
 ·exact h _
theorem fk:∀ {vs:List AV} {k:List TV->Out},(∀ y,(k y).All p)->(lends look vs k).All p
 | [],k,h=>h _
 | v :: vs,k,h=>yG fun y=>fk fun ys=>h _
theorem sQ {c:CA} {k:TV->List (Nat × Nat)->Out} (h:∀ y r,(k y r).All p):(qe look c k).All p:=by
 unfold qe
 split
 ·exact h _ _
 ·split
  ·split
   ·exact h _ _
   ·exact fun y=>h _ _
  ·exact trivial
 ·split
  ·split
   ·exact fun y=>h _ _
   ·exact fun z y=>h _ _
  ·exact trivial
 ·exact trivial
theorem tj:∀ {cs:List CA} {k:List TV->List (Nat × Nat)->Out},(∀ y r,(k y r).All p)->(xU look cs k).All p
 | [],k,h=>h _ _
 | c :: cs,k,h=>sQ fun y r=>tj fun ys rs=>h _ _
theorem yT {v:AV} {k:TV->List (Nat × Nat)->Out} (h:∀ y r,(k y r).All p):(qD look v k).All p:=by
 unfold qD
 split
 ·exact sQ h
 ·exact h _ _
 ·exact tj fun ys rs=>h _ _
 ·exact trivial
 ·exact trivial
 ·exact h _ _
theorem oo:∀ {vs:List AV} {k:List TV->List (Nat × Nat)->Out},(∀ y r,(k y r).All p)->(hands look vs k).All p
 | [],k,h=>h _ _
 | v :: vs,k,h=>yT fun y r=>oo fun ys rs=>h _ _
theorem dJ:∀ {cs:List CA} {k:List TV->List Prim->List (Nat × Nat)->Out},(∀ y q r,(k y q r).All p)->(cf look cs k).All p
 | [],k,h=>h _ _ _
 | .t x :: l,k,h=>by
  simp only [cf]
  exact dJ (cs:=l) fun xs ps ts=>h _ _ _
 | .sref i r q :: l, k, h => by
  simp only [cf]
  split
  ·split
   ·exact dJ (cs:=l) fun xs ps ts=>h _ _ _
   ·exact fun y=>dJ (cs:=l) fun xs ps ts=>h _ _ _
  ·exact trivial
 | .swin i r q lo len :: l, k, h => by
  simp only [cf]
  split
  ·split
   ·exact fun y=>dJ (cs:=l) fun xs ps ts=>h _ _ _
   ·exact fun z y=>dJ (cs:=l) fun xs ps ts=>h _ _ _
  ·exact trivial
 | .ptr _ _ :: l,k,h=>trivial
 | .ref _ _ :: l,k,h=>trivial
 | .tptr _ _ _ _ _ :: l,k,h=>trivial
 | .may _ _ :: l,k,h=>trivial
 | .aptr _ _ _ _ :: l,k,h=>trivial
 | .ifp _ _ :: l,k,h=>trivial
 | .fn1 _ _ :: l,k,h=>trivial
 | .yl _ :: l,k,h=>trivial
 | .undef :: l,k,h=>trivial
 | .junk :: l,k,h=>trivial
theorem dD:∀ {cs:List CA} {k:List TV->List Prim->List (Nat × Nat)->Out},(∀ y q r,(k y q r).All p)->(bM look cs k).All p
 | [],k,h=>h _ _ _
 | .t x :: l,k,h=>by
  simp only [bM]
  exact dD (cs:=l) fun xs ps ts=>h _ _ _
 | .sref i r q :: l, k, h => by
  simp only [bM]
  split
  ·split
   ·exact dD (cs:=l) fun xs ps ts=>h _ _ _
   ·exact fun y=>⟨dD (cs:=l) fun xs ps ts=>h _ _ _,fun x'=>dD (cs:=l) fun xs ps ts=>h _ _ _⟩
  ·exact trivial
 | .swin i r q lo len :: l, k, h => by
  simp only [bM]
  split
  ·split
   ·exact fun y=>dD (cs:=l) fun xs ps ts=>h _ _ _
   ·exact fun z y=>dD (cs:=l) fun xs ps ts=>h _ _ _
  ·exact trivial
 | .ptr _ _ :: l,k,h=>trivial
 | .ref _ _ :: l,k,h=>trivial
 | .tptr _ _ _ _ _ :: l,k,h=>trivial
 | .may _ _ :: l,k,h=>trivial
 | .aptr _ _ _ _ :: l,k,h=>trivial
 | .ifp _ _ :: l,k,h=>trivial
 | .fn1 _ _ :: l,k,h=>trivial
 | .yl _ :: l,k,h=>trivial
 | .undef :: l,k,h=>trivial
 | .junk :: l,k,h=>trivial
theorem dN {agg:Bool} {n:Nat} {x:AV} {k:List CA->Out} (h:∀ cs,(k cs).All p):(x.aP agg n k).All p:=by
 unfold AV.aP
 split
 ·rename_i c; cases c.kept <;> first | exact trivial | exact h _
 ·exact h _
 ·exact h _
 ·exact h _
 ·rename_i cs; cases cs.length.beq n <;> first | exact trivial | exact h _
 ·exact h _
 ·exact trivial
theorem mL {at_:Nat->Option (Nat × Bool × Nat)} {k:List CA->Out} (h:∀ cs,(k cs).All p):∀ (is:List Nat) (vs:List AV) (cs:List CA),(bG at_ is vs cs k).All p
 | [],[],cs=>h cs
 | i :: is, x :: vs, cs => by
  simp only [bG]
  split
  ·refine dN (fun ps=>?_)
   exact aA (mL h is vs _) trivial
  ·exact trivial
 | [],_ :: _,cs=>trivial
 | _ :: _,[],cs=>trivial
theorem eG {v:Option AV} {k:Option Nat->Out} (h:∀ n,(k n).All p):(fd v k).All p:=by
 unfold fd
 split
 ·exact h _
 ·split
  ·exact fun v=>h _
  ·exact trivial
abbrev cK (e:Eff):Prop:=∃ v,e=.val v
abbrev cM (e:Eff):Prop:=∃ b v,e=.new b v
theorem vh {d:TyD} {x:List TV} {off:Nat}:(jI d x off).All cK:=by
 unfold jI
 cases d.kd.isAgg
 ·exact ⟨_,rfl⟩
 ·exact ⟨_,rfl⟩
theorem sk:∀ {vs:List AV} {k:List CA->Out},(∀ cs,(k cs).All p)->(jG vs k).All p
 | [],k,h=>h _
 | v :: vs,k,h=>dN fun cs=>sk fun cs'=>h _
theorem B9 {op:Op} (h:aj op=.N) (vs:List AV):(opL E id look op vs).All cK:=by
 cases op with
 | move x=>rcases vs with _ | ⟨v,_ | ⟨v',r⟩⟩ <;> first | exact trivial | exact ⟨_,rfl⟩
 | assign x=>rcases vs with _ | ⟨v,_ | ⟨v',r⟩⟩ <;> first | exact trivial | exact ⟨_,rfl⟩
 | pick c x y =>
  rcases vs with _ | ⟨v,_ | ⟨v',_ | ⟨v'',_ | ⟨v3,r⟩⟩⟩⟩ <;> first | exact trivial | skip
  simp only [opL]
  split <;> first | exact trivial | exact ⟨_,rfl⟩ | exact ⟨⟨_,rfl⟩,⟨_,rfl⟩⟩
 | build t parts =>
  simp only [opL]
  split
  ·refine aA ?_ trivial
   refine mL ?_ _ _ _
   exact fun cs=>⟨_,rfl⟩
  ·exact trivial
 | nilCheck x =>
  rcases vs with _ | ⟨v,_ | ⟨v',r⟩⟩ <;> first | exact trivial | skip
  simp only [opL]
  split <;> first | exact trivial | exact ⟨_,rfl⟩
 | unOp op xt x =>
  rcases vs with _ | ⟨v,_ | ⟨v',r⟩⟩ <;> first | exact trivial | skip
  simp only [opL]
  split
  ·exact ⟨_,rfl⟩
  ·split
   ·exact fun v=>⟨_,rfl⟩
   ·exact trivial
 | fieldAddr t x f =>
  rcases vs with _ | ⟨v,_ | ⟨v',r⟩⟩ <;> first | exact trivial | skip
  simp only [opL]
  split
  ·split
   ·refine aA ?_ trivial
    split <;> first | exact trivial | exact ⟨_,rfl⟩
   ·exact trivial
  ·exact trivial
 | field t x f =>
  rcases vs with _ | ⟨v,_ | ⟨v',r⟩⟩ <;> first | exact trivial | skip
  simp only [opL]
  split
  ·split
   ·unfold ut
    split
    ·split
     ·split <;> first | exact trivial | exact ⟨_,rfl⟩
     ·exact trivial
    ·exact ⟨_,rfl⟩
    ·exact trivial
   ·exact trivial
  ·exact trivial
 | index t x y =>
  rcases vs with _ | ⟨v,_ | ⟨v',_ | ⟨v'',r⟩⟩⟩ <;> first | exact trivial | skip
  simp only [opL]
  split
  ·exact fun v=>⟨_,rfl⟩
  ·unfold pU
   split
   ·split
    ·refine aA ?_ trivial
     split
     ·exact fun k v=>⟨_,rfl⟩
     ·exact trivial
    ·exact trivial
   ·exact trivial
 | extract x j =>
  rcases vs with _ | ⟨v,_ | ⟨v',r⟩⟩ <;> first | exact trivial | skip
  simp only [opL]
  split
  ·split
   ·split <;> first | exact trivial | exact ⟨_,rfl⟩
   ·exact trivial
  ·exact trivial
 | makeFunc fn first cap =>
  cases fn with
  | func f =>
   simp only [opL]
   exact aA (sk fun cs=>⟨_,rfl⟩) trivial
  | _=>exact trivial
 | call c =>
  obtain ⟨callee,args,tys⟩:=c
  cases callee with
  | builtin b=>cases b <;> simp [aj] at h
  | value f=>cases f <;> simp [aj] at h
  | invoke r m=>simp [aj] at h
 | makeInterface t x =>
  rcases vs with _ | ⟨v,_ | ⟨v',r⟩⟩ <;> first | exact trivial | skip
  simp only [opL]
  split
  ·unfold Aw
   refine aA ?_ trivial
   split
   ·exact ⟨_,rfl⟩
   ·split
    ·exact fun v=>⟨_,rfl⟩
    ·exact trivial
  ·exact trivial
 | typeAssert x xt t ok =>
  rcases vs with _ | ⟨v,_ | ⟨v',r⟩⟩ <;> cases ok <;> first | exact trivial | skip
  simp only [opL]
  split
  ·unfold sS
   refine aA ?_ trivial
   split
   ·exact fun v=>⟨_,rfl⟩
   ·exact trivial
  ·exact trivial
 | _=>simp [aj] at h
theorem AG {op:Op} (h:aj op=.R) (vs:List AV):(opL E id look op vs).All cK:=by
 cases op with
 | load t x =>
  rcases vs with _ | ⟨v,_ | ⟨v',r⟩⟩ <;> first | exact trivial | skip
  simp only [opL]
  split
  ·unfold xc
   split
   ·refine aA trivial ?_
    split
    ·exact fun v=>⟨_,rfl⟩
    ·exact trivial
   ·split
    ·split
     ·split
      ·exact ⟨_,rfl⟩
      ·exact trivial
     ·exact trivial
    ·exact trivial
   ·exact vh
   ·split
    ·refine hM (fun s e=>?_)
     simp only [Prg.All]
     split
     ·exact ⟨_,rfl⟩
     ·exact trivial
    ·exact trivial
   ·exact trivial
  ·exact trivial
 | convert xt dt x =>
  rcases vs with _ | ⟨v,_ | ⟨v',r⟩⟩ <;> first | exact trivial | skip
  simp only [opL]
  split
  ·unfold xq
   split
   ·split
    ·exact aA (mU fun y=>fun rows=>fun v=>⟨_,rfl⟩) trivial
    ·exact trivial
   ·split
    ·exact fun v=>⟨_,rfl⟩
    ·exact trivial
  ·exact trivial
 | binOp op xt x y yt =>
  rcases vs with _ | ⟨v,_ | ⟨v',_ | ⟨v'',r⟩⟩⟩ <;> first | exact trivial | skip
  simp only [opL]
  split
  ·unfold B4
   split
   ·split
    ·refine dN fun cs=>dN fun cs'=>?_
     split
     ·exact fun v=>⟨_,rfl⟩
     ·exact trivial
    ·exact trivial
   ·unfold BY
    split
    ·exact ⟨_,rfl⟩
    ·exact ⟨_,rfl⟩
    ·exact trivial
   unfold BD
   refine aA (mU fun x=>mU fun y=>fun v=>⟨_,rfl⟩) ?_
   split
   ·exact fun v=>⟨_,rfl⟩
   ·exact trivial
  ·exact trivial
 | slice t x lo hi mx =>
  have sl:∀ {kd:Kd} {sz:Nat} {x:AV} {lo hi:Option AV},(ik look kd sz x lo hi).All cK:=by
   intro kd sz x lo hi
   unfold ik
   split
   ·exact eG fun lo=>eG fun hi=>fun v=>⟨_,rfl⟩
   ·split
    ·exact eW fun s n=>eG fun lo=>eG fun hi=>⟨_,rfl⟩
    ·split
     ·exact eW fun s=>eG fun hi=>⟨_,rfl⟩
     ·exact eW fun s=>eG fun lo=>eG fun hi=>⟨_,rfl⟩
    ·exact trivial
  cases mx with
  | some m=>rcases vs with _ | ⟨v,r⟩ <;> exact trivial
  | none =>
   rcases vs with _ | ⟨v,r⟩
   ·exact trivial
   ·simp only [opL]
    split
    ·split
     ·split <;> first | exact trivial | exact sl
     ·exact trivial
    ·exact trivial
 | indexAddr t x y =>
  rcases vs with _ | ⟨v,_ | ⟨v',_ | ⟨v'',r⟩⟩⟩ <;> first | exact trivial | skip
  simp only [opL]
  split
  ·unfold oe
   split
   ·split
    ·exact fun v=>⟨_,rfl⟩
    ·split
     ·exact eW fun s n k=>⟨_,rfl⟩
     ·exact eW fun s k=>⟨_,rfl⟩
     ·exact trivial
   ·exact trivial
  ·unfold pY
   split
   ·split
    ·exact aA (fun k=>⟨_,rfl⟩) trivial
    ·exact trivial
   ·exact trivial
 | call c =>
  obtain ⟨callee,args,tys⟩:=c
  cases callee with
  | builtin b =>
   have mn:∀ {mx:Bool} {x y:AV},(vv mx x y).All cK:=by
    intro mx x y
    unfold vv
    split
    ·exact fun v=>⟨_,rfl⟩
    ·exact trivial
   cases b <;> simp [aj] at h
   all_goals simp only [opL]
   all_goals unfold dM
   all_goals split <;> first | exact trivial | exact mn | contradiction | skip
   split
   ·unfold wv
    split
    ·exact ⟨_,rfl⟩
    ·exact mU fun s v=>⟨_,rfl⟩
   ·exact trivial
  | value f=>cases f <;> simp [aj] at h
  | invoke r m=>simp [aj] at h
 | _=>simp [aj] at h
theorem cls_A {op:Op} (h:aj op=.A) (vs:List AV):(opL E id look op vs).All cM:=by
 cases op with
 | alloc t =>
  rcases vs with _ | ⟨v,r⟩ <;> first | exact trivial | skip
  simp only [opL]
  split
  ·exact ⟨_,_,rfl⟩
  ·exact trivial
 | box t x =>
  rcases vs with _ | ⟨v,_ | ⟨v',r⟩⟩ <;> first | exact trivial | skip
  simp only [opL]
  split
  ·exact dN (fun cs=>⟨_,_,rfl⟩)
  ·exact trivial
 | makeSlice t x y =>
  rcases vs with _ | ⟨v,_ | ⟨v',_ | ⟨v'',r⟩⟩⟩ <;> first | exact trivial | skip
  simp only [opL]
  split
  ·refine aA ?_ trivial
   exact fun n m=>⟨_,_,rfl⟩
  ·exact trivial
 | call c =>
  obtain ⟨callee,args,tys⟩:=c
  cases callee with
  | builtin b=>cases b <;> simp [aj] at h
  | value f=>cases f <;> simp [aj] at h
  | invoke r m=>simp [aj] at h
 | _=>simp [aj] at h
theorem iz {ps:List Prim} {b:BC} {v:AV}:(cn ps b v).plain=true->cK (cn ps b v)\/cM (cn ps b v):=by
 cases ps with
 | nil=>exact fun _=>.inr ⟨_,_,rfl⟩
 | cons q l=>exact fun h=>by cases h
theorem sO {ps:List Prim} {v:AV}:(match ps with | []=>Eff.val v | _=>.gen ps v).plain=true->cK (match ps with | []=>Eff.val v | _=>.gen ps v)\/cM (match ps with | []=>Eff.val v | _=>.gen ps v):=by
 cases ps with
 | nil=>exact fun _=>.inl ⟨_,rfl⟩
 | cons q l=>exact fun h=>by cases h
theorem j5 {d:TyD} {x:TV} {k:Out} (h:k.All p):(iH d x k).All p:=by
 unfold iH
 exact aA h h
theorem pw {x:TV} {k:Out} (h:k.All p):∀ (ds:List TyD) (j:Nat),(fI x ds j k).All p
 | [],j=>h
 | d :: ds,j=>j5 (pw h ds (j + 1))
theorem rq {ds:List TyD} {v:TV} {ps:List Prim}:(rW id ds v ps).All fun e=>e.plain=true->cK e\/cM e:=by
 have many:∀ ds:List TyD,(Prg.chk (v.isTup ds.length) (fI v ds 0 (bif fQ ds then .ret (cn ps (.tree (a7 v ds 0)) (.tups (di id v ds 0 0)))
   else .ret (match ps with | []=>.val (.tups (di id v ds 0 0)) | _=>.gen ps (.tups (di id v ds 0 0)))))).All fun e=>e.plain=true->cK e\/cM e:=by
  intro ds
  refine pw ?_ ds 0
  exact aA iz sO
 match ds with
 | []=>exact many []
 | [d] =>
  simp only [rW]
  refine j5 ?_
  split
  ·exact aA iz sO
  ·exact trivial
 | d :: d' :: l=>exact many _
theorem zO {ds:List TyD} {v:TV} {k:AV->Out} {p:Eff->Prop} (h:∀ av,(k av).All p):(Bb id ds v k).All p:=by
 have some:∀ (ds:List TyD) (j:Nat) (k:Out),k.All p->(fI v ds j k).All p:=by
  intro ds
  induction ds with
  | nil=>intro j k h; exact h
  | cons d ds ih=>intro j k h; exact j5 (ih (j + 1) k h)
 unfold Bb
 split
 ·refine j5 ?_
  split
  ·exact h _
  ·exact trivial
 ·exact some _ 0 _ (h _)
theorem yp {f:FuncId} {ld:eQ} {vs:List AV}:(nz E id look f ld vs).All fun e=>e.plain=true->cK e\/cM e:=by
 unfold nz
 split
 ·split
  ·refine aA trivial ?_
   exact oo fun xs rs=>dJ fun ys qs ts=>aA (fun v=>zO fun av=>fun h=>by simp [Eff.plain] at h) trivial
  ·exact trivial
 ·exact trivial
theorem ze {f:FuncId} {c:Nat × Nat} {vs:List AV}:(m7 look f c vs).All fun e=>e.plain=true->cK e\/cM e:=by
 unfold m7
 split
 ·split
  ·split
   ·exact aA (fk fun xs=>fun v=>fun _=>.inl ⟨_,rfl⟩) trivial
   ·exact trivial
  ·exact trivial
 ·exact trivial
theorem tD {p:Eff->Prop} {q:Way} {x y:TV} {k:TV->Out} (h:∀ y,(k y).All p):(uJ q x y k).All p:=by
 unfold uJ
 split
 ·exact h _
 ·exact fun v=>h _
theorem yf {f:FuncId} {vs:List AV}:(kX look f vs).All fun e=>e.plain=true->cK e\/cM e:=by
 unfold kX
 split
 ·split
  ·exact hM fun z=>fk fun xs=>fun v=>fun y=>tD fun x'=>fun h=>by cases h
  ·exact trivial
 ·split
  ·exact hM fun z=>fun z1=>fk fun xs=>fun v=>fun y=>tD fun x'=>fun h=>by cases h
  ·exact trivial
 ·exact trivial
theorem zt {f:FuncId} {i:Nat} {vs:List AV}:(vq E id look f i vs).All fun e=>e.plain=true->cK e\/cM e:=by
 unfold vq
 refine aA ?_ trivial
 split
 ·split
  ·exact fk fun xs=>fun v=>rq
  ·exact trivial
 ·exact trivial
theorem cls_B {op:Op} (h:aj op=.B) (vs:List AV):(opL E id look op vs).All fun e=>e.plain=true->cK e\/cM e:=by
 cases op with
 | buildSlice t len parts =>
  simp only [opL]
  refine aA ?_ ?_
  ·unfold qu
   split
   ·refine mL (fun cs=>?_) _ _ _
    split
    ·exact aA (fun _=>.inr ⟨_,_,rfl⟩) trivial
    ·exact trivial
   ·exact trivial
  unfold gW
  split
  ·refine mL (fun cs=>?_) _ _ _
   refine dD fun ys qs ts=>?_
   exact aA iz trivial
  ·exact trivial
 | call c =>
  obtain ⟨callee,args,tys⟩:=c
  cases callee with
  | builtin b=>cases b <;> simp [aj] at h
  | value f =>
   cases f with
   | func f =>
    rcases vs with _ | ⟨v,r⟩
    ·exact trivial
    ·simp only [opL,lV]
     refine aA yf (aA trivial ?_)
     split
     ·exact ze
     split
     ·exact yp
     ·split
      ·refine aA ?_ ?_
       ·exact fk fun xs=>fun v=>rq
       ·exact oo fun xs rs=>aA (fun v=>rq) trivial
      ·exact trivial
   | tmp t =>
    rcases vs with _ | ⟨v,r⟩
    ·exact trivial
    ·simp only [opL]
     split
     ·exact fun f=>fk fun xs v=>fun _=>.inl ⟨_,rfl⟩
     ·split
      ·exact zt
      ·exact trivial
   | _=>simp [aj] at h
  | invoke r m=>simp [aj] at h
 | _=>simp [aj] at h
abbrev isUpd (look:Look) (e:Eff):Prop:=∃ i b v,e=.upd i b v/\(look i).isSome=true
theorem zN {op : Op} (h : aj op = .W) (vs : List AV) : (opL E id look op vs).All fun e => e.plain = true → isUpd look e := by
 cases op with
 | store t x y =>
  rcases vs with _ | ⟨v,_ | ⟨v',_ | ⟨v'',r⟩⟩⟩ <;> first | exact trivial | skip
  simp only [opL]
  split
  ·unfold ue
   split
   ·refine aA trivial ?_
    split
    ·rename_i cs xs hrow
     refine dN (fun ps=>?_)
     split
     ·exact fun _=>⟨_,_,_,rfl,by simp [(iv hrow).1]⟩
     ·exact trivial
    ·exact trivial
   ·refine dN (fun ps=>?_)
    split
    ·rename_i cs hl
     exact aA (fun _=>⟨_,_,_,rfl,by simp [hl]⟩) trivial
    ·exact trivial
   ·refine dN (fun ps=>?_)
    split
    ·refine aA trivial (aA ?_ ?_)
     ·refine dJ fun ys qs ts=>aA ?_ trivial
      exact hM fun s e=>fun x' hp=>by cases hp
     ·refine dJ fun ys qs ts=>?_
      split
      ·refine aA ?_ trivial
       refine hM fun s e=>?_
       simp only [Prg.All]
       intro x'
       split
       ·rename_i b hb
        refine fun _=>⟨_,_,_,rfl,?_⟩
        unfold bN at hb
        split at hb
        ·rename_i hl; simp [hl]
        ·cases hb
       ·exact trivial
      ·exact trivial
    ·exact trivial
   ·exact trivial
  ·exact trivial
 | call c =>
  obtain ⟨callee,args,tys⟩:=c
  cases callee with
  | builtin b=>cases b <;> simp [aj] at h
  | value f=>cases f <;> simp [aj] at h
  | invoke r m=>simp [aj] at h
 | _=>simp [aj] at h
theorem o9 {d:TyD} {s:AV} {news:List (List TV)} {ps:List Prim}:(lA id look d s news ps).All fun e=>e.plain=true->cK e\/cM e:=by
 unfold lA
 split
 ·exact aA (fun y=>iz) trivial
 ·split
  ·split
   ·split
    ·exact fun y h=>by cases h
    ·exact fun z y x' h=>by cases h
   ·exact trivial
  ·split
   ·split
    ·exact fun z y h=>by cases h
    ·exact fun z0 z y x' h=>by cases h
   ·exact trivial
  ·exact trivial
theorem zH {d:TyD} {dest:Option Nat} {x:AV} {k:List (List TV)->List Prim->Out} (h:∀ xs ps,(k xs ps).All p):(vo look d dest x k).All p:=by
 unfold vo
 split
 ·exact fun xs=>h _ _
 ·split
  ·refine aA ?_ ?_
   ·split
    ·split
     ·split
      ·exact aA trivial (fun xs=>h _ _)
      ·exact fun y=>fun xs=>h _ _
     ·exact trivial
    ·split
     ·split
      ·exact aA trivial (fun y xs=>h _ _)
      ·exact fun z y=>fun xs=>h _ _
     ·exact trivial
    ·exact trivial
   ·exact eW (fun s xs=>h _ _)
  ·exact trivial
theorem cls_P {op:Op} (h:aj op=.P) (vs:List AV):(opL E id look op vs).All fun e=>e.plain=true->cK e\/cM e:=by
 cases op with
 | call c =>
  obtain ⟨callee,args,tys⟩:=c
  cases callee with
  | builtin b =>
   cases b <;> simp [aj] at h
   simp only [opL]
   unfold dM
   split <;> try (first | exact trivial | contradiction)
   split
   ·refine aA ?_ ?_
    ·unfold nk
     exact aA (zH (fun xs ps=>o9)) trivial
    ·split
     ·unfold kU
      refine aA ?_ trivial
      split
      ·exact fun news=>o9
      ·exact trivial
     ·exact trivial
   ·exact trivial
  | value f=>cases f <;> simp [aj] at h
  | invoke r m=>simp [aj] at h
 | _=>simp [aj] at h
theorem tf {op:Op} (h:aj op=.N\/aj op=.A) (vs:List AV):opL E id look op vs=opL E id look' op vs:=by
 cases op <;> first
  | (rcases vs with _ | ⟨a,_ | ⟨b,_ | ⟨c,_ | ⟨d,r⟩⟩⟩⟩ <;> rfl)
  | (simp [aj] at h; done)
  | (rename_i fn _ _; cases fn <;> rfl)
  | (rename_i ok; cases ok <;> rcases vs with _ | ⟨a,_ | ⟨b,r⟩⟩ <;> rfl)
  | skip
 all_goals
  rename_i c
  obtain ⟨callee,args,tys⟩:=c
  cases callee with
  | builtin b=>cases b <;> simp [aj] at h
  | value f=>cases f <;> simp [aj] at h
  | invoke r m=>simp [aj] at h
end
end Go.Ab
end

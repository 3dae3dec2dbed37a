import Derived.Test.YtaokcbfenabbgaaDoorHM12b
set_option linter.all false
section
namespace Go.Ab
open Go.RowKit
structure fk (P:Program) (G:Laid) (E:Env) (C:Cal):Prop where
 ty:∀ t d,E.T t=some d->aM P t d
 call:vX P G E C
section
variable {P:Program} {E:Env} {C:Cal} {w0:Bs} {w w':World} {I0 I R:Nat->Prop} {g g':Gh} {st st':ASt} {a:Act} {ov:List Value} {look:Look} {Q:Exit->Act->World->Prop} {id:Nat}
theorem Ag (hE:fk P w0.G E C) (hlk:∀ i b,look i=some b->st.look i=some b) (hs:ai w0 I0 NoR g st a ov w) {o:Oper} {e:Eff} (hh:(opL E (st.nid o.dst) look o.op (o.op.operands.toList.map st.ev)).hits C e) (ha:e.app st o.dst=some st') :
  Good P w0 I0 ov o st' a w Q:=by
 obtain ⟨dst,op,type,pos,after,guard⟩:=o
 cases op with
 | move x=>exact Cn hs hh ha
 | assign x=>exact zn hs hh ha
 | pick c x y=>exact Cu hs hh ha
 | alloc t=>exact Ar hE.ty hs hh ha
 | box t x=>exact op_box hE.ty hs hh ha
 | build t parts=>exact By hE.ty hs hh ha
 | makeFunc fn first cap=>exact vI hs hh ha
 | buildSlice t len parts =>
  simp only [opL] at hh
  cases hc:E.cold t && !(len.beq 0) with
  | true=>rw [hc] at hh; exact Ch hE.ty hlk hs hh ha
  | false=>rw [hc] at hh; exact sf hE.ty hlk hs hh ha
 | load t x=>exact C9 hE.ty hlk hs hh ha
 | store t x y=>exact Bw hE.ty hlk hs hh ha
 | nilCheck x=>exact wr hs hh ha
 | binOp op xt x y yt=>exact op_bin hE.ty hlk hs hh ha
 | unOp op xt x=>exact op_un hs hh ha
 | convert xt dt x=>exact wS hE.ty hlk hs hh ha
 | makeSlice t x y=>exact uv hE.ty hs hh ha
 | makeInterface t x=>exact op_ifc hE.ty hs hh ha
 | typeAssert x xt t ok=>exact Cs hE.ty hs hh ha
 | slice t x lo hi mx=>exact Bb hE.ty hlk hs hh ha
 | fieldAddr t x f=>exact ua hE.ty hs hh ha
 | field t x f=>exact Af hE.ty hs hh ha
 | indexAddr t x y=>exact uq hE.ty hlk hs hh ha
 | index t x y=>exact Ax hE.ty hs hh ha
 | extract x j=>exact xe hs hh ha
 | call c =>
  obtain ⟨callee,args,tys⟩:=c
  cases callee with
  | builtin b =>
   have hops:(Op.call ⟨.builtin b,args,tys⟩).operands.toList=args.toList:=by simp [Op.operands,Call.operands]
   simp only [hops] at hh
   simp only [opL] at hh
   unfold dl at hh
   split at hh
   ·rename_i x ty hargs htys
    obtain ⟨ox,rfl,hox⟩:=list1 hargs
    have:=arr1 htys
    subst this
    split at hh
    ·rename_i d hT
     rw [<- hox] at hh
     exact xa hlk hs (hE.ty _ _ hT) hh ha
    ·exact hh.elim
   ·rename_i s x ty ty' hargs htys
    obtain ⟨os,ox,rfl,hos,hox⟩:=list2 hargs
    have:=arr2 htys
    subst this
    split at hh
    ·rename_i e1 d hel
     cases hb:Nat.beq ty ty' with
     | false =>
      simp only [hb,cond_false] at hh
      split at hh
      ·rename_i hu
       exact hh.elim
      ·exact hh.elim
     | true =>
      simp only [hb,cond_true] at hh
      have:=(ar _ _).1 hb
      subst this
      rw [<- hos,<- hox] at hh
      exact sa hE.ty hlk hs hel hh ha
    ·exact hh.elim
   ·rename_i s x ty ty' hargs htys
    obtain ⟨os,ox,rfl,hos,hox⟩:=list2 hargs
    have:=arr2 htys
    subst this
    split at hh
    ·rename_i e1 d hel
     cases hb:Nat.beq ty ty' with
     | false=>simp [hb,Prg.hits] at hh
     | true =>
      simp only [hb,cond_true] at hh
      have:=(ar _ _).1 hb
      subst this
      rw [<- hos,<- hox] at hh
      exact wC hE.ty hlk hs hel hh ha
    ·exact hh.elim
   ·rename_i s ty hargs htys
    obtain ⟨os,rfl,hos⟩:=list1 hargs
    have:=arr1 htys
    subst this
    split at hh
    ·rename_i e1 d hel
     exact hh.elim
    ·exact hh.elim
   ·rename_i x y hargs
    obtain ⟨ox,oy,rfl,hox,hoy⟩:=list2 hargs
    rw [<- hox,<- hoy] at hh
    exact qi hs hh ha
   ·rename_i x y hargs
    obtain ⟨ox,oy,rfl,hox,hoy⟩:=list2 hargs
    rw [<- hox,<- hoy] at hh
    exact qi hs hh ha
   ·exact hh.elim
  | value f =>
   cases f with
   | func f =>
    have hops:(Op.call ⟨.value (.func f),args,tys⟩).operands.toList=.func f :: args.toList:=by simp [Op.operands,Call.operands]
    simp only [hops,List.map_cons] at hh
    exact C5 hE.call hE.ty hlk hs hh ha
   | tmp t =>
    have hops:(Op.call ⟨.value (.tmp t),args,tys⟩).operands.toList=.tmp t :: args.toList:=by simp [Op.operands,Call.operands]
    simp only [hops,List.map_cons] at hh
    exact op_dyn hE.call hE.ty hlk hs hh ha
   | _=>simp [opL,Prg.hits] at hh
  | invoke r m=>simp [opL,Prg.hits] at hh
 | _=>simp [opL,Prg.hits] at hh
def AV.nf:AV->AV
 | .one (.t (.lit (.bool b)))=>.bl b
 | .tv (.lit (.bool b))=>.bl b
 | v=>v
def Eff.nfE:Eff->Eff
 | .val v=>.val v.nf
 | .new b v=>.new b v.nf
 | .upd i b v=>.upd i b v.nf
 | .gen ps v=>.gen ps v.nf
def ASt.nfS (st:ASt):ASt:=⟨st.slots.map AV.nf,st.boxes,st.out⟩
theorem aD (v:AV):v.nf=v\/∃ b,v.nf=.bl b/\(v=.one (.t (.lit (.bool b)))\/v=.tv (.lit (.bool b))):=by
 unfold AV.nf
 split
 ·exact .inr ⟨_,rfl,.inl rfl⟩
 ·exact .inr ⟨_,rfl,.inr rfl⟩
 ·exact .inl rfl
theorem sW (v:AV):v.nf.nf=v.nf:=by
 rcases aD v with h | ⟨b,h,_⟩
 ·rw [h,h]
 ·rw [h]; rfl
theorem fS (v:AV):v.nf.tv? = v.tv? := by
 rcases aD v with h | ⟨b,h,rfl | rfl⟩
 ·rw [h]
 ·rfl
 ·rfl
theorem AY {v:AV} {u:Value}:bm w g look v.nf u ↔ bm w g look v u:=by
 rcases aD v with h | ⟨b,h,rfl | rfl⟩
 ·rw [h]
 ·rw [h]
  constructor
  ·intro h'
   have:u=.bool b:=h'
   subst this
   exact ⟨.lit _,rfl⟩
  ·intro h'
   exact aI h'.1
 ·rw [h]
  constructor
  ·intro h'
   have:u=.bool b:=h'
   subst this
   exact .lit _
  ·intro h'
   exact aI h'
theorem mU (v:AV):v.nf.fQ=v.fQ:=by
 rcases aD v with h | ⟨b,h,rfl | rfl⟩
 ·rw [h]
 ·rw [h]; rfl
 ·rw [h]; rfl
theorem bU (e:Eff):dO e.nfE=dO e:=by cases e <;> simp only [Eff.nfE,dO,mU]
theorem l6 (e:Eff):e.nfE.plain=e.plain:=by cases e <;> rfl
theorem vr (base:Nat) (own:List (List Nat × List Nat)) (e:Eff):e.nfE.o7 base own=e.o7 base own:=by cases e <;> rfl
theorem vT {S:Type} {agg:Bool} {n:Nat} {v:AV} {k k':List CA->Prg S} {e:S} (hk:∀ cs,(k cs).hits C e->(k' cs).hits C e) (h:(v.aO agg n k).hits C e):(v.aO agg n k').hits C e:=by
 unfold AV.aO at h ⊢
 split at h
 ·rename_i c
  cases hc:c.kept with
  | true=>rw [hc] at h; exact hk _ h
  | false=>rw [hc] at h; exact h.elim
 ·exact ⟨h.1,hk _ h.2⟩
 ·exact hk _ h
 ·exact hk _ h
 ·rename_i cs
  cases hc:cs.length.beq n with
  | true=>rw [hc] at h; exact hk _ h
  | false=>rw [hc] at h; exact h.elim
 ·exact ⟨h.1,hk _ h.2⟩
 ·exact h.elim
theorem eb {S:Type} {agg:Bool} {n:Nat} {v:AV} {k:List CA->Prg S} {e:S} (h:(v.aO agg n k).hits C e):(v.nf.aO agg n k).hits C e:=by
 rcases aD v with h1 | ⟨b,h1,rfl | rfl⟩
 ·rwa [h1]
 ·rw [h1]
  cases agg with
  | false=>exact h
  | true=>exact h.elim
 ·rw [h1]
  cases agg with
  | false=>exact h.2
  | true=>exact (by simp [AV.aO,TV.isAgg,Prg.hits] at h)
theorem jY {S:Type} {e:S}:∀ {vs:List AV} {k:List CA->Prg S},(jw vs k).hits C e->(jw (vs.map AV.nf) k).hits C e
 | [],k,h=>h
 | x :: vs, k, h => by
  simp only [jw,List.map_cons] at h ⊢
  refine eb ?_
  unfold AV.aO at h ⊢
  split at h
  ·rename_i c _
   cases hc:c.kept with
   | false=>simp [hc,Prg.hits] at h
   | true=>simp only [hc,cond_true] at h ⊢; exact jY h
  ·exact ⟨h.1,jY h.2⟩
  ·exact jY h
  ·exact jY h
  ·rename_i cs' hb; cases hb
  ·rename_i cs' hb; cases hb
  ·exact h.elim
theorem ix {f:FuncId} {e:Eff}:∀ {vs:List AV} {k:List CA->List CA},(jw vs fun cs=>(.ret (.val (.clo f (k cs))):Out)).hits C e->∃ cs,e=.val (.clo f cs)
 | [],k,h=>⟨_,h.symm⟩
 | x :: vs, k, h => by
  simp only [jw] at h
  unfold AV.aO at h
  split at h
  ·rename_i c _
   cases hc:c.kept with
   | false=>simp [hc,Prg.hits] at h
   | true=>simp only [hc,cond_true] at h; exact ix (k:=fun cs=>k (_ ++ cs)) h
  ·exact ix (k:=fun cs=>k (_ ++ cs)) h.2
  ·exact ix (k:=fun cs=>k (_ ++ cs)) h
  ·exact ix (k:=fun cs=>k (_ ++ cs)) h
  ·rename_i hb; cases hb
  ·rename_i hb; cases hb
  ·exact h.elim
theorem uN {S:Type} {at_:Nat->Option (Nat × Bool × Nat)} {k:List CA->Prg S} {e:S}:∀ {is:List Nat} {vs:List AV} {cs:List CA},(bC at_ is vs cs k).hits C e->(bC at_ is (vs.map AV.nf) cs k).hits C e
 | [],[],cs,h=>h
 | i :: is, x :: vs, cs, h => by
  simp only [bC,List.map_cons] at h ⊢
  split at h
  ·rename_i off agg n hat
   have key:∀ ps,((bif (off + ps.length).ble cs.length && ps.length.beq n then bC at_ is vs (bA cs off ps) k else .fail):Prg S).hits C e->((bif (off + ps.length).ble cs.length && ps.length.beq n then bC at_ is (vs.map AV.nf) (bA cs off ps) k else .fail):Prg S).hits C e:=by
    intro ps hp
    cases hb:(off + ps.length).ble cs.length && ps.length.beq n with
    | false=>simp [hb,Prg.hits] at hp
    | true=>simp only [hb,cond_true] at hp ⊢; exact uN hp
   refine eb ?_
   unfold AV.aO at h ⊢
   split at h
   ·rename_i c
    cases hc:c.kept with
    | false=>simp [hc,Prg.hits] at h
    | true=>simp only [hc,cond_true] at h ⊢; exact key _ h
   ·exact ⟨h.1,key _ h.2⟩
   ·exact key _ h
   ·exact key _ h
   ·rename_i cs'
    have:=key cs'
    cases hc:cs'.length.beq n with
    | false=>simp [hc,Prg.hits] at h
    | true=>simp only [hc,cond_true] at h this ⊢; exact this h
   ·exact ⟨h.1,key _ h.2⟩
   ·exact h.elim
  ·exact h.elim
 | [],_ :: _,cs,h=>h.elim
 | _ :: _,[],cs,h=>h.elim
theorem yj {S:Type} {v:AV} {k:TV->Prg S}:qV look v.nf k=qV look v k:=by
 rcases aD v with h | ⟨b,h,rfl | rfl⟩
 ·rw [h]
 ·rfl
 ·rfl
theorem Be {S:Type} {v:AV} {k:TV->Prg S}:qU look v.nf k=qU look v k:=by
 rcases aD v with h | ⟨b,h,rfl | rfl⟩
 ·rw [h]
 ·rfl
 ·rfl
theorem Bm {S:Type} {v:AV} {k:TV->List (Nat × Nat)->Prg S}:qz look v.nf k=qz look v k:=by
 rcases aD v with h | ⟨b,h,rfl | rfl⟩
 ·rw [h]
 ·rfl
 ·rfl
theorem qv {S:Type}:∀ {vs:List AV} {k:List TV->Prg S},lends look (vs.map AV.nf) k=lends look vs k
 | [],k=>rfl
 | v :: vs,k=>by simp only [List.map_cons,lends,Be,qv]
theorem rk {S:Type}:∀ {vs:List AV} {k:List TV->List (Nat × Nat)->Prg S},hands look (vs.map AV.nf) k=hands look vs k
 | [],k=>rfl
 | v :: vs,k=>by simp only [List.map_cons,hands,Bm,rk]
theorem AR {E:Env} {id:Nat} {look:Look} {f:FuncId} {ld:dm} (vs:List AV):mc E id look f ld (vs.map AV.nf)=mc E id look f ld vs:=by
 cases vs with
 | nil=>rfl
 | cons v l =>
  rcases aD v with h | ⟨b,h,rfl | rfl⟩
  ·simp only [List.map_cons,h]
   cases v with
   | one c =>
    cases c with
    | ptr i off =>
     cases off with
     | zero=>simp only [mc,rk]
     | succ n=>rfl
    | _=>rfl
   | _=>rfl
  ·simp only [List.map_cons,h]; rfl
  ·simp only [List.map_cons,h]; rfl
theorem Bf {look:Look} {f:FuncId} {c:Nat × Nat} (vs:List AV):vY look f c (vs.map AV.nf)=vY look f c vs:=by
 rfl
theorem Bj {look:Look} {f:FuncId} (vs:List AV):pI look f (vs.map AV.nf)=pI look f vs:=by
 rfl
theorem C3 {E:Env} {id:Nat} {look:Look} {f:FuncId} {i:Nat} (vs:List AV):AQ E id look f i (vs.map AV.nf)=AQ E id look f i vs:=by
 rfl
theorem CI (d:TyD) (t:TypeId) (v:AV):A1 d t v.nf=A1 d t v:=by
 rcases aD v with h | ⟨b,h,rfl | rfl⟩
 ·rw [h]
 ·rfl
 ·rfl
theorem AG (d:TyD) (t:TypeId) (v:AV):sv d t v.nf=sv d t v:=by
 simp only [sv,fS]
theorem zg {S:Type} {v:Option AV} {k:Option Nat->Prg S}:ej (v.map AV.nf) k=ej v k:=by
 cases v with
 | none=>rfl
 | some v=>simp only [ej,DG,fS]
theorem tq (v:AV):qD v.nf=qD v:=by
 rcases aD v with h | ⟨b,h,rfl | rfl⟩
 ·rw [h]
 ·rfl
 ·rfl
theorem yd {S:Type} {d:TyD} {dest:Option Nat} {v:AV} {k:List (List TV)->List Prim->Prg S}:wB look d dest v.nf k=wB look d dest v k:=by
 rcases aD v with h | ⟨b,h,rfl | rfl⟩
 ·rw [h]
 ·rfl
 ·rfl
theorem ky {kd:Kd} {sz:Nat} {x:AV} {lo hi:Option AV}:gA look kd sz x.nf (lo.map AV.nf) (hi.map AV.nf)=gA look kd sz x lo hi:=by
 simp only [gA,fS,zg]
 rcases aD x with h | ⟨b,h,rfl | rfl⟩
 ·rw [h]
  cases lo <;> rfl
 ·rfl
 ·rfl
theorem Bh (v:AV):sL v.nf=sL v:=by
 rcases aD v with h | ⟨b,h,rfl | rfl⟩
 ·rw [h]
 ·rfl
 ·rfl
theorem CN {look:Look} {kd:Kd} (v:AV):uS look kd v.nf=uS look kd v:=by
 rcases aD v with h | ⟨b,h,rfl | rfl⟩
 ·rw [h]
 ·rw [h]; cases kd <;> rfl
 ·rw [h]; cases kd <;> rfl
theorem opL_nf {op : Op} {vs : List AV} {e : Eff} (h : (opL E id look op vs).hits C e) : ∃ e', (opL E id look op (vs.map AV.nf)).hits C e' ∧ e'.nfE = e.nfE := by
 cases op with
 | move x =>
  rcases vs with _ | ⟨v,_ | ⟨v',r⟩⟩ <;> first | exact h.elim | skip
  cases h
  exact ⟨_,rfl,by simp [Eff.nfE,sW]⟩
 | assign x =>
  rcases vs with _ | ⟨v,_ | ⟨v',r⟩⟩ <;> first | exact h.elim | skip
  cases h
  exact ⟨_,rfl,by simp [Eff.nfE,sW]⟩
 | pick c x y =>
  rcases vs with _ | ⟨v,_ | ⟨v',_ | ⟨v'',_ | ⟨v3,r⟩⟩⟩⟩ <;> first | exact h.elim | skip
  simp only [opL] at h
  split at h
  ·rename_i b
   cases h
   refine ⟨_,rfl,?_⟩
   cases b <;> simp [Eff.nfE,sW]
  ·rename_i v
   obtain ⟨b,hb,h⟩:=h
   have hv:v=.lit (.bool b):=by
    unfold asBool at hb
    split at hb
    ·cases hb; rfl
    ·cases hb
   subst hv
   rcases h with ⟨rfl,h⟩ | ⟨rfl,h⟩ <;> (cases h; exact ⟨_,rfl,by simp [Eff.nfE,sW]⟩)
  ·rename_i v
   obtain ⟨b,hb,h⟩:=h
   have hv:v=.lit (.bool b):=by
    unfold asBool at hb
    split at hb
    ·cases hb; rfl
    ·cases hb
   subst hv
   rcases h with ⟨rfl,h⟩ | ⟨rfl,h⟩ <;> (cases h; exact ⟨_,rfl,by simp [Eff.nfE,sW]⟩)
  ·exact h.elim
 | alloc t =>
  rcases vs with _ | ⟨v,r⟩ <;> first | exact h.elim | exact ⟨e,h,rfl⟩
 | box t x =>
  rcases vs with _ | ⟨v,_ | ⟨v',r⟩⟩ <;> first | exact h.elim | skip
  refine ⟨e,?_,rfl⟩
  simp only [opL,List.map_cons,List.map_nil] at h ⊢
  split at h
  ·exact eb h
  ·exact h.elim
 | makeFunc fn first cap =>
  cases fn with
  | func f =>
   have:∃ cs,e=.val (.clo f cs):=by
    simp only [opL] at h
    cases hb:first.size.beq 0 with
    | false=>simp [hb,Prg.hits] at h
    | true =>
     simp only [hb,cond_true] at h
     exact ix (k:=fun l=>l) h
   obtain ⟨cs,rfl⟩:=this
   refine ⟨_,?_,rfl⟩
   simp only [opL] at h ⊢
   cases hb:first.size.beq 0 with
   | false=>simp [hb,Prg.hits] at h
   | true=>simp only [hb,cond_true] at h ⊢; exact jY h
  | _=>exact h.elim
 | build t parts =>
  refine ⟨e,?_,rfl⟩
  simp only [opL] at h ⊢
  split at h
  ·rename_i d hd
   cases hb:jU E.T d.kd with
   | false=>simp [hb,Prg.hits] at h
   | true=>simp only [hb,cond_true] at h ⊢; exact uN h
  ·exact h.elim
 | buildSlice t len parts =>
  refine ⟨e,?_,rfl⟩
  simp only [opL] at h ⊢
  cases hc:E.cold t && !(len.beq 0) with
  | true =>
   rw [hc] at h
   simp only [cond_true] at h ⊢
   exact h.elim
  | false =>
   rw [hc] at h
   simp only [cond_false] at h ⊢
   unfold gE at h ⊢
   split at h
   ·exact uN h
   ·exact h.elim
 | load t x =>
  rcases vs with _ | ⟨v,_ | ⟨v',r⟩⟩ <;> first | exact h.elim | skip
  refine ⟨e,?_,rfl⟩
  rcases aD v with h1 | ⟨b,h1,rfl | rfl⟩
  ·simpa only [List.map_cons,List.map_nil,h1] using h
  ·simp only [opL] at h; split at h <;> exact h.elim
  ·simp only [opL] at h; split at h <;> exact h.elim
 | store t x y =>
  rcases vs with _ | ⟨v,_ | ⟨v',_ | ⟨v'',r⟩⟩⟩ <;> first | exact h.elim | skip
  refine ⟨e,?_,rfl⟩
  simp only [opL,List.map_cons,List.map_nil] at h ⊢
  split at h
  ·rcases aD v with h1 | ⟨b,h1,rfl | rfl⟩
   ·rw [h1]
    unfold uf at h ⊢
    split at h
    ·rename_i e0 _ _ i0 off0 len0 n0
     cases hk0:e0.kd.isAgg with
     | true=>rw [hk0] at h; exact h.elim
     | false =>
      rw [hk0] at h
      simp only [cond_false] at h ⊢
      split at h
      ·exact eb h
      ·exact h.elim
    ·exact eb h
    ·exact eb h
    ·exact h.elim
   ·exact h.elim
   ·exact h.elim
  ·exact h.elim
 | nilCheck x =>
  rcases vs with _ | ⟨v,_ | ⟨v',r⟩⟩ <;> first | exact h.elim | skip
  refine ⟨e,?_,rfl⟩
  rcases aD v with h1 | ⟨b,h1,rfl | rfl⟩
  ·simpa only [List.map_cons,List.map_nil,h1] using h
  ·exact h.elim
  ·exact h.elim
 | binOp op xt x y yt =>
  rcases vs with _ | ⟨v,_ | ⟨v',_ | ⟨v'',r⟩⟩⟩ <;> first | exact h.elim | skip
  refine ⟨e,?_,rfl⟩
  simp only [opL,List.map_cons,List.map_nil] at h ⊢
  split at h
  ·unfold CD at h ⊢
   split at h
   ·split at h
    ·exact eb (vT (fun cs h=>eb h) h)
    ·exact h.elim
   ·simp only [C7,Bh] at h ⊢
    exact h
   ·simp only [CK,yj,fS] at h ⊢
    exact h
  ·exact h.elim
 | unOp op xt x =>
  rcases vs with _ | ⟨v,_ | ⟨v',r⟩⟩ <;> first | exact h.elim | skip
  rcases aD v with h1 | ⟨b,h1,h2⟩
  ·refine ⟨e,?_,rfl⟩
   simpa only [List.map_cons,List.map_nil,h1] using h
  ·have hv:∃ t,(opL E id look (.unOp op xt x) [v]).hits C e->(Prg.tv (pun op (.lit (.bool b))) vt).hits C e:=⟨(),by rcases h2 with rfl | rfl <;> intro h <;> cases op <;> exact h⟩
   obtain ⟨_,hv⟩:=hv
   obtain ⟨z,hz,hh⟩:=hv h
   cases op with
   | not =>
    simp only [pun,Dv] at hz
    subst hz
    cases hh
    refine ⟨.val (.bl !b),?_,rfl⟩
    simp only [List.map_cons,List.map_nil,h1]
    rfl
   | _=>simp [pun] at hz
 | convert xt dt x =>
  rcases vs with _ | ⟨v,_ | ⟨v',r⟩⟩ <;> first | exact h.elim | skip
  refine ⟨e,?_,rfl⟩
  simp only [opL,List.map_cons,List.map_nil,yo,fS,yj] at h ⊢
  exact h
 | makeSlice t x y =>
  rcases vs with _ | ⟨v,_ | ⟨v',_ | ⟨v'',r⟩⟩⟩ <;> first | exact h.elim | skip
  refine ⟨e,?_,rfl⟩
  simp only [opL,List.map_cons,List.map_nil,fS] at h ⊢
  exact h
 | slice t x lo hi mx =>
  refine ⟨e,?_,rfl⟩
  cases mx with
  | some m=>rcases vs with _ | ⟨v,r⟩ <;> exact h.elim
  | none =>
   rcases vs with _ | ⟨v,r⟩
   ·exact h.elim
   ·simp only [opL, List.map_cons] at h ⊢
    split at h
    ·rename_i d hT
     split at h
     ·rename_i sz hsz
      cases lo with
      | none =>
       cases hi with
       | none =>
        rcases r with _ | ⟨l,r⟩
        ·have:=ky (look:=look) (kd:=d.kd) (sz:=sz) (x:=v) (lo:=none) (hi:=none)
         simp only [Option.map_none] at this
         simp only [List.map_nil]
         rw [this]; exact h
        ·exact h.elim
       | some hh =>
        rcases r with _ | ⟨l,_ | ⟨l',r⟩⟩
        ·exact h.elim
        ·have:=ky (look:=look) (kd:=d.kd) (sz:=sz) (x:=v) (lo:=none) (hi:=some l)
         simp only [Option.map_none,DG] at this
         simp only [List.map_cons,List.map_nil]
         rw [this]; exact h
        ·exact h.elim
      | some ll =>
       cases hi with
       | none =>
        rcases r with _ | ⟨l,_ | ⟨l',r⟩⟩
        ·exact h.elim
        ·have:=ky (look:=look) (kd:=d.kd) (sz:=sz) (x:=v) (lo:=some l) (hi:=none)
         simp only [Option.map_none,DG] at this
         simp only [List.map_cons,List.map_nil]
         rw [this]; exact h
        ·exact h.elim
       | some hh =>
        rcases r with _ | ⟨l,_ | ⟨l',_ | ⟨l'',r⟩⟩⟩
        ·exact h.elim
        ·exact h.elim
        ·have:=ky (look:=look) (kd:=d.kd) (sz:=sz) (x:=v) (lo:=some l) (hi:=some l')
         simp only [DG] at this
         simp only [List.map_cons,List.map_nil]
         rw [this]; exact h
        ·exact h.elim
     ·exact h.elim
    ·exact h.elim
 | fieldAddr t x f =>
  rcases vs with _ | ⟨v,_ | ⟨v',r⟩⟩ <;> first | exact h.elim | skip
  refine ⟨e,?_,rfl⟩
  rcases aD v with h1 | ⟨b,h1,rfl | rfl⟩
  ·simpa only [List.map_cons,List.map_nil,h1] using h
  ·simp only [opL] at h
   split at h
   ·rename_i hv
    cases hv
    split at h
    ·rename_i n _ _
     cases hb:Nat.blt 0 n <;> simp [hb,CA.add,Prg.hits] at h
    ·exact h.elim
   ·exact h.elim
  ·simp only [opL] at h
   split at h
   ·rename_i hv; cases hv
   ·exact h.elim
 | field t x f =>
  rcases vs with _ | ⟨v,_ | ⟨v',r⟩⟩ <;> first | exact h.elim | skip
  refine ⟨e,?_,rfl⟩
  rcases aD v with h1 | ⟨b,h1,rfl | rfl⟩
  ·simpa only [List.map_cons,List.map_nil,h1] using h
  ·simp only [opL] at h
   split at h
   ·split at h <;> exact h.elim
   ·exact h.elim
  ·simp only [opL] at h
   split at h
   ·split at h
    ·simp [uh,TV.isAgg,Prg.hits] at h
    ·exact h.elim
   ·exact h.elim
 | indexAddr t x y =>
  rcases vs with _ | ⟨v,_ | ⟨v',_ | ⟨v'',r⟩⟩⟩ <;> first | exact h.elim | skip
  refine ⟨e,?_,rfl⟩
  simp only [opL,List.map_cons,List.map_nil] at h ⊢
  split at h
  ·rcases aD v with h1 | ⟨b,h1,rfl | rfl⟩
   ·simp only [h1,nU,fS] at h ⊢; exact h
   ·simp only [nU,fS] at h ⊢; exact h
   ·simp only [nU,fS] at h ⊢; exact h
  ·unfold pp at h ⊢
   rw [fS]
   rcases aD v with h1 | ⟨b,h1,rfl | rfl⟩
   ·rw [h1]; exact h
   ·split at h
    ·split at h <;> first | exact h.elim | (rename_i hx _; cases hx)
    ·exact h.elim
   ·split at h
    ·split at h <;> first | exact h.elim | (rename_i hx _; cases hx)
    ·exact h.elim
 | index t x y =>
  rcases vs with _ | ⟨v,_ | ⟨v',_ | ⟨v'',r⟩⟩⟩ <;> first | exact h.elim | skip
  refine ⟨e,?_,rfl⟩
  simp only [opL,List.map_cons,List.map_nil,fS] at h ⊢
  split at h
  ·exact h
  ·unfold pE at h ⊢
   rw [fS]
   rcases aD v with h1 | ⟨b,h1,rfl | rfl⟩
   ·rw [h1]; exact h
   ·split at h
    ·split at h <;> first | exact h.elim | (rename_i hx _; cases hx)
    ·exact h.elim
   ·split at h
    ·split at h <;> first | exact h.elim | (rename_i hx _; cases hx)
    ·exact h.elim
 | extract x j =>
  rcases vs with _ | ⟨v,_ | ⟨v',r⟩⟩ <;> first | exact h.elim | skip
  refine ⟨e,?_,rfl⟩
  rcases aD v with h1 | ⟨b,h1,rfl | rfl⟩
  ·simpa only [List.map_cons,List.map_nil,h1] using h
  ·exact h.elim
  ·exact h.elim
 | call c =>
  refine ⟨e,?_,rfl⟩
  obtain ⟨callee,args,tys⟩:=c
  cases callee with
  | builtin b =>
   simp only [opL] at h ⊢
   unfold dl at h
   split at h
   ·rename_i x ty htys
    simp only [htys,dl,List.map_cons,List.map_nil]
    split at h
    ·rename_i d hd
     have key:∀ kd,(uS look kd x).hits C e->(uS look kd x.nf).hits C e:=fun kd h=>by rw [CN]; exact h
     exact key _ h
    ·exact h.elim
   ·rename_i s x ty ty' htys
    simp only [htys,dl,List.map_cons,List.map_nil]
    split at h
    ·rename_i _ d hel
     cases hb:Nat.beq ty ty' with
     | false =>
      simp only [hb,cond_false] at h ⊢
      split at h
      ·rename_i hu
       exact h.elim
      ·exact h.elim
     | true =>
      simp only [hb,cond_true] at h ⊢
      unfold mD at h ⊢
      rw [yd,tq]
      rcases aD s with h1 | ⟨b,h1,rfl | rfl⟩
      ·rw [h1]; exact h
      ·exact h
      ·exact h
    ·exact h.elim
   ·rename_i s x ty ty' htys
    simp only [htys,dl,List.map_cons,List.map_nil]
    split at h
    ·rename_i _ d hel
     cases hb:Nat.beq ty ty' with
     | false=>simp [hb,Prg.hits] at h
     | true =>
      simp only [hb,cond_true] at h ⊢
      unfold yc at h ⊢
      rw [yd,tq]
      rcases aD s with h1 | ⟨b,h1,rfl | rfl⟩
      ·rw [h1]; exact h
      ·exact h
      ·exact h
    ·exact h.elim
   ·rename_i s ty htys
    simp only [htys,dl,List.map_cons,List.map_nil]
    split at h
    ·exact h.elim
    ·exact h.elim
   ·simp only [dl,List.map_cons,List.map_nil,vl,fS] at h ⊢
    exact h
   ·simp only [dl,List.map_cons,List.map_nil,vl,fS] at h ⊢
    exact h
   ·exact h.elim
  | value f =>
   cases f with
   | func f =>
    rcases vs with _ | ⟨v,r⟩
    ·exact h.elim
    ·simp only [opL,List.map_cons,li,qv,rk,AR,Bf,Bj] at h ⊢
     exact h
   | tmp t =>
    rcases vs with _ | ⟨v,r⟩
    ·exact h.elim
    ·simp only [opL,List.map_cons,fS,qv,C3] at h ⊢
     rcases aD v with h1 | ⟨b,h1,rfl | rfl⟩
     ·rw [h1]; exact h
     ·exact h
     ·exact h
   | _=>exact h.elim
  | invoke r m=>exact h.elim
 | makeInterface t x =>
  rcases vs with _ | ⟨v,_ | ⟨v',r⟩⟩ <;> first | exact h.elim | skip
  refine ⟨e,?_,rfl⟩
  simp only [opL,List.map_cons,List.map_nil,CI] at h ⊢
  exact h
 | typeAssert x xt t ok =>
  rcases vs with _ | ⟨v,_ | ⟨v',r⟩⟩ <;> cases ok <;> first | exact h.elim | skip
  refine ⟨e,?_,rfl⟩
  simp only [opL,List.map_cons,List.map_nil,AG] at h ⊢
  exact h
 | _=>exact h.elim
theorem kb (st:ASt):st.nfS.look=st.look:=rfl
theorem lU (st:ASt):st.nfS.base=st.base:=rfl
theorem ux (st:ASt) (d:Option Tmp):st.nfS.nid d=st.nid d:=by cases d <;> rfl
theorem gT (st:ASt) (d:Option Tmp) (v:AV):(st.put d v).nfS=st.nfS.put d v.nf:=by
 cases d with
 | none=>rfl
 | some d=>simp [ASt.nfS,ASt.put,ah,List.map_set]
theorem pV (st:ASt) (i:Nat) (b:Option BC):(st.ac i b).nfS=st.nfS.ac i b:=rfl
theorem ka (st:ASt) (t:Nat):nth (.one .junk) st.nfS.slots t=(nth (.one .junk) st.slots t).nf:=by
 simp only [ASt.nfS,aP,Dz]
 cases st.slots[t]? <;> rfl
theorem yW (ps:List Nat) (st:ASt) (d:Option Nat) (e:Eff):b7 ps st.nfS d e.nfE=b7 ps st d e:=by
 unfold b7
 congr 1
 funext k
 cases d with
 | none=>rw [lU,bU]
 | some d=>simp only [lU,bU,ka,mU]
theorem zI {o:Item} {st:ASt} {e:Eff} (h:iU o st e=true):iU o st.nfS e.nfE=true:=nomatch h
theorem p9 (st:ASt) (x:Operand):st.nfS.ev x=(st.ev x).nf:=by
 cases x with
 | tmp t=>exact ka st t
 | const v =>
  cases v with
  | bool b=>rfl
  | _=>first | rfl | (simp only [ASt.ev]; cases Value.oneCell' _ <;> rfl)
 | global g=>rfl
 | func f=>rfl
theorem qQ:∀ (l:List AV),cc (l.map AV.nf)=cc l
 | []=>rfl
 | v :: l=>by simp only [List.map_cons,cc,fS,qQ l]
theorem i5 (e:Eff):gj e.nfE=gj e:=by
 cases e with
 | new b v=>cases b <;> rfl
 | _=>rfl
theorem zw {i:Item} {st:ASt} {e:Eff}:fP i st.nfS e.nfE=fP i st e:=by
 unfold fP
 have:i.o.op.operands.toList.map st.nfS.ev=(i.o.op.operands.toList.map st.ev).map AV.nf:=by
  rw [List.map_map]
  exact List.map_congr_left fun x _=>p9 st x
 rw [this,qQ,i5,bU]
 rfl
theorem va:∀ (l:List AV),gU (l.map AV.nf)=gU l
 | []=>rfl
 | v :: l=>by simp only [List.map_cons,gU,mU,va l]
theorem nZ (e:Eff):lp e.nfE=lp e:=by cases e <;> rfl
theorem xl (e:Eff):drE e.nfE=drE e:=by cases e <;> rfl
theorem pW (k:Nat) (e:Eff):sO k e.nfE=sO k e:=by cases e <;> rfl
theorem pt (v:AV):(v.nf.bB CA.deep).fQ=(v.bB CA.deep).fQ:=by
 rcases aD v with h | ⟨b,h,rfl | rfl⟩
 ·rw [h]
 ·rw [h]; rfl
 ·rw [h]; rfl
theorem wt:∀ (l:List AV),gU (bV CA.deep (l.map AV.nf))=gU (bV CA.deep l)
 | []=>rfl
 | v :: l=>by simp only [List.map_cons,bV,gU,pt,wt l]
theorem oz (e:Eff):m6 e.nfE=m6 e:=by
 cases e with
 | val v=>exact pt v
 | new b v=>exact bU (.new b v)
 | upd i b v=>exact bU (.upd i b v)
 | gen ps v=>exact bU (.gen ps v)
theorem zl {i:Item} {st:ASt} {e:Eff}:bT i st.nfS e.nfE=bT i st e:=by
 unfold bT
 simp only [nZ,xl,pW]
 rfl
theorem zv {i:Item} {st:ASt} {e:Eff}:cJ i st.nfS e.nfE=cJ i st e:=by
 unfold cJ
 have hd:∀ d b,gP st.nfS d b=gP st d b:=fun d b=>by
  cases d with
  | none=>rfl
  | some d =>
   have:=p9 st (.tmp d)
   simp only [ASt.ev] at this
   simp only [gP,this,mU]
 have hd2:∀ d b,fq st.nfS d b=fq st d b:=fun d b=>by
  cases d with
  | none=>rfl
  | some d =>
   have:=p9 st (.tmp d)
   simp only [ASt.ev] at this
   simp only [fq,this,pt]
 simp only [hd,hd2,bU,oz]
 have:i.o.op.operands.toList.map st.nfS.ev=(i.o.op.operands.toList.map st.ev).map AV.nf:=by
  rw [List.map_map]
  exact List.map_congr_left fun x _=>p9 st x
 rw [this,va,wt]
 rfl
theorem okE_nf {i:Item} {st:ASt} {e:Eff} (h:okE i st e=true):okE i st.nfS e.nfE=true:=by
 unfold okE at h ⊢
 rw [Bool.or_eq_true] at h ⊢
 rcases h with h | h
 ·rw [zl]; exact .inl h
 refine .inr ?_
 rw [Bool.or_eq_true] at h ⊢
 rcases h with h | h
 ·rw [l6,vr,lU,yW,zw,zv]; exact .inl h
 ·exact .inr (zI h)
theorem ub (hs:Sim w0 I0 st a ov w):Sim w0 I0 st.nfS a ov w:=by
 obtain ⟨g,hs⟩:=hs
 refine ⟨g,hs.below,hs.sub,hs.lt,hs.old,by simp [ASt.nfS,hs.len],hs.defers,fun t v hv=>?_,hs.olen,hs.outs,hs.cells,hs.trees,hs.foot,hs.apart,hs.apartR,hs.res,hs.base,hs.out⟩
 simp only [ASt.nfS,Dz] at hv
 cases hsl:st.slots[t]? with
 | none=>simp [hsl] at hv
 | some u =>
  simp only [hsl,DG,Dv] at hv
  subst hv
  exact AY.2 (hs.slots t u hsl)
theorem dz (hs:Sim w0 I0 st.nfS a ov w):Sim w0 I0 st a ov w:=by
 obtain ⟨g,hs⟩:=hs
 refine ⟨g,hs.below,hs.sub,hs.lt,hs.old,by have:=hs.len; simpa [ASt.nfS] using this,hs.defers,fun t v hv=>?_,hs.olen,hs.outs,hs.cells,hs.trees,hs.foot,hs.apart,hs.apartR,hs.res,hs.base,hs.out⟩
 exact AY.1 (hs.slots t v.nf (by simp [ASt.nfS,hv]))
theorem mX (i r:Nat) (js:List Nat) (b:Bool) (v:AV):(v.bB (CA.drop i r js b)).nf=v.nf.bB (CA.drop i r js b):=by
 rcases aD v with h | ⟨b,h,rfl | rfl⟩
 ·rw [h]
  cases v with
  | one c =>
   have key:∀ c:CA,c.drop i r js b=c\/c.drop i r js b=.junk:=fun c=>by
    rcases eW i r js b c with ⟨h,_⟩ | h
    ·exact .inl h
    ·exact .inr h
   simp only [AV.bB]
   rcases key c with h' | h'
   ·rw [h',h]
   ·rw [h']; rfl
  | tv x=>exact h
  | _=>rfl
 ·rfl
 ·rfl
theorem BT (st:ASt) (i r:Nat) (js:List Nat) (b:Bool):(st.am (CA.drop i r js b)).nfS=st.nfS.am (CA.drop i r js b):=by
 simp only [ASt.nfS,ASt.am]
 congr 1
 apply List.ext_getElem?
 intro t
 simp only [Dz,kI]
 cases st.slots[t]? with
 | none=>rfl
 | some v=>simp [mX]
theorem oO (i:Nat) (v:AV):(v.bB (CA.unM i)).nf=v.nf.bB (CA.unM i):=by
 cases v with
 | one c =>
  cases c with
  | t x =>
   cases x with
   | lit u=>cases u <;> rfl
   | _=>rfl
  | may j ty =>
   simp only [AV.bB,CA.unM,AV.nf]
   cases j.beq i <;> rfl
  | _=>rfl
 | tv x =>
  cases x with
  | lit u=>cases u <;> rfl
  | _=>rfl
 | _=>rfl
theorem Ck (st:ASt) (i:Nat):(st.am (CA.unM i)).nfS=st.nfS.am (CA.unM i):=by
 simp only [ASt.am,ASt.nfS]
 congr 1
 induction st.slots with
 | nil=>rfl
 | cons v l ih=>simp only [bV,List.map_cons,oO,ih]
theorem tO {i:Nat} {b:BC} (h:st.bc i b=some st'):st.nfS.bc i b=some st'.nfS:=by
 obtain ⟨h1,h2,rfl⟩:=aZ h
 have h2':i.blt st.nfS.boxes.length=true:=by simpa [ASt.nfS] using h2
 simp only [ASt.bc,kb,h1,h2',cond_true,pV]
theorem oG {d:Option Tmp}:∀ {ps:List Prim} {st st':ASt},ae d ps st=some st'->ae d ps st.nfS=some st'.nfS
 | [],st,st',h=>by simp only [ae,Dv] at h; subst h; rfl
 | p :: ps, st, st', h => by
  simp only [ae] at h ⊢
  cases h1:p.app st d with
  | none=>simp [h1] at h
  | some s1 =>
   simp only [h1] at h
   have:p.app st.nfS d=some s1.nfS:=by
    cases p with
    | drop i r js b =>
     simp only [Prim.app,Dv] at h1 ⊢
     subst h1
     rw [BT]
    | root i r x =>
     simp only [Prim.app,kb] at h1 ⊢
     split at h1
     ·rename_i b hb
      simp only [Dv] at h1
      subst h1
      rfl
     ·cases h1
    | frz i r =>
     simp only [Prim.app,kb] at h1 ⊢
     split at h1
     ·rename_i x hx
      split at h1
      ·rename_i b hb
       simp only [Dv] at h1
       subst h1
       rfl
      ·cases h1
     ·cases h1
    | unmay i =>
     simp only [Prim.app,Dv] at h1 ⊢
     subst h1
     rw [Ck]
    | newB b =>
     cases d with
     | none=>simp [Prim.app] at h1
     | some d =>
      simp only [Prim.app] at h1 ⊢
      rw [ux]
      exact tO h1
    | setB i cs =>
     simp only [Prim.app,kb] at h1 ⊢
     split at h1
     ·simp only [Dv] at h1
      subst h1
      rfl
     ·cases h1
   rw [this]
   exact oG h
theorem app_nf {e:Eff} {d:Option Tmp} (h:e.app st d=some st'):e.nfE.app st.nfS d=some st'.nfS:=by
 cases e with
 | val v =>
  simp only [Eff.app,Eff.nfE,Dv] at h ⊢
  subst h
  rw [gT]
 | new b v =>
  cases d with
  | none=>simp [Eff.app] at h
  | some d =>
   simp only [Eff.app,Eff.nfE] at h ⊢
   rw [ux]
   split at h
   ·rename_i s1 hs1
    simp only [Dv] at h
    subst h
    rw [tO hs1]
    simp only [gT]
   ·cases h
 | upd i b v =>
  simp only [Eff.app,Eff.nfE,Dv] at h ⊢
  subst h
  rw [gT,pV]
 | gen ps v =>
  simp only [Eff.app,Eff.nfE] at h ⊢
  split at h
  ·rename_i s1 hs1
   simp only [Dv] at h
   subst h
   rw [oG hs1]
   simp only [gT]
  ·cases h
theorem jo {d:Option Tmp} {v:AV} (hs:Sim w0 I0 (st.put d v) a ov w):Sim w0 I0 (st.put d v.nf) a ov w:=by
 apply dz
 have:=ub hs
 rw [gT] at this ⊢
 rwa [sW]
theorem yq {e:Eff} {d:Option Tmp} (h:e.nfE.app st d=some st'):∃ st1,e.app st d=some st1/\∀ w0 I0 a ov w,Sim w0 I0 st1 a ov w->Sim w0 I0 st' a ov w:=by
 cases e with
 | val v =>
  simp only [Eff.app,Eff.nfE,Dv] at h ⊢
  subst h
  exact ⟨_,rfl,fun w0 I0 a ov w hs=>jo hs⟩
 | new b v =>
  cases d with
  | none=>simp [Eff.app,Eff.nfE] at h
  | some d =>
   simp only [Eff.app,Eff.nfE] at h ⊢
   split at h
   ·rename_i s1 hs1
    simp only [Dv] at h
    subst h
    exact ⟨_,rfl,fun w0 I0 a ov w hs=>jo hs⟩
   ·cases h
 | upd i b v =>
  simp only [Eff.app,Eff.nfE,Dv] at h ⊢
  subst h
  exact ⟨_,rfl,fun w0 I0 a ov w hs=>jo hs⟩
 | gen ps v =>
  simp only [Eff.app,Eff.nfE] at h ⊢
  split at h
  ·rename_i s1 hs1
   simp only [Dv] at h
   subst h
   exact ⟨_,rfl,fun w0 I0 a ov w hs=>jo hs⟩
  ·cases h
end
end Go.Ab
end
section
namespace Go.Ab
open Go.RowKit
def Prg.All {R:Type} (p:R->Prop):Prg R->Prop
 | .fail=>True
 | .ret e=>p e
 | .tv _ k=>∀ v,(k v).All p
 | .tvs _ k=>∀ v,(k v).All p
 | .rws _ k=>∀ v,(k v).All p
 | .nat _ k=>∀ v,(k v).All p
 | .chk _ k=>k.All p
 | .ite _ t e=>t.All p/\e.All p
 | .call _ _ k=>∀ v,(k v).All p
 | .jmp _ _=>True
theorem Prg.All.hits {R:Type} {C:Cal} {p:R->Prop} {e:R}:∀ {o:Prg R},o.All p->o.hits C e->p e
 | .ret e',h,h'=>by cases h'; exact h
 | .tv _ k,h,⟨v,_,h'⟩=>(h v).hits h'
 | .tvs _ k,h,⟨v,_,h'⟩=>(h v).hits h'
 | .rws _ k,h,⟨v,_,h'⟩=>(h v).hits h'
 | .nat _ k,h,⟨v,_,h'⟩=>(h v).hits h'
 | .chk _ k,h,⟨_,h'⟩=>Prg.All.hits (o:=k) h h'
 | .ite _ t e,h,⟨v,_,.inl ⟨_,h'⟩⟩=>Prg.All.hits (o:=t) h.1 h'
 | .ite _ t e,h,⟨v,_,.inr ⟨_,h'⟩⟩=>Prg.All.hits (o:=e) h.2 h'
 | .call _ _ k,h,⟨v,_,h'⟩=>(h v).hits h'
section
variable {E:Env} {look look':Look} {p:Eff->Prop} {id:Nat}
theorem aE {b:Bool} {x y:Out} (hx:x.All p) (hy:y.All p):(bif b then x else y).All p:=by cases b <;> assumption
theorem kn {q:Way} {x:TV} {k:TV->Out} (h:∀ y,(k y).All p):(pa q x k).All p:=by
 unfold pa
 split
 ·exact h _
 ·exact h
theorem eh {c:CA} {k:TV->Out} (h:∀ y,(k y).All p):(gD look c k).All p:=by
 unfold gD
 split
 ·exact h _
 ·split
  ·exact kn h
  ·exact trivial
 ·split
  ·exact kn fun y z=>h z
  ·exact trivial
 ·exact trivial
theorem mz {v:AV} {k:TV->Out} (h:∀ y,(k y).All p):(qV look v k).All p:=by
 unfold qV
 split
 ·exact eh h
 ·exact h _
 ·exact h _
 ·exact trivial
theorem ta {c:CA} {k:TV->Out} (h:∀ y,(k y).All p):(qA look c k).All p:=by
 unfold qA
 split
 ·exact h _
 ·exact eh fun y=>h _
 ·exact eh fun y=>h _
 ·exact trivial
theorem sG {k:List TV->Out}:∀ {cs:List CA} {k:List TV->Out},(∀ y,(k y).All p)->(ya look cs k).All p
 | [],k,h=>h _
 | c :: cs,k,h=>ta fun y=>sG (k:=fun _=>.fail) fun ys=>h _
theorem yT {v:AV} {k:TV->Out} (h:∀ y,(k y).All p):(qU look v k).All p:=by
 unfold qU
 split
 ·exact ta h
 ·exact h _
 ·exact sG (k:=fun _=>.fail) fun ys=>h _
 ·exact trivial
 ·exact trivial
 ·exact h _
theorem nc:∀ {vs:List AV} {k:List TV->Out},(∀ y,(k y).All p)->(lends look vs k).All p
 | [],k,h=>h _
 | v :: vs,k,h=>yT fun y=>nc fun ys=>h _
theorem sw {c:CA} {k:TV->List (Nat × Nat)->Out} (h:∀ y r,(k y r).All p):(rP look c k).All p:=by
 unfold rP
 split
 ·exact h _ _
 ·split
  ·split
   ·exact h _ _
   ·exact fun y=>h _ _
  ·exact trivial
 ·split
  ·split
   ·exact fun y=>h _ _
   ·exact fun z y=>h _ _
  ·exact trivial
 ·exact trivial
theorem tI:∀ {cs:List CA} {k:List TV->List (Nat × Nat)->Out},(∀ y r,(k y r).All p)->(ye look cs k).All p
 | [],k,h=>h _ _
 | c :: cs,k,h=>sw fun y r=>tI fun ys rs=>h _ _
theorem zM {v:AV} {k:TV->List (Nat × Nat)->Out} (h:∀ y r,(k y r).All p):(qz look v k).All p:=by
 unfold qz
 split
 ·exact sw h
 ·exact h _ _
 ·exact tI fun ys rs=>h _ _
 ·exact trivial
 ·exact trivial
 ·exact h _ _
theorem nM:∀ {vs:List AV} {k:List TV->List (Nat × Nat)->Out},(∀ y r,(k y r).All p)->(hands look vs k).All p
 | [],k,h=>h _ _
 | v :: vs,k,h=>zM fun y r=>nM fun ys rs=>h _ _
theorem di:∀ {cs:List CA} {k:List TV->List Prim->List (Nat × Nat)->Out},(∀ y q r,(k y q r).All p)->(bX look cs k).All p
 | [],k,h=>h _ _ _
 | .t x :: l,k,h=>by
  simp only [bX]
  exact di (cs:=l) fun xs ps ts=>h _ _ _
 | .sref i r q :: l, k, h => by
  simp only [bX]
  split
  ·split
   ·exact di (cs:=l) fun xs ps ts=>h _ _ _
   ·exact fun y=>di (cs:=l) fun xs ps ts=>h _ _ _
  ·exact trivial
 | .swin i r q lo len :: l, k, h => by
  simp only [bX]
  split
  ·split
   ·exact fun y=>di (cs:=l) fun xs ps ts=>h _ _ _
   ·exact fun z y=>di (cs:=l) fun xs ps ts=>h _ _ _
  ·exact trivial
 | .ptr _ _ :: l,k,h=>trivial
 | .ref _ _ :: l,k,h=>trivial
 | .tptr _ _ _ _ _ :: l,k,h=>trivial
 | .may _ _ :: l,k,h=>trivial
 | .aptr _ _ _ _ :: l,k,h=>trivial
 | .ifp _ _ :: l,k,h=>trivial
 | .fn1 _ _ :: l,k,h=>trivial
 | .psl _ _ :: l,k,h=>trivial
 | .yl _ :: l,k,h=>trivial
 | .undef :: l,k,h=>trivial
 | .junk :: l,k,h=>trivial
theorem df:∀ {cs:List CA} {k:List TV->List Prim->List (Nat × Nat)->Out},(∀ y q r,(k y q r).All p)->(bD look cs k).All p
 | [],k,h=>h _ _ _
 | .t x :: l,k,h=>by
  simp only [bD]
  exact df (cs:=l) fun xs ps ts=>h _ _ _
 | .sref i r q :: l, k, h => by
  simp only [bD]
  split
  ·split
   ·exact df (cs:=l) fun xs ps ts=>h _ _ _
   ·exact fun y=>⟨df (cs:=l) fun xs ps ts=>h _ _ _,fun x'=>df (cs:=l) fun xs ps ts=>h _ _ _⟩
  ·exact trivial
 | .swin i r q lo len :: l, k, h => by
  simp only [bD]
  split
  ·split
   ·exact fun y=>df (cs:=l) fun xs ps ts=>h _ _ _
   ·exact fun z y=>df (cs:=l) fun xs ps ts=>h _ _ _
  ·exact trivial
 | .ptr _ _ :: l,k,h=>trivial
 | .ref _ _ :: l,k,h=>trivial
 | .tptr _ _ _ _ _ :: l,k,h=>trivial
 | .may _ _ :: l,k,h=>trivial
 | .aptr _ _ _ _ :: l,k,h=>trivial
 | .ifp _ _ :: l,k,h=>trivial
 | .fn1 _ _ :: l,k,h=>trivial
 | .psl _ _ :: l,k,h=>trivial
 | .yl _ :: l,k,h=>trivial
 | .undef :: l,k,h=>trivial
 | .junk :: l,k,h=>trivial
theorem dn {agg:Bool} {n:Nat} {x:AV} {k:List CA->Out} (h:∀ cs,(k cs).All p):(x.aO agg n k).All p:=by
 unfold AV.aO
 split
 ·rename_i c; cases c.kept <;> first | exact trivial | exact h _
 ·exact h _
 ·exact h _
 ·exact h _
 ·rename_i cs; cases cs.length.beq n <;> first | exact trivial | exact h _
 ·exact h _
 ·exact trivial
theorem qm {at_:Nat->Option (Nat × Bool × Nat)} {k:List CA->Out} (h:∀ cs,(k cs).All p):∀ (is:List Nat) (vs:List AV) (cs:List CA),(bC at_ is vs cs k).All p
 | [],[],cs=>h cs
 | i :: is, x :: vs, cs => by
  simp only [bC]
  split
  ·refine dn (fun ps=>?_)
   exact aE (qm h is vs _) trivial
  ·exact trivial
 | [],_ :: _,cs=>trivial
 | _ :: _,[],cs=>trivial
theorem dQ {v:Option AV} {k:Option Nat->Out} (h:∀ n,(k n).All p):(ej v k).All p:=by
 unfold ej
 split
 ·exact h _
 ·split
  ·exact fun v=>h _
  ·exact trivial
abbrev fF (e:Eff):Prop:=∃ v,e=.val v
abbrev jE (e:Eff):Prop:=∃ b v,e=.new b v
theorem vb {d:TyD} {x:List TV} {off:Nat}:(je d x off).All fF:=by
 unfold je
 cases d.kd.isAgg
 ·exact ⟨_,rfl⟩
 ·exact ⟨_,rfl⟩
theorem tK:∀ {vs:List AV} {k:List CA->Out},(∀ cs,(k cs).All p)->(jw vs k).All p
 | [],k,h=>h _
 | v :: vs,k,h=>dn fun cs=>tK fun cs'=>h _
theorem sX {b k:Nat}:∀ {n:Nat},(xM b k n).All fF
 | 0=>trivial
 | n + 1=>⟨⟨_,rfl⟩,sX⟩
theorem Do {op:Op} (h:al op=.N) (vs:List AV):(opL E id look op vs).All fF:=by
 cases op with
 | move x=>rcases vs with _ | ⟨v,_ | ⟨v',r⟩⟩ <;> first | exact trivial | exact ⟨_,rfl⟩
 | assign x=>rcases vs with _ | ⟨v,_ | ⟨v',r⟩⟩ <;> first | exact trivial | exact ⟨_,rfl⟩
 | pick c x y =>
  rcases vs with _ | ⟨v,_ | ⟨v',_ | ⟨v'',_ | ⟨v3,r⟩⟩⟩⟩ <;> first | exact trivial | skip
  simp only [opL]
  split <;> first | exact trivial | exact ⟨_,rfl⟩ | exact ⟨⟨_,rfl⟩,⟨_,rfl⟩⟩
 | build t parts =>
  simp only [opL]
  split
  ·refine aE ?_ trivial
   refine qm ?_ _ _ _
   exact fun cs=>⟨_,rfl⟩
  ·exact trivial
 | nilCheck x =>
  rcases vs with _ | ⟨v,_ | ⟨v',r⟩⟩ <;> first | exact trivial | skip
  simp only [opL]
  split <;> first | exact trivial | exact ⟨_,rfl⟩
 | unOp op xt x =>
  rcases vs with _ | ⟨v,_ | ⟨v',r⟩⟩ <;> first | exact trivial | skip
  simp only [opL]
  split
  ·exact ⟨_,rfl⟩
  ·split
   ·exact fun v=>⟨_,rfl⟩
   ·exact trivial
 | fieldAddr t x f =>
  rcases vs with _ | ⟨v,_ | ⟨v',r⟩⟩ <;> first | exact trivial | skip
  simp only [opL]
  split
  ·split
   ·refine aE ?_ trivial
    split <;> first | exact trivial | exact ⟨_,rfl⟩
   ·exact trivial
  ·exact trivial
 | field t x f =>
  rcases vs with _ | ⟨v,_ | ⟨v',r⟩⟩ <;> first | exact trivial | skip
  simp only [opL]
  split
  ·split
   ·unfold uh
    split
    ·split
     ·split <;> first | exact trivial | exact ⟨_,rfl⟩
     ·exact trivial
    ·exact ⟨_,rfl⟩
    ·exact trivial
   ·exact trivial
  ·exact trivial
 | index t x y =>
  rcases vs with _ | ⟨v,_ | ⟨v',_ | ⟨v'',r⟩⟩⟩ <;> first | exact trivial | skip
  simp only [opL]
  split
  ·exact fun v=>⟨_,rfl⟩
  ·unfold pE
   split
   ·split
    ·refine aE ?_ trivial
     split
     ·exact fun k v=>⟨_,rfl⟩
     ·exact trivial
    ·exact trivial
   ·exact trivial
 | extract x j =>
  rcases vs with _ | ⟨v,_ | ⟨v',r⟩⟩ <;> first | exact trivial | skip
  simp only [opL]
  split
  ·split
   ·split <;> first | exact trivial | exact ⟨_,rfl⟩
   ·exact trivial
  ·exact trivial
 | makeFunc fn first cap =>
  cases fn with
  | func f =>
   simp only [opL]
   exact aE (tK fun cs=>⟨_,rfl⟩) trivial
  | _=>exact trivial
 | call c =>
  obtain ⟨callee,args,tys⟩:=c
  cases callee with
  | builtin b=>cases b <;> simp [al] at h
  | value f=>cases f <;> simp [al] at h
  | invoke r m=>simp [al] at h
 | makeInterface t x =>
  rcases vs with _ | ⟨v,_ | ⟨v',r⟩⟩ <;> first | exact trivial | skip
  simp only [opL]
  split
  ·unfold A1
   refine aE ?_ trivial
   split
   ·exact ⟨_,rfl⟩
   ·split
    ·exact fun v=>⟨_,rfl⟩
    ·exact trivial
  ·exact trivial
 | typeAssert x xt t ok =>
  rcases vs with _ | ⟨v,_ | ⟨v',r⟩⟩ <;> cases ok <;> first | exact trivial | skip
  simp only [opL]
  split
  ·unfold sv
   refine aE ?_ trivial
   split
   ·exact fun v=>⟨_,rfl⟩
   ·exact trivial
  ·exact trivial
 | _=>simp [al] at h
theorem A5 {op:Op} (h:al op=.R) (vs:List AV):(opL E id look op vs).All fF:=by
 cases op with
 | load t x =>
  rcases vs with _ | ⟨v,_ | ⟨v',r⟩⟩ <;> first | exact trivial | skip
  simp only [opL]
  split
  ·unfold xS
   split
   ·refine aE trivial ?_
    split
    ·exact fun v=>⟨_,rfl⟩
    ·exact trivial
   ·split
    ·split
     ·split
      ·exact ⟨_,rfl⟩
      ·exact trivial
     ·exact trivial
    ·exact trivial
   ·exact vb
   ·split
    ·refine kn (fun s e=>?_)
     simp only [Prg.All]
     split
     ·exact ⟨_,rfl⟩
     ·exact trivial
    ·exact trivial
   ·exact trivial
  ·exact trivial
 | convert xt dt x =>
  rcases vs with _ | ⟨v,_ | ⟨v',r⟩⟩ <;> first | exact trivial | skip
  simp only [opL]
  split
  ·unfold yo
   split
   ·exact trivial
   ·split
    ·exact fun v=>⟨_,rfl⟩
    ·exact trivial
  ·exact trivial
 | binOp op xt x y yt =>
  rcases vs with _ | ⟨v,_ | ⟨v',_ | ⟨v'',r⟩⟩⟩ <;> first | exact trivial | skip
  simp only [opL]
  split
  ·unfold CD
   split
   ·split
    ·refine dn fun cs=>dn fun cs'=>?_
     split
     ·exact fun v=>⟨_,rfl⟩
     ·exact trivial
    ·exact trivial
   ·unfold C7
    split
    ·exact ⟨_,rfl⟩
    ·exact ⟨_,rfl⟩
    ·exact trivial
   unfold CK
   refine aE (mz fun x=>mz fun y=>fun v=>⟨_,rfl⟩) ?_
   split
   ·exact fun v=>⟨_,rfl⟩
   ·exact trivial
  ·exact trivial
 | slice t x lo hi mx =>
  have sl:∀ {kd:Kd} {sz:Nat} {x:AV} {lo hi:Option AV},(gA look kd sz x lo hi).All fF:=by
   intro kd sz x lo hi
   unfold gA
   split
   ·exact dQ fun lo=>dQ fun hi=>fun v=>⟨_,rfl⟩
   ·split
    ·exact eh fun s n=>dQ fun lo=>dQ fun hi=>⟨_,rfl⟩
    ·split
     ·exact eh fun s=>dQ fun hi=>⟨_,rfl⟩
     ·exact eh fun s=>dQ fun lo=>dQ fun hi=>⟨_,rfl⟩
    ·exact trivial
  cases mx with
  | some m=>rcases vs with _ | ⟨v,r⟩ <;> exact trivial
  | none =>
   rcases vs with _ | ⟨v,r⟩
   ·exact trivial
   ·simp only [opL]
    split
    ·split
     ·split <;> first | exact trivial | exact sl
     ·exact trivial
    ·exact trivial
 | indexAddr t x y =>
  rcases vs with _ | ⟨v,_ | ⟨v',_ | ⟨v'',r⟩⟩⟩ <;> first | exact trivial | skip
  simp only [opL]
  split
  ·unfold nU
   split
   ·split
    ·exact fun v=>⟨_,rfl⟩
    ·split
     ·exact eh fun s n k=>⟨_,rfl⟩
     ·exact eh fun s k=>⟨_,rfl⟩
     ·exact aE (fun k=>sX) trivial
     ·exact trivial
   ·exact trivial
  ·unfold pp
   split
   ·split
    ·exact aE (fun k=>⟨_,rfl⟩) trivial
    ·exact trivial
   ·exact trivial
 | call c =>
  obtain ⟨callee,args,tys⟩:=c
  cases callee with
  | builtin b =>
   have mn:∀ {mx:Bool} {x y:AV},(vl mx x y).All fF:=by
    intro mx x y
    unfold vl
    split
    ·exact fun v=>⟨_,rfl⟩
    ·exact trivial
   cases b <;> simp [al] at h
   all_goals simp only [opL]
   all_goals unfold dl
   all_goals split <;> first | exact trivial | exact mn | contradiction | skip
   split
   ·unfold uS
    split
    ·exact ⟨_,rfl⟩
    ·split
     ·exact ⟨_,rfl⟩
     ·exact mz fun s v=>⟨_,rfl⟩
    ·exact mz fun s v=>⟨_,rfl⟩
   ·exact trivial
  | value f=>cases f <;> simp [al] at h
  | invoke r m=>simp [al] at h
 | _=>simp [al] at h
theorem cls_A {op:Op} (h:al op=.A) (vs:List AV):(opL E id look op vs).All jE:=by
 cases op with
 | alloc t =>
  rcases vs with _ | ⟨v,r⟩ <;> first | exact trivial | skip
  simp only [opL]
  split
  ·exact ⟨_,_,rfl⟩
  ·exact trivial
 | box t x =>
  rcases vs with _ | ⟨v,_ | ⟨v',r⟩⟩ <;> first | exact trivial | skip
  simp only [opL]
  split
  ·exact dn (fun cs=>⟨_,_,rfl⟩)
  ·exact trivial
 | makeSlice t x y =>
  rcases vs with _ | ⟨v,_ | ⟨v',_ | ⟨v'',r⟩⟩⟩ <;> first | exact trivial | skip
  simp only [opL]
  split
  ·refine aE ?_ trivial
   exact fun n m=>⟨_,_,rfl⟩
  ·exact trivial
 | call c =>
  obtain ⟨callee,args,tys⟩:=c
  cases callee with
  | builtin b=>cases b <;> simp [al] at h
  | value f=>cases f <;> simp [al] at h
  | invoke r m=>simp [al] at h
 | _=>simp [al] at h
theorem gV {ps:List Prim} {b:BC} {v:AV}:(cg ps b v).plain=true->fF (cg ps b v)\/jE (cg ps b v):=by
 cases ps with
 | nil=>exact fun _=>.inr ⟨_,_,rfl⟩
 | cons q l=>exact fun h=>by cases h
theorem tQ {ps:List Prim} {v:AV}:(match ps with | []=>Eff.val v | _=>.gen ps v).plain=true->fF (match ps with | []=>Eff.val v | _=>.gen ps v)\/jE (match ps with | []=>Eff.val v | _=>.gen ps v):=by
 cases ps with
 | nil=>exact fun _=>.inl ⟨_,rfl⟩
 | cons q l=>exact fun h=>by cases h
theorem jf {d:TyD} {x:TV} {k:Out} (h:k.All p):(ic d x k).All p:=by
 unfold ic
 exact aE h h
theorem oX {x:TV} {k:Out} (h:k.All p):∀ (ds:List TyD) (j:Nat),(eX x ds j k).All p
 | [],j=>h
 | d :: ds,j=>jf (oX h ds (j + 1))
theorem ve {ds:List TyD} {v:TV} {ps:List Prim}:(uj id ds v ps).All fun e=>e.plain=true->fF e\/jE e:=by
 have many:∀ ds:List TyD,(Prg.chk (v.isTup ds.length) (eX v ds 0 (bif fx ds then .ret (cg ps (.tree (a7 v ds 0)) (.tups (cY id v ds 0 0)))
   else .ret (match ps with | []=>.val (.tups (cY id v ds 0 0)) | _=>.gen ps (.tups (cY id v ds 0 0)))))).All fun e=>e.plain=true->fF e\/jE e:=by
  intro ds
  refine oX ?_ ds 0
  exact aE gV tQ
 match ds with
 | []=>exact many []
 | [d] =>
  simp only [uj]
  refine jf ?_
  split
  ·exact aE gV tQ
  ·exact trivial
 | d :: d' :: l=>exact many _
theorem As {ds:List TyD} {v:TV} {k:AV->Out} {p:Eff->Prop} (h:∀ av,(k av).All p):(Bd id ds v k).All p:=by
 have some:∀ (ds:List TyD) (j:Nat) (k:Out),k.All p->(eX v ds j k).All p:=by
  intro ds
  induction ds with
  | nil=>intro j k h; exact h
  | cons d ds ih=>intro j k h; exact jf (ih (j + 1) k h)
 unfold Bd
 split
 ·refine jf ?_
  split
  ·exact h _
  ·exact trivial
 ·exact some _ 0 _ (h _)
theorem zU {f:FuncId} {ld:dm} {vs:List AV}:(mc E id look f ld vs).All fun e=>e.plain=true->fF e\/jE e:=by
 unfold mc
 split
 ·split
  ·refine aE trivial ?_
   exact nM fun xs rs=>di fun ys qs ts=>aE (fun v=>As fun av=>fun h=>by simp [Eff.plain] at h) trivial
  ·exact trivial
 ·exact trivial
theorem zC {f:FuncId} {c:Nat × Nat} {vs:List AV}:(vY look f c vs).All fun e=>e.plain=true->fF e\/jE e:=by
 exact trivial
theorem zd {f:FuncId} {vs:List AV}:(pI look f vs).All fun e=>e.plain=true->fF e\/jE e:=by
 exact trivial
theorem AE {f:FuncId} {i:Nat} {vs:List AV}:(AQ E id look f i vs).All fun e=>e.plain=true->fF e\/jE e:=by
 exact trivial
theorem cls_B {op:Op} (h:al op=.B) (vs:List AV):(opL E id look op vs).All fun e=>e.plain=true->fF e\/jE e:=by
 cases op with
 | buildSlice t len parts =>
  simp only [opL]
  refine aE ?_ ?_
  ·exact trivial
  unfold gE
  split
  ·refine qm (fun cs=>?_) _ _ _
   refine aE (fun _=>.inr ⟨_,_,rfl⟩) ?_
   refine df fun ys qs ts=>?_
   exact aE gV trivial
  ·exact trivial
 | call c =>
  obtain ⟨callee,args,tys⟩:=c
  cases callee with
  | builtin b=>cases b <;> simp [al] at h
  | value f =>
   cases f with
   | func f =>
    rcases vs with _ | ⟨v,r⟩
    ·exact trivial
    ·simp only [opL,li]
     refine aE zd (aE trivial ?_)
     split
     ·exact zC
     split
     ·exact zU
     ·split
      ·refine aE ?_ ?_
       ·exact nc fun xs=>fun v=>ve
       ·exact nM fun xs rs=>aE (fun v=>ve) trivial
      ·exact trivial
   | tmp t =>
    rcases vs with _ | ⟨v,r⟩
    ·exact trivial
    ·simp only [opL]
     split
     ·exact fun f=>nc fun xs v=>fun _=>.inl ⟨_,rfl⟩
     ·split
      ·exact AE
      ·exact trivial
   | _=>simp [al] at h
  | invoke r m=>simp [al] at h
 | _=>simp [al] at h
abbrev isUpd (look:Look) (e:Eff):Prop:=∃ i b v,e=.upd i b v/\(look i).isSome=true
theorem B7 {op : Op} (h : al op = .W) (vs : List AV) : (opL E id look op vs).All fun e => e.plain = true → isUpd look e := by
 cases op with
 | store t x y =>
  rcases vs with _ | ⟨v,_ | ⟨v',_ | ⟨v'',r⟩⟩⟩ <;> first | exact trivial | skip
  simp only [opL]
  split
  ·unfold uf
   split
   ·refine aE trivial ?_
    split
    ·rename_i cs xs hrow
     refine dn (fun ps=>?_)
     split
     ·exact fun _=>⟨_,_,_,rfl,by simp [(gY hrow).1]⟩
     ·exact trivial
    ·exact trivial
   ·refine dn (fun ps=>?_)
    split
    ·rename_i cs hl
     exact aE (fun _=>⟨_,_,_,rfl,by simp [hl]⟩) trivial
    ·exact trivial
   ·refine dn (fun ps=>?_)
    split
    ·refine aE trivial (aE ?_ ?_)
     ·refine di fun ys qs ts=>aE ?_ trivial
      exact kn fun s e=>fun x' hp=>by cases hp
     ·refine di fun ys qs ts=>?_
      split
      ·refine aE ?_ trivial
       refine kn fun s e=>?_
       simp only [Prg.All]
       intro x'
       split
       ·rename_i b hb
        refine fun _=>⟨_,_,_,rfl,?_⟩
        unfold bP at hb
        split at hb
        ·rename_i hl; simp [hl]
        ·cases hb
       ·exact trivial
      ·exact trivial
    ·exact trivial
   ·exact trivial
  ·exact trivial
 | call c =>
  obtain ⟨callee,args,tys⟩:=c
  cases callee with
  | builtin b=>cases b <;> simp [al] at h
  | value f=>cases f <;> simp [al] at h
  | invoke r m=>simp [al] at h
 | _=>simp [al] at h
theorem vx {d:TyD} {s:AV} {news:List (List TV)} {ps:List Prim}:(m8 id look d s news ps).All fun e=>e.plain=true->fF e\/jE e:=by
 unfold m8
 split
 ·exact aE (fun y=>gV) trivial
 ·split
  ·split
   ·split
    ·exact fun y h=>by cases h
    ·exact fun z y x' h=>by cases h
   ·exact trivial
  ·split
   ·split
    ·exact fun z y h=>by cases h
    ·exact fun z0 z y x' h=>by cases h
   ·exact trivial
  ·exact trivial
theorem BA {d:TyD} {dest:Option Nat} {x:AV} {k:List (List TV)->List Prim->Out} (h:∀ xs ps,(k xs ps).All p):(wB look d dest x k).All p:=by
 unfold wB
 split
 ·exact fun xs=>h _ _
 ·split
  ·refine aE ?_ ?_
   ·split
    ·split
     ·split
      ·exact aE trivial (fun xs=>h _ _)
      ·exact fun y=>fun xs=>h _ _
     ·exact trivial
    ·split
     ·split
      ·exact aE trivial (fun y xs=>h _ _)
      ·exact fun z y=>fun xs=>h _ _
     ·exact trivial
    ·exact trivial
   ·exact eh (fun s xs=>h _ _)
  ·exact trivial
theorem cls_P {op:Op} (h:al op=.P) (vs:List AV):(opL E id look op vs).All fun e=>e.plain=true->fF e\/jE e:=by
 cases op with
 | call c =>
  obtain ⟨callee,args,tys⟩:=c
  cases callee with
  | builtin b =>
   cases b <;> simp [al] at h
   simp only [opL]
   unfold dl
   split <;> try (first | exact trivial | contradiction)
   split
   ·refine aE ?_ ?_
    ·unfold mD
     exact aE (BA (fun xs ps=>vx)) trivial
    ·split
     ·exact trivial
     ·exact trivial
   ·exact trivial
  | value f=>cases f <;> simp [al] at h
  | invoke r m=>simp [al] at h
 | _=>simp [al] at h
theorem s7 {op:Op} (h:al op=.N\/al op=.A) (vs:List AV):opL E id look op vs=opL E id look' op vs:=by
 cases op <;> first
  | (rcases vs with _ | ⟨a,_ | ⟨b,_ | ⟨c,_ | ⟨d,r⟩⟩⟩⟩ <;> rfl)
  | (simp [al] at h; done)
  | (rename_i fn _ _; cases fn <;> rfl)
  | (rename_i ok; cases ok <;> rcases vs with _ | ⟨a,_ | ⟨b,r⟩⟩ <;> rfl)
  | skip
 all_goals
  rename_i c
  obtain ⟨callee,args,tys⟩:=c
  cases callee with
  | builtin b=>cases b <;> simp [al] at h
  | value f=>cases f <;> simp [al] at h
  | invoke r m=>simp [al] at h
end
end Go.Ab
end

import Derived.Test.YthfcodidfelpoaaAM12b
set_option linter.all false
section
namespace Go.Ab
open Go.RowKit
structure gR (P:Program) (G:Laid) (E:Env) (C:Cal):Prop where
 ty:∀ t d,E.T t=some d->aV P t d
 call:yi P G E C
section
variable {P:Program} {E:Env} {C:Cal} {w0:Bs} {w w':World} {I0 I R:Nat->Prop} {g g':Gh} {st st':ASt} {a:Act} {ov:List Value} {look:Look} {Q:Exit->Act->World->Prop} {id:Nat}
theorem Cv (hE:gR P w0.G E C) (hlk:∀ i b,look i=some b->st.look i=some b) (hs:ai w0 I0 NoR g st a ov w) {o:Oper} {e:Eff} (hh:(opL E (st.nid o.dst) look o.op (o.op.operands.toList.map st.ev)).hits C e) (ha:e.app st o.dst=some st') :
  Good P w0 I0 ov o st' a w Q:=by
 obtain ⟨dst,op,type,pos,after,guard⟩:=o
 cases op with
 | move x=>exact ED hs hh ha
 | assign x=>exact Bg hs hh ha
 | pick c x y=>exact EY hs hh ha
 | alloc t=>exact Cm hE.ty hs hh ha
 | box t x=>exact op_box hE.ty hs hh ha
 | build t parts=>exact B5 hE.ty hs hh ha
 | makeFunc fn first cap=>exact ya hs hh ha
 | buildSlice t len parts =>
  simp only [opL] at hh
  cases hc:E.cold t && !(len.beq 0) with
  | true=>rw [hc] at hh; exact EO hE.ty hlk hs hh ha
  | false=>rw [hc] at hh; exact uv hE.ty hlk hs hh ha
 | load t x=>exact EP hE.ty hlk hs hh ha
 | store t x y=>exact Cs hE.ty hlk hs hh ha
 | nilCheck x=>exact xS hs hh ha
 | binOp op xt x y yt=>exact op_bin hE.ty hlk hs hh ha
 | unOp op xt x=>exact op_un hs hh ha
 | convert xt dt x=>exact yQ hE.ty hlk hs hh ha
 | makeSlice t x y=>exact vP hE.ty hs hh ha
 | makeInterface t x=>exact op_ifc hE.ty hs hh ha
 | typeAssert x xt t ok=>exact EV hE.ty hs hh ha
 | slice t x lo hi mx=>exact Du hE.ty hlk hs hh ha
 | fieldAddr t x f=>exact vQ hE.ty hs hh ha
 | field t x f=>exact DL hE.ty hs hh ha
 | indexAddr t x y=>exact vZ hE.ty hlk hs hh ha
 | index t x y=>exact D0 hE.ty hs hh ha
 | extract x j=>exact zp hs hh ha
 | call c =>
  obtain ⟨callee,args,tys⟩:=c
  cases callee with
  | builtin b =>
   have hops:(Op.call ⟨.builtin b,args,tys⟩).operands.toList=args.toList:=by simp [Op.operands,Call.operands]
   simp only [hops] at hh
   simp only [opL] at hh
   unfold eE at hh
   split at hh
   ·rename_i x ty hargs htys
    obtain ⟨ox,rfl,hox⟩:=list1 hargs
    have:=arr1 htys
    subst this
    split at hh
    ·rename_i d hT
     rw [<- hox] at hh
     exact zf hlk hs (hE.ty _ _ hT) hh ha
    ·exact hh.elim
   ·rename_i s x ty ty' hargs htys
    obtain ⟨os,ox,rfl,hos,hox⟩:=list2 hargs
    have:=arr2 htys
    subst this
    split at hh
    ·rename_i e1 d hel
     cases hb:Nat.beq ty ty' with
     | false =>
      simp only [hb,cond_false] at hh
      split at hh
      ·rename_i hu
       rw [<- hos,<- hox] at hh
       exact rX hE.ty hlk hs hel hu rfl hh ha
      ·exact hh.elim
     | true =>
      simp only [hb,cond_true] at hh
      have:=(ap _ _).1 hb
      subst this
      rw [<- hos,<- hox] at hh
      exact ur hE.ty hlk hs hel hh ha
    ·exact hh.elim
   ·rename_i s x ty ty' hargs htys
    obtain ⟨os,ox,rfl,hos,hox⟩:=list2 hargs
    have:=arr2 htys
    subst this
    split at hh
    ·rename_i e1 d hel
     cases hb:Nat.beq ty ty' with
     | false=>simp [hb,Prg.hits] at hh
     | true =>
      simp only [hb,cond_true] at hh
      have:=(ap _ _).1 hb
      subst this
      rw [<- hos,<- hox] at hh
      exact yd hE.ty hlk hs hel hh ha
    ·exact hh.elim
   ·rename_i s ty hargs htys
    obtain ⟨os,rfl,hos⟩:=list1 hargs
    have:=arr1 htys
    subst this
    split at hh
    ·rename_i e1 d hel
     rw [<- hos] at hh
     exact wg hE.ty hlk hs hel hh ha
    ·exact hh.elim
   ·rename_i x y hargs
    obtain ⟨ox,oy,rfl,hox,hoy⟩:=list2 hargs
    rw [<- hox,<- hoy] at hh
    exact tI hs hh ha
   ·rename_i x y hargs
    obtain ⟨ox,oy,rfl,hox,hoy⟩:=list2 hargs
    rw [<- hox,<- hoy] at hh
    exact tI hs hh ha
   ·exact hh.elim
  | value f =>
   cases f with
   | func f =>
    have hops:(Op.call ⟨.value (.func f),args,tys⟩).operands.toList=.func f :: args.toList:=by simp [Op.operands,Call.operands]
    simp only [hops,List.map_cons] at hh
    exact E8 hE.call hE.ty hlk hs hh ha
   | tmp t =>
    have hops:(Op.call ⟨.value (.tmp t),args,tys⟩).operands.toList=.tmp t :: args.toList:=by simp [Op.operands,Call.operands]
    simp only [hops,List.map_cons] at hh
    exact op_dyn hE.call hE.ty hlk hs hh ha
   | _=>simp [opL,Prg.hits] at hh
  | invoke r m=>simp [opL,Prg.hits] at hh
 | _=>simp [opL,Prg.hits] at hh
def AV.nf:AV->AV
 | .one (.t (.lit (.bool b)))=>.bl b
 | .tv (.lit (.bool b))=>.bl b
 | v=>v
def Eff.nfE:Eff->Eff
 | .val v=>.val v.nf
 | .new b v=>.new b v.nf
 | .upd i b v=>.upd i b v.nf
 | .gen ps v=>.gen ps v.nf
def ASt.nfS (st:ASt):ASt:=⟨st.slots.map AV.nf,st.boxes,st.out⟩
theorem aE (v:AV):v.nf=v\/∃ b,v.nf=.bl b/\(v=.one (.t (.lit (.bool b)))\/v=.tv (.lit (.bool b))):=by
 unfold AV.nf
 split
 ·exact .inr ⟨_,rfl,.inl rfl⟩
 ·exact .inr ⟨_,rfl,.inr rfl⟩
 ·exact .inl rfl
theorem vI (v:AV):v.nf.nf=v.nf:=by
 rcases aE v with h | ⟨b,h,_⟩
 ·rw [h,h]
 ·rw [h]; rfl
theorem ic (v:AV):v.nf.tv? = v.tv? := by
 rcases aE v with h | ⟨b,h,rfl | rfl⟩
 ·rw [h]
 ·rfl
 ·rfl
theorem C9 {v:AV} {u:Value}:bL w g look v.nf u ↔ bL w g look v u:=by
 rcases aE v with h | ⟨b,h,rfl | rfl⟩
 ·rw [h]
 ·rw [h]
  constructor
  ·intro h'
   have:u=.bool b:=h'
   subst this
   exact ⟨.lit _,rfl⟩
  ·intro h'
   exact bC h'.1
 ·rw [h]
  constructor
  ·intro h'
   have:u=.bool b:=h'
   subst this
   exact .lit _
  ·intro h'
   exact bC h'
theorem mJ (v:AV):v.nf.dS=v.dS:=by
 rcases aE v with h | ⟨b,h,rfl | rfl⟩
 ·rw [h]
 ·rw [h]; rfl
 ·rw [h]; rfl
theorem ck (e:Eff):dp e.nfE=dp e:=by cases e <;> simp only [Eff.nfE,dp,mJ]
theorem oh (e:Eff):e.nfE.plain=e.plain:=by cases e <;> rfl
theorem wV (base:Nat) (own:List (List Nat × List Nat)) (e:Eff):e.nfE.ns base own=e.ns base own:=by cases e <;> rfl
theorem xg {S:Type} {agg:Bool} {n:Nat} {v:AV} {k k':List CA->Prg S} {e:S} (hk:∀ cs,(k cs).hits C e->(k' cs).hits C e) (h:(v.ba agg n k).hits C e):(v.ba agg n k').hits C e:=by
 unfold AV.ba at h ⊢
 split at h
 ·rename_i c
  cases hc:c.kept with
  | true=>rw [hc] at h; exact hk _ h
  | false=>rw [hc] at h; exact h.elim
 ·exact ⟨h.1,hk _ h.2⟩
 ·exact hk _ h
 ·exact hk _ h
 ·rename_i cs
  cases hc:cs.length.beq n with
  | true=>rw [hc] at h; exact hk _ h
  | false=>rw [hc] at h; exact h.elim
 ·exact ⟨h.1,hk _ h.2⟩
 ·exact h.elim
theorem fJ {S:Type} {agg:Bool} {n:Nat} {v:AV} {k:List CA->Prg S} {e:S} (h:(v.ba agg n k).hits C e):(v.nf.ba agg n k).hits C e:=by
 rcases aE v with h1 | ⟨b,h1,rfl | rfl⟩
 ·rwa [h1]
 ·rw [h1]
  cases agg with
  | false=>exact h
  | true=>exact h.elim
 ·rw [h1]
  cases agg with
  | false=>exact h.2
  | true=>exact (by simp [AV.ba,TV.isAgg,Prg.hits] at h)
theorem lL {S:Type} {e:S}:∀ {vs:List AV} {k:List CA->Prg S},(kr vs k).hits C e->(kr (vs.map AV.nf) k).hits C e
 | [],k,h=>h
 | x :: vs, k, h => by
  simp only [kr,List.map_cons] at h ⊢
  refine fJ ?_
  unfold AV.ba at h ⊢
  split at h
  ·rename_i c _
   cases hc:c.kept with
   | false=>simp [hc,Prg.hits] at h
   | true=>simp only [hc,cond_true] at h ⊢; exact lL h
  ·exact ⟨h.1,lL h.2⟩
  ·exact lL h
  ·exact lL h
  ·rename_i cs' hb; cases hb
  ·rename_i cs' hb; cases hb
  ·exact h.elim
theorem kg {f:FuncId} {e:Eff}:∀ {vs:List AV} {k:List CA->List CA},(kr vs fun cs=>(.ret (.val (.clo f (k cs))):Out)).hits C e->∃ cs,e=.val (.clo f cs)
 | [],k,h=>⟨_,h.symm⟩
 | x :: vs, k, h => by
  simp only [kr] at h
  unfold AV.ba at h
  split at h
  ·rename_i c _
   cases hc:c.kept with
   | false=>simp [hc,Prg.hits] at h
   | true=>simp only [hc,cond_true] at h; exact kg (k:=fun cs=>k (_ ++ cs)) h
  ·exact kg (k:=fun cs=>k (_ ++ cs)) h.2
  ·exact kg (k:=fun cs=>k (_ ++ cs)) h
  ·exact kg (k:=fun cs=>k (_ ++ cs)) h
  ·rename_i hb; cases hb
  ·rename_i hb; cases hb
  ·exact h.elim
theorem rH {S:Type} {at_:Nat->Option (Nat × Bool × Nat)} {k:List CA->Prg S} {e:S}:∀ {is:List Nat} {vs:List AV} {cs:List CA},(b7 at_ is vs cs k).hits C e->(b7 at_ is (vs.map AV.nf) cs k).hits C e
 | [],[],cs,h=>h
 | i :: is, x :: vs, cs, h => by
  simp only [b7,List.map_cons] at h ⊢
  split at h
  ·rename_i off agg n hat
   have key:∀ ps,((bif (off + ps.length).ble cs.length && ps.length.beq n then b7 at_ is vs (bB cs off ps) k else .fail):Prg S).hits C e->((bif (off + ps.length).ble cs.length && ps.length.beq n then b7 at_ is (vs.map AV.nf) (bB cs off ps) k else .fail):Prg S).hits C e:=by
    intro ps hp
    cases hb:(off + ps.length).ble cs.length && ps.length.beq n with
    | false=>simp [hb,Prg.hits] at hp
    | true=>simp only [hb,cond_true] at hp ⊢; exact rH hp
   refine fJ ?_
   unfold AV.ba at h ⊢
   split at h
   ·rename_i c
    cases hc:c.kept with
    | false=>simp [hc,Prg.hits] at h
    | true=>simp only [hc,cond_true] at h ⊢; exact key _ h
   ·exact ⟨h.1,key _ h.2⟩
   ·exact key _ h
   ·exact key _ h
   ·rename_i cs'
    have:=key cs'
    cases hc:cs'.length.beq n with
    | false=>simp [hc,Prg.hits] at h
    | true=>simp only [hc,cond_true] at h this ⊢; exact this h
   ·exact ⟨h.1,key _ h.2⟩
   ·exact h.elim
  ·exact h.elim
 | [],_ :: _,cs,h=>h.elim
 | _ :: _,[],cs,h=>h.elim
theorem Aa {S:Type} {v:AV} {k:TV->Prg S}:rf look v.nf k=rf look v k:=by
 rcases aE v with h | ⟨b,h,rfl | rfl⟩
 ·rw [h]
 ·rfl
 ·rfl
theorem CJ {S:Type} {v:AV} {k:TV->Prg S}:tL look v.nf k=tL look v k:=by
 rcases aE v with h | ⟨b,h,rfl | rfl⟩
 ·rw [h]
 ·rfl
 ·rfl
theorem DG {S:Type} {v:AV} {k:TV->List (Nat × Nat)->Prg S}:sO look v.nf k=sO look v k:=by
 rcases aE v with h | ⟨b,h,rfl | rfl⟩
 ·rw [h]
 ·rfl
 ·rfl
theorem jP {S:Type}:∀ {vs:List AV} {k:List TV->Prg S},lends look (vs.map AV.nf) k=lends look vs k
 | [],k=>rfl
 | v :: vs,k=>by simp only [List.map_cons,lends,CJ,jP]
theorem sw {S:Type}:∀ {vs:List AV} {k:List TV->List (Nat × Nat)->Prg S},hands look (vs.map AV.nf) k=hands look vs k
 | [],k=>rfl
 | v :: vs,k=>by simp only [List.map_cons,hands,DG,sw]
theorem Cd {E:Env} {id:Nat} {look:Look} {f:FuncId} {ld:fI} (vs:List AV):oO E id look f ld (vs.map AV.nf)=oO E id look f ld vs:=by
 cases vs with
 | nil=>rfl
 | cons v l =>
  rcases aE v with h | ⟨b,h,rfl | rfl⟩
  ·simp only [List.map_cons,h]
   cases v with
   | one c =>
    cases c with
    | ptr i off =>
     cases off with
     | zero=>simp only [oO,sw]
     | succ n=>rfl
    | _=>rfl
   | _=>rfl
  ·simp only [List.map_cons,h]; rfl
  ·simp only [List.map_cons,h]; rfl
theorem Cz {look:Look} {f:FuncId} {c:Nat × Nat} (vs:List AV):pb look f c (vs.map AV.nf)=pb look f c vs:=by
 cases vs with
 | nil=>rfl
 | cons v l =>
  rcases aE v with h | ⟨b,h,rfl | rfl⟩
  ·simp only [List.map_cons,h]
   cases v with
   | one c =>
    cases c with
    | ptr i off =>
     cases off with
     | zero=>simp only [pb,jP]
     | succ n=>rfl
    | _=>rfl
   | _=>rfl
  ·simp only [List.map_cons,h]; rfl
  ·simp only [List.map_cons,h]; rfl
theorem Dh {look:Look} {f:FuncId} (vs:List AV):l9 look f (vs.map AV.nf)=l9 look f vs:=by
 cases vs with
 | nil=>rfl
 | cons v l =>
  rcases aE v with h | ⟨b,h,rfl | rfl⟩
  ·simp only [List.map_cons,h]
   cases v with
   | one c=>cases c <;> simp only [l9,jP]
   | _=>rfl
  ·simp only [List.map_cons,h]; rfl
  ·simp only [List.map_cons,h]; rfl
theorem EE {E:Env} {id:Nat} {look:Look} {f:FuncId} {i:Nat} (vs:List AV):xq E id look f i (vs.map AV.nf)=xq E id look f i vs:=by
 simp only [xq,jP]
theorem Ez (d:TyD) (t:TypeId) (v:AV):Df d t v.nf=Df d t v:=by
 rcases aE v with h | ⟨b,h,rfl | rfl⟩
 ·rw [h]
 ·rfl
 ·rfl
theorem Cu (d:TyD) (t:TypeId) (v:AV):u9 d t v.nf=u9 d t v:=by
 simp only [u9,ic]
theorem BM {S:Type} {v:Option AV} {k:Option Nat->Prg S}:gj (v.map AV.nf) k=gj v k:=by
 cases v with
 | none=>rfl
 | some v=>simp only [gj,FR,ic]
theorem vc (v:AV):tX v.nf=tX v:=by
 rcases aE v with h | ⟨b,h,rfl | rfl⟩
 ·rw [h]
 ·rfl
 ·rfl
theorem Aj {S:Type} {d:TyD} {dest:Option Nat} {v:AV} {k:List (List TV)->List Prim->Prg S}:xJ look d dest v.nf k=xJ look d dest v k:=by
 rcases aE v with h | ⟨b,h,rfl | rfl⟩
 ·rw [h]
 ·rfl
 ·rfl
theorem mB {kd:Kd} {sz:Nat} {x:AV} {lo hi:Option AV}:jd look kd sz x.nf (lo.map AV.nf) (hi.map AV.nf)=jd look kd sz x lo hi:=by
 simp only [jd,ic,BM]
 rcases aE x with h | ⟨b,h,rfl | rfl⟩
 ·rw [h]
  cases lo <;> rfl
 ·rfl
 ·rfl
theorem Cp (v:AV):uJ v.nf=uJ v:=by
 rcases aE v with h | ⟨b,h,rfl | rfl⟩
 ·rw [h]
 ·rfl
 ·rfl
theorem Ej {look:Look} {kd:Kd} (v:AV):wR look kd v.nf=wR look kd v:=by
 rcases aE v with h | ⟨b,h,rfl | rfl⟩
 ·rw [h]
 ·rw [h]; cases kd <;> rfl
 ·rw [h]; cases kd <;> rfl
theorem opL_nf {op : Op} {vs : List AV} {e : Eff} (h : (opL E id look op vs).hits C e) : ∃ e', (opL E id look op (vs.map AV.nf)).hits C e' ∧ e'.nfE = e.nfE := by
 cases op with
 | move x =>
  rcases vs with _ | ⟨v,_ | ⟨v',r⟩⟩ <;> first | exact h.elim | skip
  cases h
  exact ⟨_,rfl,by simp [Eff.nfE,vI]⟩
 | assign x =>
  rcases vs with _ | ⟨v,_ | ⟨v',r⟩⟩ <;> first | exact h.elim | skip
  cases h
  exact ⟨_,rfl,by simp [Eff.nfE,vI]⟩
 | pick c x y =>
  rcases vs with _ | ⟨v,_ | ⟨v',_ | ⟨v'',_ | ⟨v3,r⟩⟩⟩⟩ <;> first | exact h.elim | skip
  simp only [opL] at h
  split at h
  ·rename_i b
   cases h
   refine ⟨_,rfl,?_⟩
   cases b <;> simp [Eff.nfE,vI]
  ·rename_i v
   obtain ⟨b,hb,h⟩:=h
   have hv:v=.lit (.bool b):=by
    unfold asBool at hb
    split at hb
    ·cases hb; rfl
    ·cases hb
   subst hv
   rcases h with ⟨rfl,h⟩ | ⟨rfl,h⟩ <;> (cases h; exact ⟨_,rfl,by simp [Eff.nfE,vI]⟩)
  ·rename_i v
   obtain ⟨b,hb,h⟩:=h
   have hv:v=.lit (.bool b):=by
    unfold asBool at hb
    split at hb
    ·cases hb; rfl
    ·cases hb
   subst hv
   rcases h with ⟨rfl,h⟩ | ⟨rfl,h⟩ <;> (cases h; exact ⟨_,rfl,by simp [Eff.nfE,vI]⟩)
  ·exact h.elim
 | alloc t =>
  rcases vs with _ | ⟨v,r⟩ <;> first | exact h.elim | exact ⟨e,h,rfl⟩
 | box t x =>
  rcases vs with _ | ⟨v,_ | ⟨v',r⟩⟩ <;> first | exact h.elim | skip
  refine ⟨e,?_,rfl⟩
  simp only [opL,List.map_cons,List.map_nil] at h ⊢
  split at h
  ·exact fJ h
  ·exact h.elim
 | makeFunc fn first cap =>
  cases fn with
  | func f =>
   have:∃ cs,e=.val (.clo f cs):=by
    simp only [opL] at h
    cases hb:first.size.beq 0 with
    | false=>simp [hb,Prg.hits] at h
    | true =>
     simp only [hb,cond_true] at h
     exact kg (k:=fun l=>l) h
   obtain ⟨cs,rfl⟩:=this
   refine ⟨_,?_,rfl⟩
   simp only [opL] at h ⊢
   cases hb:first.size.beq 0 with
   | false=>simp [hb,Prg.hits] at h
   | true=>simp only [hb,cond_true] at h ⊢; exact lL h
  | _=>exact h.elim
 | build t parts =>
  refine ⟨e,?_,rfl⟩
  simp only [opL] at h ⊢
  split at h
  ·rename_i d hd
   cases hb:mc E.T d.kd with
   | false=>simp [hb,Prg.hits] at h
   | true=>simp only [hb,cond_true] at h ⊢; exact rH h
  ·exact h.elim
 | buildSlice t len parts =>
  refine ⟨e,?_,rfl⟩
  simp only [opL] at h ⊢
  cases hc:E.cold t && !(len.beq 0) with
  | true =>
   rw [hc] at h
   simp only [cond_true] at h ⊢
   unfold th at h ⊢
   split at h
   ·exact rH h
   ·exact h.elim
  | false =>
   rw [hc] at h
   simp only [cond_false] at h ⊢
   unfold iW at h ⊢
   split at h
   ·exact rH h
   ·exact h.elim
 | load t x =>
  rcases vs with _ | ⟨v,_ | ⟨v',r⟩⟩ <;> first | exact h.elim | skip
  refine ⟨e,?_,rfl⟩
  rcases aE v with h1 | ⟨b,h1,rfl | rfl⟩
  ·simpa only [List.map_cons,List.map_nil,h1] using h
  ·simp only [opL] at h; split at h <;> exact h.elim
  ·simp only [opL] at h; split at h <;> exact h.elim
 | store t x y =>
  rcases vs with _ | ⟨v,_ | ⟨v',_ | ⟨v'',r⟩⟩⟩ <;> first | exact h.elim | skip
  refine ⟨e,?_,rfl⟩
  simp only [opL,List.map_cons,List.map_nil] at h ⊢
  split at h
  ·rcases aE v with h1 | ⟨b,h1,rfl | rfl⟩
   ·rw [h1]
    unfold wm at h ⊢
    split at h
    ·rename_i e0 _ _ i0 off0 len0 n0
     cases hk0:e0.kd.isAgg with
     | true=>rw [hk0] at h; exact h.elim
     | false =>
      rw [hk0] at h
      simp only [cond_false] at h ⊢
      split at h
      ·exact fJ h
      ·exact h.elim
    ·exact fJ h
    ·exact fJ h
    ·exact h.elim
   ·exact h.elim
   ·exact h.elim
  ·exact h.elim
 | nilCheck x =>
  rcases vs with _ | ⟨v,_ | ⟨v',r⟩⟩ <;> first | exact h.elim | skip
  refine ⟨e,?_,rfl⟩
  rcases aE v with h1 | ⟨b,h1,rfl | rfl⟩
  ·simpa only [List.map_cons,List.map_nil,h1] using h
  ·exact h.elim
  ·exact h.elim
 | binOp op xt x y yt =>
  rcases vs with _ | ⟨v,_ | ⟨v',_ | ⟨v'',r⟩⟩⟩ <;> first | exact h.elim | skip
  refine ⟨e,?_,rfl⟩
  simp only [opL,List.map_cons,List.map_nil] at h ⊢
  split at h
  ·unfold E9 at h ⊢
   split at h
   ·split at h
    ·exact fJ (xg (fun cs h=>fJ h) h)
    ·exact h.elim
   ·simp only [EK,Cp] at h ⊢
    exact h
   ·simp only [E5,Aa,ic] at h ⊢
    exact h
  ·exact h.elim
 | unOp op xt x =>
  rcases vs with _ | ⟨v,_ | ⟨v',r⟩⟩ <;> first | exact h.elim | skip
  rcases aE v with h1 | ⟨b,h1,h2⟩
  ·refine ⟨e,?_,rfl⟩
   simpa only [List.map_cons,List.map_nil,h1] using h
  ·have hv:∃ t,(opL E id look (.unOp op xt x) [v]).hits C e->(Prg.tv (pun op (.lit (.bool b))) vt).hits C e:=⟨(),by rcases h2 with rfl | rfl <;> intro h <;> cases op <;> exact h⟩
   obtain ⟨_,hv⟩:=hv
   obtain ⟨z,hz,hh⟩:=hv h
   cases op with
   | not =>
    simp only [pun,FG] at hz
    subst hz
    cases hh
    refine ⟨.val (.bl !b),?_,rfl⟩
    simp only [List.map_cons,List.map_nil,h1]
    rfl
   | _=>simp [pun] at hz
 | convert xt dt x =>
  rcases vs with _ | ⟨v,_ | ⟨v',r⟩⟩ <;> first | exact h.elim | skip
  refine ⟨e,?_,rfl⟩
  simp only [opL,List.map_cons,List.map_nil,AE,ic,Aa] at h ⊢
  exact h
 | makeSlice t x y =>
  rcases vs with _ | ⟨v,_ | ⟨v',_ | ⟨v'',r⟩⟩⟩ <;> first | exact h.elim | skip
  refine ⟨e,?_,rfl⟩
  simp only [opL,List.map_cons,List.map_nil,ic] at h ⊢
  exact h
 | slice t x lo hi mx =>
  refine ⟨e,?_,rfl⟩
  cases mx with
  | some m=>rcases vs with _ | ⟨v,r⟩ <;> exact h.elim
  | none =>
   rcases vs with _ | ⟨v,r⟩
   ·exact h.elim
   ·simp only [opL, List.map_cons] at h ⊢
    split at h
    ·rename_i d hT
     split at h
     ·rename_i sz hsz
      cases lo with
      | none =>
       cases hi with
       | none =>
        rcases r with _ | ⟨l,r⟩
        ·have:=mB (look:=look) (kd:=d.kd) (sz:=sz) (x:=v) (lo:=none) (hi:=none)
         simp only [Option.map_none] at this
         simp only [List.map_nil]
         rw [this]; exact h
        ·exact h.elim
       | some hh =>
        rcases r with _ | ⟨l,_ | ⟨l',r⟩⟩
        ·exact h.elim
        ·have:=mB (look:=look) (kd:=d.kd) (sz:=sz) (x:=v) (lo:=none) (hi:=some l)
         simp only [Option.map_none,FR] at this
         simp only [List.map_cons,List.map_nil]
         rw [this]; exact h
        ·exact h.elim
      | some ll =>
       cases hi with
       | none =>
        rcases r with _ | ⟨l,_ | ⟨l',r⟩⟩
        ·exact h.elim
        ·have:=mB (look:=look) (kd:=d.kd) (sz:=sz) (x:=v) (lo:=some l) (hi:=none)
         simp only [Option.map_none,FR] at this
         simp only [List.map_cons,List.map_nil]
         rw [this]; exact h
        ·exact h.elim
       | some hh =>
        rcases r with _ | ⟨l,_ | ⟨l',_ | ⟨l'',r⟩⟩⟩
        ·exact h.elim
        ·exact h.elim
        ·have:=mB (look:=look) (kd:=d.kd) (sz:=sz) (x:=v) (lo:=some l) (hi:=some l')
         simp only [FR] at this
         simp only [List.map_cons,List.map_nil]
         rw [this]; exact h
        ·exact h.elim
     ·exact h.elim
    ·exact h.elim
 | fieldAddr t x f =>
  rcases vs with _ | ⟨v,_ | ⟨v',r⟩⟩ <;> first | exact h.elim | skip
  refine ⟨e,?_,rfl⟩
  rcases aE v with h1 | ⟨b,h1,rfl | rfl⟩
  ·simpa only [List.map_cons,List.map_nil,h1] using h
  ·simp only [opL] at h
   split at h
   ·rename_i hv
    cases hv
    split at h
    ·rename_i n _ _
     cases hb:Nat.blt 0 n <;> simp [hb,CA.add,Prg.hits] at h
    ·exact h.elim
   ·exact h.elim
  ·simp only [opL] at h
   split at h
   ·rename_i hv; cases hv
   ·exact h.elim
 | field t x f =>
  rcases vs with _ | ⟨v,_ | ⟨v',r⟩⟩ <;> first | exact h.elim | skip
  refine ⟨e,?_,rfl⟩
  rcases aE v with h1 | ⟨b,h1,rfl | rfl⟩
  ·simpa only [List.map_cons,List.map_nil,h1] using h
  ·simp only [opL] at h
   split at h
   ·split at h <;> exact h.elim
   ·exact h.elim
  ·simp only [opL] at h
   split at h
   ·split at h
    ·simp [wx,TV.isAgg,Prg.hits] at h
    ·exact h.elim
   ·exact h.elim
 | indexAddr t x y =>
  rcases vs with _ | ⟨v,_ | ⟨v',_ | ⟨v'',r⟩⟩⟩ <;> first | exact h.elim | skip
  refine ⟨e,?_,rfl⟩
  simp only [opL,List.map_cons,List.map_nil] at h ⊢
  split at h
  ·rcases aE v with h1 | ⟨b,h1,rfl | rfl⟩
   ·simp only [h1,pD,ic] at h ⊢; exact h
   ·simp only [pD,ic] at h ⊢; exact h
   ·simp only [pD,ic] at h ⊢; exact h
  ·unfold rz at h ⊢
   rw [ic]
   rcases aE v with h1 | ⟨b,h1,rfl | rfl⟩
   ·rw [h1]; exact h
   ·split at h
    ·split at h <;> first | exact h.elim | (rename_i hx _; cases hx)
    ·exact h.elim
   ·split at h
    ·split at h <;> first | exact h.elim | (rename_i hx _; cases hx)
    ·exact h.elim
 | index t x y =>
  rcases vs with _ | ⟨v,_ | ⟨v',_ | ⟨v'',r⟩⟩⟩ <;> first | exact h.elim | skip
  refine ⟨e,?_,rfl⟩
  simp only [opL,List.map_cons,List.map_nil,ic] at h ⊢
  split at h
  ·exact h
  ·unfold rt at h ⊢
   rw [ic]
   rcases aE v with h1 | ⟨b,h1,rfl | rfl⟩
   ·rw [h1]; exact h
   ·split at h
    ·split at h <;> first | exact h.elim | (rename_i hx _; cases hx)
    ·exact h.elim
   ·split at h
    ·split at h <;> first | exact h.elim | (rename_i hx _; cases hx)
    ·exact h.elim
 | extract x j =>
  rcases vs with _ | ⟨v,_ | ⟨v',r⟩⟩ <;> first | exact h.elim | skip
  refine ⟨e,?_,rfl⟩
  rcases aE v with h1 | ⟨b,h1,rfl | rfl⟩
  ·simpa only [List.map_cons,List.map_nil,h1] using h
  ·exact h.elim
  ·exact h.elim
 | call c =>
  refine ⟨e,?_,rfl⟩
  obtain ⟨callee,args,tys⟩:=c
  cases callee with
  | builtin b =>
   simp only [opL] at h ⊢
   unfold eE at h
   split at h
   ·rename_i x ty htys
    simp only [htys,eE,List.map_cons,List.map_nil]
    split at h
    ·rename_i d hd
     have key:∀ kd,(wR look kd x).hits C e->(wR look kd x.nf).hits C e:=fun kd h=>by rw [Ej]; exact h
     exact key _ h
    ·exact h.elim
   ·rename_i s x ty ty' htys
    simp only [htys,eE,List.map_cons,List.map_nil]
    split at h
    ·rename_i _ d hel
     cases hb:Nat.beq ty ty' with
     | false =>
      simp only [hb,cond_false] at h ⊢
      split at h
      ·rename_i hu
       unfold me at h ⊢
       rw [ic]
       rcases aE s with h1 | ⟨b,h1,rfl | rfl⟩
       ·rw [h1]; exact h
       ·exact h
       ·exact h
      ·exact h.elim
     | true =>
      simp only [hb,cond_true] at h ⊢
      unfold pi at h ⊢
      rw [Aj,vc]
      rcases aE s with h1 | ⟨b,h1,rfl | rfl⟩
      ·rw [h1]; exact h
      ·exact h
      ·exact h
    ·exact h.elim
   ·rename_i s x ty ty' htys
    simp only [htys,eE,List.map_cons,List.map_nil]
    split at h
    ·rename_i _ d hel
     cases hb:Nat.beq ty ty' with
     | false=>simp [hb,Prg.hits] at h
     | true =>
      simp only [hb,cond_true] at h ⊢
      unfold Ai at h ⊢
      rw [Aj,vc]
      rcases aE s with h1 | ⟨b,h1,rfl | rfl⟩
      ·rw [h1]; exact h
      ·exact h
      ·exact h
    ·exact h.elim
   ·rename_i s ty htys
    simp only [htys,eE,List.map_cons,List.map_nil]
    split at h
    ·unfold wB at h ⊢
     rcases aE s with h1 | ⟨b,h1,rfl | rfl⟩
     ·rw [h1]; exact h
     ·exfalso
      revert h
      cases Nat.blt 0 _ <;> exact fun h=>h.elim
     ·exfalso
      revert h
      cases Nat.blt 0 _ <;> exact fun h=>h.elim
    ·exact h.elim
   ·simp only [eE,List.map_cons,List.map_nil,wN,ic] at h ⊢
    exact h
   ·simp only [eE,List.map_cons,List.map_nil,wN,ic] at h ⊢
    exact h
   ·exact h.elim
  | value f =>
   cases f with
   | func f =>
    rcases vs with _ | ⟨v,r⟩
    ·exact h.elim
    ·simp only [opL,List.map_cons,ni,jP,sw,Cd,Cz,Dh] at h ⊢
     exact h
   | tmp t =>
    rcases vs with _ | ⟨v,r⟩
    ·exact h.elim
    ·simp only [opL,List.map_cons,ic,jP,EE] at h ⊢
     rcases aE v with h1 | ⟨b,h1,rfl | rfl⟩
     ·rw [h1]; exact h
     ·exact h
     ·exact h
   | _=>exact h.elim
  | invoke r m=>exact h.elim
 | makeInterface t x =>
  rcases vs with _ | ⟨v,_ | ⟨v',r⟩⟩ <;> first | exact h.elim | skip
  refine ⟨e,?_,rfl⟩
  simp only [opL,List.map_cons,List.map_nil,Ez] at h ⊢
  exact h
 | typeAssert x xt t ok =>
  rcases vs with _ | ⟨v,_ | ⟨v',r⟩⟩ <;> cases ok <;> first | exact h.elim | skip
  refine ⟨e,?_,rfl⟩
  simp only [opL,List.map_cons,List.map_nil,Cu] at h ⊢
  exact h
 | _=>exact h.elim
theorem l8 (st:ASt):st.nfS.look=st.look:=rfl
theorem pd (st:ASt):st.nfS.base=st.base:=rfl
theorem wi (st:ASt) (d:Option Tmp):st.nfS.nid d=st.nid d:=by cases d <;> rfl
theorem jr (st:ASt) (d:Option Tmp) (v:AV):(st.put d v).nfS=st.nfS.put d v.nf:=by
 cases d with
 | none=>rfl
 | some d=>simp [ASt.nfS,ASt.put,ah,List.map_set]
theorem s6 (st:ASt) (i:Nat) (b:Option BC):(st.ac i b).nfS=st.nfS.ac i b:=rfl
theorem jM (st:ASt) (t:Nat):nth (.one .junk) st.nfS.slots t=(nth (.one .junk) st.slots t).nf:=by
 simp only [ASt.nfS,aS,FK]
 cases st.slots[t]? <;> rfl
theorem A5 (ps:List Nat) (st:ASt) (d:Option Nat) (e:Eff):ci ps st.nfS d e.nfE=ci ps st d e:=by
 unfold ci
 congr 1
 funext k
 cases d with
 | none=>rw [pd,ck]
 | some d=>simp only [pd,ck,jM,mJ]
theorem oM (k s:Nat):∀ (l:List AV) (n:Nat),fY k s n (l.map AV.nf)=fY k s n l
 | [],n=>rfl
 | v :: l,n=>by simp only [List.map_cons,fY,mJ,oM k s l (n + 1)]
theorem xw {k:Nat} {v:AV} (h:ki k v=true):ki k v.nf=true:=by
 unfold ki at h
 split at h
 ·exact h
 ·cases h
theorem je {e:Eff} {i:Nat} {y:TV} (h:jU e=some (i,y)):e=.gen [.drop i 0 [] false,.root i 0 y] (.one (.sref i 0 [])):=by
 unfold jU at h
 split at h
 ·rename_i i' j y' k
  cases hb:i'.beq j && i'.beq k with
  | false=>rw [hb] at h; cases h
  | true =>
   simp only [hb,cond_true,FG,Prod.mk.injEq] at h
   simp only [FH] at hb
   obtain ⟨rfl,rfl⟩:=h
   rw [<- (ap _ _).1 hb.1,<- (ap _ _).1 hb.2]
 ·cases h
theorem nh (i:Nat) (y:TV):jU (.gen [.drop i 0 [] false,.root i 0 y] (.one (.sref i 0 [])))=some (i,y):=by
 simp only [jU,(ap i i).2 rfl,Bool.and_self,cond_true]
theorem BX {o:Item} {st:ASt} {e:Eff} (h:cZ o st e=true):cZ o st.nfS e.nfE=true:=by
 unfold cZ at h ⊢
 split at h
 ·rename_i s i y h1 h2
  have:=je h2
  subst this
  simp only [FH] at h
  simp only [h1,Eff.nfE,AV.nf,nh,FH]
  refine ⟨⟨⟨⟨⟨h.1.1.1.1.1,?_⟩,h.1.1.1.2⟩,?_⟩,h.1.2⟩,h.2⟩
  ·rw [jM]; exact xw h.1.1.1.1.2
  ·rw [show st.nfS.slots=st.slots.map AV.nf from rfl,oM]; exact h.1.1.2
 ·cases h
theorem tG (st:ASt) (x:Operand):st.nfS.ev x=(st.ev x).nf:=by
 cases x with
 | tmp t=>exact jM st t
 | const v =>
  cases v with
  | bool b=>rfl
  | _=>first | rfl | (simp only [ASt.ev]; cases Value.oneCell' _ <;> rfl)
 | global g=>rfl
 | func f=>rfl
theorem sB:∀ (l:List AV),cp (l.map AV.nf)=cp l
 | []=>rfl
 | v :: l=>by simp only [List.map_cons,cp,ic,sB l]
theorem kJ (e:Eff):iK e.nfE=iK e:=by
 cases e with
 | new b v=>cases b <;> rfl
 | _=>rfl
theorem BF {i:Item} {st:ASt} {e:Eff}:ip i st.nfS e.nfE=ip i st e:=by
 unfold ip
 have:i.o.op.operands.toList.map st.nfS.ev=(i.o.op.operands.toList.map st.ev).map AV.nf:=by
  rw [List.map_map]
  exact List.map_congr_left fun x _=>tG st x
 rw [this,sB,kJ,ck]
 rfl
theorem xD:∀ (l:List AV),gw (l.map AV.nf)=gw l
 | []=>rfl
 | v :: l=>by simp only [List.map_cons,gw,mJ,xD l]
theorem pm (e:Eff):mw e.nfE=mw e:=by cases e <;> rfl
theorem yJ (e:Eff):drE e.nfE=drE e:=by cases e <;> rfl
theorem sM (k:Nat) (e:Eff):uR k e.nfE=uR k e:=by cases e <;> rfl
theorem ru (v:AV):(v.nf.bW CA.deep).dS=(v.bW CA.deep).dS:=by
 rcases aE v with h | ⟨b,h,rfl | rfl⟩
 ·rw [h]
 ·rw [h]; rfl
 ·rw [h]; rfl
theorem xW:∀ (l:List AV),gw (b8 CA.deep (l.map AV.nf))=gw (b8 CA.deep l)
 | []=>rfl
 | v :: l=>by simp only [List.map_cons,b8,gw,ru,xW l]
theorem qz (e:Eff):ow e.nfE=ow e:=by
 cases e with
 | val v=>exact ru v
 | new b v=>exact ck (.new b v)
 | upd i b v=>exact ck (.upd i b v)
 | gen ps v=>exact ck (.gen ps v)
theorem Bm {i:Item} {st:ASt} {e:Eff}:cr i st.nfS e.nfE=cr i st e:=by
 unfold cr
 simp only [pm,yJ,sM]
 rfl
theorem AZ {i:Item} {st:ASt} {e:Eff}:dc i st.nfS e.nfE=dc i st e:=by
 unfold dc
 have hd:∀ d b,jh st.nfS d b=jh st d b:=fun d b=>by
  cases d with
  | none=>rfl
  | some d =>
   have:=tG st (.tmp d)
   simp only [ASt.ev] at this
   simp only [jh,this,mJ]
 have hd2:∀ d b,ig st.nfS d b=ig st d b:=fun d b=>by
  cases d with
  | none=>rfl
  | some d =>
   have:=tG st (.tmp d)
   simp only [ASt.ev] at this
   simp only [ig,this,ru]
 simp only [hd,hd2,ck,qz]
 have:i.o.op.operands.toList.map st.nfS.ev=(i.o.op.operands.toList.map st.ev).map AV.nf:=by
  rw [List.map_map]
  exact List.map_congr_left fun x _=>tG st x
 rw [this,xD,xW]
 rfl
theorem okE_nf {i:Item} {st:ASt} {e:Eff} (h:okE i st e=true):okE i st.nfS e.nfE=true:=by
 unfold okE at h ⊢
 rw [Bool.or_eq_true] at h ⊢
 rcases h with h | h
 ·rw [Bm]; exact .inl h
 refine .inr ?_
 rw [Bool.or_eq_true] at h ⊢
 rcases h with h | h
 ·rw [oh,wV,pd,A5,BF,AZ]; exact .inl h
 ·exact .inr (BX h)
theorem wb (hs:Sim w0 I0 st a ov w):Sim w0 I0 st.nfS a ov w:=by
 obtain ⟨g,hs⟩:=hs
 refine ⟨g,hs.below,hs.sub,hs.lt,hs.old,by simp [ASt.nfS,hs.len],hs.defers,fun t v hv=>?_,hs.olen,hs.outs,hs.cells,hs.trees,hs.foot,hs.apart,hs.apartR,hs.res,hs.base,hs.out⟩
 simp only [ASt.nfS,FK] at hv
 cases hsl:st.slots[t]? with
 | none=>simp [hsl] at hv
 | some u =>
  simp only [hsl,FR,FG] at hv
  subst hv
  exact C9.2 (hs.slots t u hsl)
theorem eG (hs:Sim w0 I0 st.nfS a ov w):Sim w0 I0 st a ov w:=by
 obtain ⟨g,hs⟩:=hs
 refine ⟨g,hs.below,hs.sub,hs.lt,hs.old,by have:=hs.len; simpa [ASt.nfS] using this,hs.defers,fun t v hv=>?_,hs.olen,hs.outs,hs.cells,hs.trees,hs.foot,hs.apart,hs.apartR,hs.res,hs.base,hs.out⟩
 exact C9.1 (hs.slots t v.nf (by simp [ASt.nfS,hv]))
theorem o0 (i r:Nat) (js:List Nat) (b:Bool) (v:AV):(v.bW (CA.drop i r js b)).nf=v.nf.bW (CA.drop i r js b):=by
 rcases aE v with h | ⟨b,h,rfl | rfl⟩
 ·rw [h]
  cases v with
  | one c =>
   have key:∀ c:CA,c.drop i r js b=c\/c.drop i r js b=.junk:=fun c=>by
    rcases fj i r js b c with ⟨h,_⟩ | h
    ·exact .inl h
    ·exact .inr h
   simp only [AV.bW]
   rcases key c with h' | h'
   ·rw [h',h]
   ·rw [h']; rfl
  | tv x=>exact h
  | _=>rfl
 ·rfl
 ·rfl
theorem Dk (st:ASt) (i r:Nat) (js:List Nat) (b:Bool):(st.au (CA.drop i r js b)).nfS=st.nfS.au (CA.drop i r js b):=by
 simp only [ASt.nfS,ASt.au]
 congr 1
 apply List.ext_getElem?
 intro t
 simp only [FK,mG]
 cases st.slots[t]? with
 | none=>rfl
 | some v=>simp [o0]
theorem q9 (i:Nat) (v:AV):(v.bW (CA.unM i)).nf=v.nf.bW (CA.unM i):=by
 cases v with
 | one c =>
  cases c with
  | t x =>
   cases x with
   | lit u=>cases u <;> rfl
   | _=>rfl
  | may j ty =>
   simp only [AV.bW,CA.unM,AV.nf]
   cases j.beq i <;> rfl
  | _=>rfl
 | tv x =>
  cases x with
  | lit u=>cases u <;> rfl
  | _=>rfl
 | _=>rfl
theorem EC (st:ASt) (i:Nat):(st.au (CA.unM i)).nfS=st.nfS.au (CA.unM i):=by
 simp only [ASt.au,ASt.nfS]
 congr 1
 induction st.slots with
 | nil=>rfl
 | cons v l ih=>simp only [b8,List.map_cons,q9,ih]
theorem uY {i:Nat} {b:BC} (h:st.bz i b=some st'):st.nfS.bz i b=some st'.nfS:=by
 obtain ⟨h1,h2,rfl⟩:=bm h
 have h2':i.blt st.nfS.boxes.length=true:=by simpa [ASt.nfS] using h2
 simp only [ASt.bz,l8,h1,h2',cond_true,s6]
theorem qG {d:Option Tmp}:∀ {ps:List Prim} {st st':ASt},ae d ps st=some st'->ae d ps st.nfS=some st'.nfS
 | [],st,st',h=>by simp only [ae,FG] at h; subst h; rfl
 | p :: ps, st, st', h => by
  simp only [ae] at h ⊢
  cases h1:p.app st d with
  | none=>simp [h1] at h
  | some s1 =>
   simp only [h1] at h
   have:p.app st.nfS d=some s1.nfS:=by
    cases p with
    | drop i r js b =>
     simp only [Prim.app,FG] at h1 ⊢
     subst h1
     rw [Dk]
    | root i r x =>
     simp only [Prim.app,l8] at h1 ⊢
     split at h1
     ·rename_i b hb
      simp only [FG] at h1
      subst h1
      rfl
     ·cases h1
    | frz i r =>
     simp only [Prim.app,l8] at h1 ⊢
     split at h1
     ·rename_i x hx
      split at h1
      ·rename_i b hb
       simp only [FG] at h1
       subst h1
       rfl
      ·cases h1
     ·cases h1
    | unmay i =>
     simp only [Prim.app,FG] at h1 ⊢
     subst h1
     rw [EC]
    | newB b =>
     cases d with
     | none=>simp [Prim.app] at h1
     | some d =>
      simp only [Prim.app] at h1 ⊢
      rw [wi]
      exact uY h1
    | setB i cs =>
     simp only [Prim.app,l8] at h1 ⊢
     split at h1
     ·simp only [FG] at h1
      subst h1
      rfl
     ·cases h1
   rw [this]
   exact qG h
theorem app_nf {e:Eff} {d:Option Tmp} (h:e.app st d=some st'):e.nfE.app st.nfS d=some st'.nfS:=by
 cases e with
 | val v =>
  simp only [Eff.app,Eff.nfE,FG] at h ⊢
  subst h
  rw [jr]
 | new b v =>
  cases d with
  | none=>simp [Eff.app] at h
  | some d =>
   simp only [Eff.app,Eff.nfE] at h ⊢
   rw [wi]
   split at h
   ·rename_i s1 hs1
    simp only [FG] at h
    subst h
    rw [uY hs1]
    simp only [jr]
   ·cases h
 | upd i b v =>
  simp only [Eff.app,Eff.nfE,FG] at h ⊢
  subst h
  rw [jr,s6]
 | gen ps v =>
  simp only [Eff.app,Eff.nfE] at h ⊢
  split at h
  ·rename_i s1 hs1
   simp only [FG] at h
   subst h
   rw [qG hs1]
   simp only [jr]
  ·cases h
theorem kK {d:Option Tmp} {v:AV} (hs:Sim w0 I0 (st.put d v) a ov w):Sim w0 I0 (st.put d v.nf) a ov w:=by
 apply eG
 have:=wb hs
 rw [jr] at this ⊢
 rwa [vI]
theorem Ah {e:Eff} {d:Option Tmp} (h:e.nfE.app st d=some st'):∃ st1,e.app st d=some st1/\∀ w0 I0 a ov w,Sim w0 I0 st1 a ov w->Sim w0 I0 st' a ov w:=by
 cases e with
 | val v =>
  simp only [Eff.app,Eff.nfE,FG] at h ⊢
  subst h
  exact ⟨_,rfl,fun w0 I0 a ov w hs=>kK hs⟩
 | new b v =>
  cases d with
  | none=>simp [Eff.app,Eff.nfE] at h
  | some d =>
   simp only [Eff.app,Eff.nfE] at h ⊢
   split at h
   ·rename_i s1 hs1
    simp only [FG] at h
    subst h
    exact ⟨_,rfl,fun w0 I0 a ov w hs=>kK hs⟩
   ·cases h
 | upd i b v =>
  simp only [Eff.app,Eff.nfE,FG] at h ⊢
  subst h
  exact ⟨_,rfl,fun w0 I0 a ov w hs=>kK hs⟩
 | gen ps v =>
  simp only [Eff.app,Eff.nfE] at h ⊢
  split at h
  ·rename_i s1 hs1
   simp only [FG] at h
   subst h
   exact ⟨_,rfl,fun w0 I0 a ov w hs=>kK hs⟩
  ·cases h
end
end Go.Ab
end
section
namespace Go.Ab
open Go.RowKit
def Prg.All {R:Type} (p:R->Prop):Prg R->Prop
 | .fail=>True
 | .ret e=>p e
 | .tv _ k=>∀ v,(k v).All p
 | .tvs _ k=>∀ v,(k v).All p
 | .rws _ k=>∀ v,(k v).All p
 | .nat _ k=>∀ v,(k v).All p
 | .chk _ k=>k.All p
 | .ite _ t e=>t.All p/\e.All p
 | .call _ _ k=>∀ v,(k v).All p
 | .jmp _ _=>True
theorem Prg.All.hits {R:Type} {C:Cal} {p:R->Prop} {e:R}:∀ {o:Prg R},o.All p->o.hits C e->p e
 | .ret e',h,h'=>by cases h'; exact h
 | .tv _ k,h,⟨v,_,h'⟩=>(h v).hits h'
 | .tvs _ k,h,⟨v,_,h'⟩=>(h v).hits h'
 | .rws _ k,h,⟨v,_,h'⟩=>(h v).hits h'
 | .nat _ k,h,⟨v,_,h'⟩=>(h v).hits h'
 | .chk _ k,h,⟨_,h'⟩=>Prg.All.hits (o:=k) h h'
 | .ite _ t e,h,⟨v,_,.inl ⟨_,h'⟩⟩=>Prg.All.hits (o:=t) h.1 h'
 | .ite _ t e,h,⟨v,_,.inr ⟨_,h'⟩⟩=>Prg.All.hits (o:=e) h.2 h'
 | .call _ _ k,h,⟨v,_,h'⟩=>(h v).hits h'
section
variable {E:Env} {look look':Look} {p:Eff->Prop} {id:Nat}
theorem aH {b:Bool} {x y:Out} (hx:x.All p) (hy:y.All p):(bif b then x else y).All p:=by cases b <;> assumption
theorem iT {q:Way} {x:TV} {k:TV->Out} (h:∀ y,(k y).All p):(nU q x k).All p:=by
 unfold nU
 split
 ·exact h _
 ·exact h
theorem gk {c:CA} {k:TV->Out} (h:∀ y,(k y).All p):(iR look c k).All p:=by
 unfold iR
 split
 ·exact h _
 ·split
  ·exact iT h
  ·exact trivial
 ·split
  ·exact iT fun y z=>h z
  ·exact trivial
 ·exact trivial
theorem lH {v:AV} {k:TV->Out} (h:∀ y,(k y).All p):(rf look v k).All p:=by
 unfold rf
 split
 ·exact gk h
 ·exact h _
 ·exact h _
 ·exact trivial
theorem uT {c:CA} {k:TV->Out} (h:∀ y,(k y).All p):(tV look c k).All p:=by
 unfold tV
 split
 ·exact h _
 ·exact gk fun y=>h _
 ·exact gk fun y=>h _
 ·exact trivial
theorem vG {k:List TV->Out}:∀ {cs:List CA} {k:List TV->Out},(∀ y,(k y).All p)->(Ag look cs k).All p
 | [],k,h=>h _
 | c :: cs,k,h=>uT fun y=>vG (k:=fun _=>.fail) fun ys=>h _
theorem A4 {v:AV} {k:TV->Out} (h:∀ y,(k y).All p):(tL look v k).All p:=by
 unfold tL
 split
 ·exact uT h
 ·exact h _
 ·exact vG (k:=fun _=>.fail) fun ys=>h _
 ·exact trivial
 ·exact trivial
 ·exact h _
theorem gB:∀ {vs:List AV} {k:List TV->Out},(∀ y,(k y).All p)->(lends look vs k).All p
 | [],k,h=>h _
 | v :: vs,k,h=>A4 fun y=>gB fun ys=>h _
theorem vf {c:CA} {k:TV->List (Nat × Nat)->Out} (h:∀ y r,(k y r).All p):(t9 look c k).All p:=by
 unfold t9
 split
 ·exact h _ _
 ·split
  ·split
   ·exact h _ _
   ·exact fun y=>h _ _
  ·exact trivial
 ·split
  ·split
   ·exact fun y=>h _ _
   ·exact fun z y=>h _ _
  ·exact trivial
 ·exact trivial
theorem uC:∀ {cs:List CA} {k:List TV->List (Nat × Nat)->Out},(∀ y r,(k y r).All p)->(Af look cs k).All p
 | [],k,h=>h _ _
 | c :: cs,k,h=>vf fun y r=>uC fun ys rs=>h _ _
theorem A2 {v:AV} {k:TV->List (Nat × Nat)->Out} (h:∀ y r,(k y r).All p):(sO look v k).All p:=by
 unfold sO
 split
 ·exact vf h
 ·exact h _ _
 ·exact uC fun ys rs=>h _ _
 ·exact trivial
 ·exact trivial
 ·exact h _ _
theorem pK:∀ {vs:List AV} {k:List TV->List (Nat × Nat)->Out},(∀ y r,(k y r).All p)->(hands look vs k).All p
 | [],k,h=>h _ _
 | v :: vs,k,h=>A2 fun y r=>pK fun ys rs=>h _ _
theorem ea:∀ {cs:List CA} {k:List TV->List Prim->List (Nat × Nat)->Out},(∀ y q r,(k y q r).All p)->(cG look cs k).All p
 | [],k,h=>h _ _ _
 | .t x :: l,k,h=>by
  simp only [cG]
  exact ea (cs:=l) fun xs ps ts=>h _ _ _
 | .sref i r q :: l, k, h => by
  simp only [cG]
  split
  ·split
   ·exact ea (cs:=l) fun xs ps ts=>h _ _ _
   ·exact fun y=>ea (cs:=l) fun xs ps ts=>h _ _ _
  ·exact trivial
 | .swin i r q lo len :: l, k, h => by
  simp only [cG]
  split
  ·split
   ·exact fun y=>ea (cs:=l) fun xs ps ts=>h _ _ _
   ·exact fun z y=>ea (cs:=l) fun xs ps ts=>h _ _ _
  ·exact trivial
 | .ptr _ _ :: l,k,h=>trivial
 | .ref _ _ :: l,k,h=>trivial
 | .tptr _ _ _ _ _ :: l,k,h=>trivial
 | .may _ _ :: l,k,h=>trivial
 | .aptr _ _ _ _ :: l,k,h=>trivial
 | .ifp _ _ :: l,k,h=>trivial
 | .fn1 _ _ :: l,k,h=>trivial
 | .psl _ _ :: l,k,h=>trivial
 | .yl _ :: l,k,h=>trivial
 | .undef :: l,k,h=>trivial
 | .junk :: l,k,h=>trivial
theorem ef:∀ {cs:List CA} {k:List TV->List Prim->List (Nat × Nat)->Out},(∀ y q r,(k y q r).All p)->(cg look cs k).All p
 | [],k,h=>h _ _ _
 | .t x :: l,k,h=>by
  simp only [cg]
  exact ef (cs:=l) fun xs ps ts=>h _ _ _
 | .sref i r q :: l, k, h => by
  simp only [cg]
  split
  ·split
   ·exact ef (cs:=l) fun xs ps ts=>h _ _ _
   ·exact fun y=>⟨ef (cs:=l) fun xs ps ts=>h _ _ _,fun x'=>ef (cs:=l) fun xs ps ts=>h _ _ _⟩
  ·exact trivial
 | .swin i r q lo len :: l, k, h => by
  simp only [cg]
  split
  ·split
   ·exact fun y=>ef (cs:=l) fun xs ps ts=>h _ _ _
   ·exact fun z y=>ef (cs:=l) fun xs ps ts=>h _ _ _
  ·exact trivial
 | .ptr _ _ :: l,k,h=>trivial
 | .ref _ _ :: l,k,h=>trivial
 | .tptr _ _ _ _ _ :: l,k,h=>trivial
 | .may _ _ :: l,k,h=>trivial
 | .aptr _ _ _ _ :: l,k,h=>trivial
 | .ifp _ _ :: l,k,h=>trivial
 | .fn1 _ _ :: l,k,h=>trivial
 | .psl _ _ :: l,k,h=>trivial
 | .yl _ :: l,k,h=>trivial
 | .undef :: l,k,h=>trivial
 | .junk :: l,k,h=>trivial
theorem dY {agg:Bool} {n:Nat} {x:AV} {k:List CA->Out} (h:∀ cs,(k cs).All p):(x.ba agg n k).All p:=by
 unfold AV.ba
 split
 ·rename_i c; cases c.kept <;> first | exact trivial | exact h _
 ·exact h _
 ·exact h _
 ·exact h _
 ·rename_i cs; cases cs.length.beq n <;> first | exact trivial | exact h _
 ·exact h _
 ·exact trivial
theorem oW {at_:Nat->Option (Nat × Bool × Nat)} {k:List CA->Out} (h:∀ cs,(k cs).All p):∀ (is:List Nat) (vs:List AV) (cs:List CA),(b7 at_ is vs cs k).All p
 | [],[],cs=>h cs
 | i :: is, x :: vs, cs => by
  simp only [b7]
  split
  ·refine dY (fun ps=>?_)
   exact aH (oW h is vs _) trivial
  ·exact trivial
 | [],_ :: _,cs=>trivial
 | _ :: _,[],cs=>trivial
theorem fu {v:Option AV} {k:Option Nat->Out} (h:∀ n,(k n).All p):(gj v k).All p:=by
 unfold gj
 split
 ·exact h _
 ·split
  ·exact fun v=>h _
  ·exact trivial
abbrev da (e:Eff):Prop:=∃ v,e=.val v
abbrev di (e:Eff):Prop:=∃ b v,e=.new b v
theorem yq {d:TyD} {x:List TV} {off:Nat}:(ky d x off).All da:=by
 unfold ky
 cases d.kd.isAgg
 ·exact ⟨_,rfl⟩
 ·exact ⟨_,rfl⟩
theorem vk:∀ {vs:List AV} {k:List CA->Out},(∀ cs,(k cs).All p)->(kr vs k).All p
 | [],k,h=>h _
 | v :: vs,k,h=>dY fun cs=>vk fun cs'=>h _
theorem vF {b k:Nat}:∀ {n:Nat},(zZ b k n).All da
 | 0=>trivial
 | n + 1=>⟨⟨_,rfl⟩,vF⟩
theorem Fv {op:Op} (h:am op=.N) (vs:List AV):(opL E id look op vs).All da:=by
 cases op with
 | move x=>rcases vs with _ | ⟨v,_ | ⟨v',r⟩⟩ <;> first | exact trivial | exact ⟨_,rfl⟩
 | assign x=>rcases vs with _ | ⟨v,_ | ⟨v',r⟩⟩ <;> first | exact trivial | exact ⟨_,rfl⟩
 | pick c x y =>
  rcases vs with _ | ⟨v,_ | ⟨v',_ | ⟨v'',_ | ⟨v3,r⟩⟩⟩⟩ <;> first | exact trivial | skip
  simp only [opL]
  split <;> first | exact trivial | exact ⟨_,rfl⟩ | exact ⟨⟨_,rfl⟩,⟨_,rfl⟩⟩
 | build t parts =>
  simp only [opL]
  split
  ·refine aH ?_ trivial
   refine oW ?_ _ _ _
   exact fun cs=>⟨_,rfl⟩
  ·exact trivial
 | nilCheck x =>
  rcases vs with _ | ⟨v,_ | ⟨v',r⟩⟩ <;> first | exact trivial | skip
  simp only [opL]
  split <;> first | exact trivial | exact ⟨_,rfl⟩
 | unOp op xt x =>
  rcases vs with _ | ⟨v,_ | ⟨v',r⟩⟩ <;> first | exact trivial | skip
  simp only [opL]
  split
  ·exact ⟨_,rfl⟩
  ·split
   ·exact fun v=>⟨_,rfl⟩
   ·exact trivial
 | fieldAddr t x f =>
  rcases vs with _ | ⟨v,_ | ⟨v',r⟩⟩ <;> first | exact trivial | skip
  simp only [opL]
  split
  ·split
   ·refine aH ?_ trivial
    split <;> first | exact trivial | exact ⟨_,rfl⟩
   ·exact trivial
  ·exact trivial
 | field t x f =>
  rcases vs with _ | ⟨v,_ | ⟨v',r⟩⟩ <;> first | exact trivial | skip
  simp only [opL]
  split
  ·split
   ·unfold wx
    split
    ·split
     ·split <;> first | exact trivial | exact ⟨_,rfl⟩
     ·exact trivial
    ·exact ⟨_,rfl⟩
    ·exact trivial
   ·exact trivial
  ·exact trivial
 | index t x y =>
  rcases vs with _ | ⟨v,_ | ⟨v',_ | ⟨v'',r⟩⟩⟩ <;> first | exact trivial | skip
  simp only [opL]
  split
  ·exact fun v=>⟨_,rfl⟩
  ·unfold rt
   split
   ·split
    ·refine aH ?_ trivial
     split
     ·exact fun k v=>⟨_,rfl⟩
     ·exact trivial
    ·exact trivial
   ·exact trivial
 | extract x j =>
  rcases vs with _ | ⟨v,_ | ⟨v',r⟩⟩ <;> first | exact trivial | skip
  simp only [opL]
  split
  ·split
   ·split <;> first | exact trivial | exact ⟨_,rfl⟩
   ·exact trivial
  ·exact trivial
 | makeFunc fn first cap =>
  cases fn with
  | func f =>
   simp only [opL]
   exact aH (vk fun cs=>⟨_,rfl⟩) trivial
  | _=>exact trivial
 | call c =>
  obtain ⟨callee,args,tys⟩:=c
  cases callee with
  | builtin b=>cases b <;> simp [am] at h
  | value f=>cases f <;> simp [am] at h
  | invoke r m=>simp [am] at h
 | makeInterface t x =>
  rcases vs with _ | ⟨v,_ | ⟨v',r⟩⟩ <;> first | exact trivial | skip
  simp only [opL]
  split
  ·unfold Df
   refine aH ?_ trivial
   split
   ·exact ⟨_,rfl⟩
   ·split
    ·exact fun v=>⟨_,rfl⟩
    ·exact trivial
  ·exact trivial
 | typeAssert x xt t ok =>
  rcases vs with _ | ⟨v,_ | ⟨v',r⟩⟩ <;> cases ok <;> first | exact trivial | skip
  simp only [opL]
  split
  ·unfold u9
   refine aH ?_ trivial
   split
   ·exact fun v=>⟨_,rfl⟩
   ·exact trivial
  ·exact trivial
 | _=>simp [am] at h
theorem Cc {op:Op} (h:am op=.R) (vs:List AV):(opL E id look op vs).All da:=by
 cases op with
 | load t x =>
  rcases vs with _ | ⟨v,_ | ⟨v',r⟩⟩ <;> first | exact trivial | skip
  simp only [opL]
  split
  ·unfold Ax
   split
   ·refine aH trivial ?_
    split
    ·exact fun v=>⟨_,rfl⟩
    ·exact trivial
   ·split
    ·split
     ·split
      ·exact ⟨_,rfl⟩
      ·exact trivial
     ·exact trivial
    ·exact trivial
   ·exact yq
   ·split
    ·refine iT (fun s e=>?_)
     simp only [Prg.All]
     split
     ·exact ⟨_,rfl⟩
     ·exact trivial
    ·exact trivial
   ·exact trivial
  ·exact trivial
 | convert xt dt x =>
  rcases vs with _ | ⟨v,_ | ⟨v',r⟩⟩ <;> first | exact trivial | skip
  simp only [opL]
  split
  ·unfold AE
   split
   ·split
    ·exact aH (lH fun y=>fun rows=>fun v=>⟨_,rfl⟩) trivial
    ·exact trivial
   ·split
    ·exact fun v=>⟨_,rfl⟩
    ·exact trivial
  ·exact trivial
 | binOp op xt x y yt =>
  rcases vs with _ | ⟨v,_ | ⟨v',_ | ⟨v'',r⟩⟩⟩ <;> first | exact trivial | skip
  simp only [opL]
  split
  ·unfold E9
   split
   ·split
    ·refine dY fun cs=>dY fun cs'=>?_
     split
     ·exact fun v=>⟨_,rfl⟩
     ·exact trivial
    ·exact trivial
   ·unfold EK
    split
    ·exact ⟨_,rfl⟩
    ·exact ⟨_,rfl⟩
    ·exact trivial
   unfold E5
   refine aH (lH fun x=>lH fun y=>fun v=>⟨_,rfl⟩) ?_
   split
   ·exact fun v=>⟨_,rfl⟩
   ·exact trivial
  ·exact trivial
 | slice t x lo hi mx =>
  have sl:∀ {kd:Kd} {sz:Nat} {x:AV} {lo hi:Option AV},(jd look kd sz x lo hi).All da:=by
   intro kd sz x lo hi
   unfold jd
   split
   ·exact fu fun lo=>fu fun hi=>fun v=>⟨_,rfl⟩
   ·split
    ·exact gk fun s n=>fu fun lo=>fu fun hi=>⟨_,rfl⟩
    ·split
     ·exact gk fun s=>fu fun hi=>⟨_,rfl⟩
     ·exact gk fun s=>fu fun lo=>fu fun hi=>⟨_,rfl⟩
    ·exact trivial
  cases mx with
  | some m=>rcases vs with _ | ⟨v,r⟩ <;> exact trivial
  | none =>
   rcases vs with _ | ⟨v,r⟩
   ·exact trivial
   ·simp only [opL]
    split
    ·split
     ·split <;> first | exact trivial | exact sl
     ·exact trivial
    ·exact trivial
 | indexAddr t x y =>
  rcases vs with _ | ⟨v,_ | ⟨v',_ | ⟨v'',r⟩⟩⟩ <;> first | exact trivial | skip
  simp only [opL]
  split
  ·unfold pD
   split
   ·split
    ·exact fun v=>⟨_,rfl⟩
    ·split
     ·exact gk fun s n k=>⟨_,rfl⟩
     ·exact gk fun s k=>⟨_,rfl⟩
     ·exact aH (fun k=>vF) trivial
     ·exact trivial
   ·exact trivial
  ·unfold rz
   split
   ·split
    ·exact aH (fun k=>⟨_,rfl⟩) trivial
    ·exact trivial
   ·exact trivial
 | call c =>
  obtain ⟨callee,args,tys⟩:=c
  cases callee with
  | builtin b =>
   have mn:∀ {mx:Bool} {x y:AV},(wN mx x y).All da:=by
    intro mx x y
    unfold wN
    split
    ·exact fun v=>⟨_,rfl⟩
    ·exact trivial
   cases b <;> simp [am] at h
   all_goals simp only [opL]
   all_goals unfold eE
   all_goals split <;> first | exact trivial | exact mn | contradiction | skip
   split
   ·unfold wR
    split
    ·exact ⟨_,rfl⟩
    ·split
     ·exact ⟨_,rfl⟩
     ·exact lH fun s v=>⟨_,rfl⟩
    ·exact lH fun s v=>⟨_,rfl⟩
   ·exact trivial
  | value f=>cases f <;> simp [am] at h
  | invoke r m=>simp [am] at h
 | _=>simp [am] at h
theorem cls_A {op:Op} (h:am op=.A) (vs:List AV):(opL E id look op vs).All di:=by
 cases op with
 | alloc t =>
  rcases vs with _ | ⟨v,r⟩ <;> first | exact trivial | skip
  simp only [opL]
  split
  ·exact ⟨_,_,rfl⟩
  ·exact trivial
 | box t x =>
  rcases vs with _ | ⟨v,_ | ⟨v',r⟩⟩ <;> first | exact trivial | skip
  simp only [opL]
  split
  ·exact dY (fun cs=>⟨_,_,rfl⟩)
  ·exact trivial
 | makeSlice t x y =>
  rcases vs with _ | ⟨v,_ | ⟨v',_ | ⟨v'',r⟩⟩⟩ <;> first | exact trivial | skip
  simp only [opL]
  split
  ·refine aH ?_ trivial
   exact fun n m=>⟨_,_,rfl⟩
  ·exact trivial
 | call c =>
  obtain ⟨callee,args,tys⟩:=c
  cases callee with
  | builtin b=>cases b <;> simp [am] at h
  | value f=>cases f <;> simp [am] at h
  | invoke r m=>simp [am] at h
 | _=>simp [am] at h
theorem jg {ps:List Prim} {b:BC} {v:AV}:(cM ps b v).plain=true->da (cM ps b v)\/di (cM ps b v):=by
 cases ps with
 | nil=>exact fun _=>.inr ⟨_,_,rfl⟩
 | cons q l=>exact fun h=>by cases h
theorem vK {ps:List Prim} {v:AV}:(match ps with | []=>Eff.val v | _=>.gen ps v).plain=true->da (match ps with | []=>Eff.val v | _=>.gen ps v)\/di (match ps with | []=>Eff.val v | _=>.gen ps v):=by
 cases ps with
 | nil=>exact fun _=>.inl ⟨_,rfl⟩
 | cons q l=>exact fun h=>by cases h
theorem kY {d:TyD} {x:TV} {k:Out} (h:k.All p):(jA d x k).All p:=by
 unfold jA
 exact aH h h
theorem qN {x:TV} {k:Out} (h:k.All p):∀ (ds:List TyD) (j:Nat),(gQ x ds j k).All p
 | [],j=>h
 | d :: ds,j=>kY (qN h ds (j + 1))
theorem rQ {ds:List TyD} {v:TV} {ps:List Prim}:(um id ds v ps).All fun e=>e.plain=true->da e\/di e:=by
 have many:∀ ds:List TyD,(Prg.chk (v.isTup ds.length) (gQ v ds 0 (bif gS ds then .ret (cM ps (.tree (bn v ds 0)) (.tups (dN id v ds 0 0)))
   else .ret (match ps with | []=>.val (.tups (dN id v ds 0 0)) | _=>.gen ps (.tups (dN id v ds 0 0)))))).All fun e=>e.plain=true->da e\/di e:=by
  intro ds
  refine qN ?_ ds 0
  exact aH jg vK
 match ds with
 | []=>exact many []
 | [d] =>
  simp only [um]
  refine kY ?_
  split
  ·exact aH jg vK
  ·exact trivial
 | d :: d' :: l=>exact many _
theorem Cl {ds:List TyD} {v:TV} {k:AV->Out} {p:Eff->Prop} (h:∀ av,(k av).All p):(Dr id ds v k).All p:=by
 have some:∀ (ds:List TyD) (j:Nat) (k:Out),k.All p->(gQ v ds j k).All p:=by
  intro ds
  induction ds with
  | nil=>intro j k h; exact h
  | cons d ds ih=>intro j k h; exact kY (ih (j + 1) k h)
 unfold Dr
 split
 ·refine kY ?_
  split
  ·exact h _
  ·exact trivial
 ·exact some _ 0 _ (h _)
theorem Bj {f:FuncId} {ld:fI} {vs:List AV}:(oO E id look f ld vs).All fun e=>e.plain=true->da e\/di e:=by
 unfold oO
 split
 ·split
  ·refine aH trivial ?_
   exact pK fun xs rs=>ea fun ys qs ts=>aH (fun v=>Cl fun av=>fun h=>by simp [Eff.plain] at h) trivial
  ·exact trivial
 ·exact trivial
theorem A6 {f:FuncId} {c:Nat × Nat} {vs:List AV}:(pb look f c vs).All fun e=>e.plain=true->da e\/di e:=by
 unfold pb
 split
 ·split
  ·split
   ·exact aH (gB fun xs=>fun v=>fun _=>.inl ⟨_,rfl⟩) trivial
   ·exact trivial
  ·exact trivial
 ·exact trivial
theorem vv {p:Eff->Prop} {q:Way} {x y:TV} {k:TV->Out} (h:∀ y,(k y).All p):(yy q x y k).All p:=by
 unfold yy
 split
 ·exact h _
 ·exact fun v=>h _
theorem BR {f:FuncId} {vs:List AV}:(l9 look f vs).All fun e=>e.plain=true->da e\/di e:=by
 unfold l9
 split
 ·split
  ·exact iT fun z=>gB fun xs=>fun v=>fun y=>vv fun x'=>fun h=>by cases h
  ·exact trivial
 ·split
  ·exact iT fun z=>fun z1=>gB fun xs=>fun v=>fun y=>vv fun x'=>fun h=>by cases h
  ·exact trivial
 ·exact trivial
theorem DC {f:FuncId} {i:Nat} {vs:List AV}:(xq E id look f i vs).All fun e=>e.plain=true->da e\/di e:=by
 unfold xq
 refine aH ?_ trivial
 split
 ·split
  ·exact gB fun xs=>fun v=>rQ
  ·exact trivial
 ·exact trivial
theorem cls_B {op:Op} (h:am op=.B) (vs:List AV):(opL E id look op vs).All fun e=>e.plain=true->da e\/di e:=by
 cases op with
 | buildSlice t len parts =>
  simp only [opL]
  refine aH ?_ ?_
  ·unfold th
   split
   ·refine oW (fun cs=>?_) _ _ _
    split
    ·exact aH (fun _=>.inr ⟨_,_,rfl⟩) trivial
    ·exact trivial
   ·exact trivial
  unfold iW
  split
  ·refine oW (fun cs=>?_) _ _ _
   refine aH (fun _=>.inr ⟨_,_,rfl⟩) ?_
   refine ef fun ys qs ts=>?_
   exact aH jg trivial
  ·exact trivial
 | call c =>
  obtain ⟨callee,args,tys⟩:=c
  cases callee with
  | builtin b=>cases b <;> simp [am] at h
  | value f =>
   cases f with
   | func f =>
    rcases vs with _ | ⟨v,r⟩
    ·exact trivial
    ·simp only [opL,ni]
     refine aH BR (aH trivial ?_)
     split
     ·exact A6
     split
     ·exact Bj
     ·split
      ·refine aH ?_ ?_
       ·exact gB fun xs=>fun v=>rQ
       ·exact pK fun xs rs=>aH (fun v=>rQ) trivial
      ·exact trivial
   | tmp t =>
    rcases vs with _ | ⟨v,r⟩
    ·exact trivial
    ·simp only [opL]
     split
     ·exact fun f=>gB fun xs v=>fun _=>.inl ⟨_,rfl⟩
     ·split
      ·exact DC
      ·exact trivial
   | _=>simp [am] at h
  | invoke r m=>simp [am] at h
 | _=>simp [am] at h
abbrev isUpd (look:Look) (e:Eff):Prop:=∃ i b v,e=.upd i b v/\(look i).isSome=true
theorem B9 {op : Op} (h : am op = .W) (vs : List AV) : (opL E id look op vs).All fun e => e.plain = true → isUpd look e := by
 cases op with
 | store t x y =>
  rcases vs with _ | ⟨v,_ | ⟨v',_ | ⟨v'',r⟩⟩⟩ <;> first | exact trivial | skip
  simp only [opL]
  split
  ·unfold wm
   split
   ·refine aH trivial ?_
    split
    ·rename_i cs xs hrow
     refine dY (fun ps=>?_)
     split
     ·exact fun _=>⟨_,_,_,rfl,by simp [(jv hrow).1]⟩
     ·exact trivial
    ·exact trivial
   ·refine dY (fun ps=>?_)
    split
    ·rename_i cs hl
     exact aH (fun _=>⟨_,_,_,rfl,by simp [hl]⟩) trivial
    ·exact trivial
   ·refine dY (fun ps=>?_)
    split
    ·refine aH trivial (aH ?_ ?_)
     ·refine ea fun ys qs ts=>aH ?_ trivial
      exact iT fun s e=>fun x' hp=>by cases hp
     ·refine ea fun ys qs ts=>?_
      split
      ·refine aH ?_ trivial
       refine iT fun s e=>?_
       simp only [Prg.All]
       intro x'
       split
       ·rename_i b hb
        refine fun _=>⟨_,_,_,rfl,?_⟩
        unfold cf at hb
        split at hb
        ·rename_i hl; simp [hl]
        ·cases hb
       ·exact trivial
      ·exact trivial
    ·exact trivial
   ·exact trivial
  ·exact trivial
 | call c =>
  obtain ⟨callee,args,tys⟩:=c
  cases callee with
  | builtin b=>cases b <;> simp [am] at h
  | value f=>cases f <;> simp [am] at h
  | invoke r m=>simp [am] at h
 | _=>simp [am] at h
theorem qS {d:TyD} {s:AV} {news:List (List TV)} {ps:List Prim}:(mN id look d s news ps).All fun e=>e.plain=true->da e\/di e:=by
 unfold mN
 split
 ·exact aH (fun y=>jg) trivial
 ·split
  ·split
   ·split
    ·exact fun y h=>by cases h
    ·exact fun z y x' h=>by cases h
   ·exact trivial
  ·split
   ·split
    ·exact fun z y h=>by cases h
    ·exact fun z0 z y x' h=>by cases h
   ·exact trivial
  ·exact trivial
theorem Dq {d:TyD} {dest:Option Nat} {x:AV} {k:List (List TV)->List Prim->Out} (h:∀ xs ps,(k xs ps).All p):(xJ look d dest x k).All p:=by
 unfold xJ
 split
 ·exact fun xs=>h _ _
 ·split
  ·refine aH ?_ ?_
   ·split
    ·split
     ·split
      ·exact aH trivial (fun xs=>h _ _)
      ·exact fun y=>fun xs=>h _ _
     ·exact trivial
    ·split
     ·split
      ·exact aH trivial (fun y xs=>h _ _)
      ·exact fun z y=>fun xs=>h _ _
     ·exact trivial
    ·exact trivial
   ·exact gk (fun s xs=>h _ _)
  ·exact trivial
theorem cls_P {op:Op} (h:am op=.P) (vs:List AV):(opL E id look op vs).All fun e=>e.plain=true->da e\/di e:=by
 cases op with
 | call c =>
  obtain ⟨callee,args,tys⟩:=c
  cases callee with
  | builtin b =>
   cases b <;> simp [am] at h
   simp only [opL]
   unfold eE
   split <;> try (first | exact trivial | contradiction)
   split
   ·refine aH ?_ ?_
    ·unfold pi
     exact aH (Dq (fun xs ps=>qS)) trivial
    ·split
     ·unfold me
      refine aH ?_ trivial
      split
      ·exact fun news=>qS
      ·exact trivial
     ·exact trivial
   ·exact trivial
  | value f=>cases f <;> simp [am] at h
  | invoke r m=>simp [am] at h
 | _=>simp [am] at h
theorem vH {op:Op} (h:am op=.N\/am op=.A) (vs:List AV):opL E id look op vs=opL E id look' op vs:=by
 cases op <;> first
  | (rcases vs with _ | ⟨a,_ | ⟨b,_ | ⟨c,_ | ⟨d,r⟩⟩⟩⟩ <;> rfl)
  | (simp [am] at h; done)
  | (rename_i fn _ _; cases fn <;> rfl)
  | (rename_i ok; cases ok <;> rcases vs with _ | ⟨a,_ | ⟨b,r⟩⟩ <;> rfl)
  | skip
 all_goals
  rename_i c
  obtain ⟨callee,args,tys⟩:=c
  cases callee with
  | builtin b=>cases b <;> simp [am] at h
  | value f=>cases f <;> simp [am] at h
  | invoke r m=>simp [am] at h
end
end Go.Ab
end

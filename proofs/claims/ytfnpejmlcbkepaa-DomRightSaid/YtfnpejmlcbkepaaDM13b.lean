import Derived.Test.YtfnpejmlcbkepaaDM12b
set_option linter.all false
section
namespace Go.Ab
open Go.RowKit
structure gz (P:Program) (G:Laid) (E:Env) (C:Cal):Prop where
 ty:∀ t d,E.T t=some d→aN P t d
 call:xb P G E C
section
variable {P:Program} {E:Env} {C:Cal} {w0:Bs} {w w':World} {I0 I R:Nat→Prop} {g g':Gh} {st st':ASt} {a:Act} {ov:List Value} {look:Look} {Q:Exit→Act→World→Prop} {id:Nat}
theorem Bo (hE:gz P w0.G E C) (hlk:∀ i b,look i=some b→st.look i=some b) (hs:aj w0 I0 NoR g st a ov w) {o:Oper} {e:Eff} (hh:(opL E (st.nid o.dst) look o.op (o.op.operands.toList.map st.ev)).hits C e) (ha:e.app st o.dst=some st') :
  Good P w0 I0 ov o st' a w Q:=by
 obtain ⟨dst,op,type,pos,after,guard⟩:=o
 cases op with
 | move x=>exact Dw hs hh ha
 | assign x=>exact AM hs hh ha
 | pick c x y=>exact Dy hs hh ha
 | alloc t=>exact Bp hE.ty hs hh ha
 | box t x=>exact op_box hE.ty hs hh ha
 | build t parts=>exact Bx hE.ty hs hh ha
 | makeFunc fn first cap=>exact vZ hs hh ha
 | buildSlice t len parts =>
  simp only [opL] at hh
  cases hc:E.cold t && !(len.beq 0) with
  | true=>rw [hc] at hh; exact C7 hE.ty hlk hs hh ha
  | false=>rw [hc] at hh; exact tw hE.ty hlk hs hh ha
 | load t x=>exact C0 hE.ty hlk hs hh ha
 | store t x y=>exact Cy hE.ty hlk hs hh ha
 | nilCheck x=>exact xi hs hh ha
 | binOp op xt x y yt=>exact op_bin hE.ty hlk hs hh ha
 | unOp op xt x=>exact op_un hs hh ha
 | convert xt dt x=>exact xX hE.ty hlk hs hh ha
 | makeSlice t x y=>exact u7 hE.ty hs hh ha
 | makeInterface t x=>exact op_ifc hE.ty hs hh ha
 | typeAssert x xt t ok=>exact Dd hE.ty hs hh ha
 | slice t x lo hi mx=>exact Cx hE.ty hlk hs hh ha
 | fieldAddr t x f=>exact u5 hE.ty hs hh ha
 | field t x f=>exact Bv hE.ty hs hh ha
 | indexAddr t x y=>exact vo hE.ty hlk hs hh ha
 | index t x y=>exact CB hE.ty hs hh ha
 | extract x j=>exact yc hs hh ha
 | call c =>
  obtain ⟨callee,args,tys⟩:=c
  cases callee with
  | builtin b =>
   have hops:(Op.call ⟨.builtin b,args,tys⟩).operands.toList=args.toList:=by simp [Op.operands,Call.operands]
   simp only [hops] at hh
   simp only [opL] at hh
   unfold dT at hh
   split at hh
   ·rename_i x ty hargs htys
    obtain ⟨ox,rfl,hox⟩:=list1 hargs
    have:=arr1 htys
    subst this
    split at hh
    ·rename_i d hT
     rw [← hox] at hh
     exact yk hlk hs (hE.ty _ _ hT) hh ha
    ·exact hh.elim
   ·rename_i s x ty ty' hargs htys
    obtain ⟨os,ox,rfl,hos,hox⟩:=list2 hargs
    have:=arr2 htys
    subst this
    split at hh
    ·rename_i e1 d hel
     cases hb:Nat.beq ty ty' with
     | false =>
      simp only [hb,cond_false] at hh
      split at hh
      ·rename_i hu
       rw [← hos,← hox] at hh
       exact sZ hE.ty hlk hs hel hu rfl hh ha
      ·exact hh.elim
     | true =>
      simp only [hb,cond_true] at hh
      have:=(ar _ _).1 hb
      subst this
      rw [← hos,← hox] at hh
      exact tA hE.ty hlk hs hel hh ha
    ·exact hh.elim
   ·rename_i s x ty ty' hargs htys
    obtain ⟨os,ox,rfl,hos,hox⟩:=list2 hargs
    have:=arr2 htys
    subst this
    split at hh
    ·rename_i e1 d hel
     cases hb:Nat.beq ty ty' with
     | false=>simp [hb,Prg.hits] at hh
     | true =>
      simp only [hb,cond_true] at hh
      have:=(ar _ _).1 hb
      subst this
      rw [← hos,← hox] at hh
      exact wR hE.ty hlk hs hel hh ha
    ·exact hh.elim
   ·rename_i s ty hargs htys
    obtain ⟨os,rfl,hos⟩:=list1 hargs
    have:=arr1 htys
    subst this
    split at hh
    ·rename_i e1 d hel
     rw [← hos] at hh
     exact vf hE.ty hlk hs hel hh ha
    ·exact hh.elim
   ·rename_i x y hargs
    obtain ⟨ox,oy,rfl,hox,hoy⟩:=list2 hargs
    rw [← hox,← hoy] at hh
    exact sK hs hh ha
   ·rename_i x y hargs
    obtain ⟨ox,oy,rfl,hox,hoy⟩:=list2 hargs
    rw [← hox,← hoy] at hh
    exact sK hs hh ha
   ·exact hh.elim
  | value f =>
   cases f with
   | func f =>
    have hops:(Op.call ⟨.value (.func f),args,tys⟩).operands.toList=.func f :: args.toList:=by simp [Op.operands,Call.operands]
    simp only [hops,List.map_cons] at hh
    exact Dx hE.call hE.ty hlk hs hh ha
   | tmp t =>
    have hops:(Op.call ⟨.value (.tmp t),args,tys⟩).operands.toList=.tmp t :: args.toList:=by simp [Op.operands,Call.operands]
    simp only [hops,List.map_cons] at hh
    exact op_dyn hE.call hE.ty hlk hs hh ha
   | _=>simp [opL,Prg.hits] at hh
  | invoke r m=>simp [opL,Prg.hits] at hh
 | _=>simp [opL,Prg.hits] at hh
def AV.nf:AV→AV
 | .one (.t (.lit (.bool b)))=>.bl b
 | .tv (.lit (.bool b))=>.bl b
 | v=>v
def Eff.nfE:Eff→Eff
 | .val v=>.val v.nf
 | .new b v=>.new b v.nf
 | .upd i b v=>.upd i b v.nf
 | .gen ps v=>.gen ps v.nf
def ASt.nfS (st:ASt):ASt:=⟨st.slots.map AV.nf,st.boxes,st.out⟩
theorem aD (v:AV):v.nf=v∨∃ b,v.nf=.bl b∧(v=.one (.t (.lit (.bool b)))∨v=.tv (.lit (.bool b))):=by
 unfold AV.nf
 split
 ·exact .inr ⟨_,rfl,.inl rfl⟩
 ·exact .inr ⟨_,rfl,.inr rfl⟩
 ·exact .inl rfl
theorem uh (v:AV):v.nf.nf=v.nf:=by
 rcases aD v with h | ⟨b,h,_⟩
 ·rw [h,h]
 ·rw [h]; rfl
theorem gf (v:AV):v.nf.tv? = v.tv? := by
 rcases aD v with h | ⟨b,h,rfl | rfl⟩
 ·rw [h]
 ·rfl
 ·rfl
theorem Ce {v:AV} {u:Value}:bI w g look v.nf u ↔ bI w g look v u:=by
 rcases aD v with h | ⟨b,h,rfl | rfl⟩
 ·rw [h]
 ·rw [h]
  constructor
  ·intro h'
   have:u=.bool b:=h'
   subst this
   exact ⟨.lit _,rfl⟩
  ·intro h'
   exact bq h'.1
 ·rw [h]
  constructor
  ·intro h'
   have:u=.bool b:=h'
   subst this
   exact .lit _
  ·intro h'
   exact bq h'
theorem lZ (v:AV):v.nf.dH=v.dH:=by
 rcases aD v with h | ⟨b,h,rfl | rfl⟩
 ·rw [h]
 ·rw [h]; rfl
 ·rw [h]; rfl
theorem b7 (e:Eff):dc e.nfE=dc e:=by cases e <;> simp only [Eff.nfE,dc,lZ]
theorem oa (e:Eff):e.nfE.plain=e.plain:=by cases e <;> rfl
theorem wX (base:Nat) (own:List (List Nat × List Nat)) (e:Eff):e.nfE.mM base own=e.mM base own:=by cases e <;> rfl
theorem wn {S:Type} {agg:Bool} {n:Nat} {v:AV} {k k':List CA→Prg S} {e:S} (hk:∀ cs,(k cs).hits C e→(k' cs).hits C e) (h:(v.aU agg n k).hits C e):(v.aU agg n k').hits C e:=by
 unfold AV.aU at h ⊢
 split at h
 ·rename_i c
  cases hc:c.kept with
  | true=>rw [hc] at h; exact hk _ h
  | false=>rw [hc] at h; exact h.elim
 ·exact ⟨h.1,hk _ h.2⟩
 ·exact hk _ h
 ·exact hk _ h
 ·rename_i cs
  cases hc:cs.length.beq n with
  | true=>rw [hc] at h; exact hk _ h
  | false=>rw [hc] at h; exact h.elim
 ·exact ⟨h.1,hk _ h.2⟩
 ·exact h.elim
theorem fb {S:Type} {agg:Bool} {n:Nat} {v:AV} {k:List CA→Prg S} {e:S} (h:(v.aU agg n k).hits C e):(v.nf.aU agg n k).hits C e:=by
 rcases aD v with h1 | ⟨b,h1,rfl | rfl⟩
 ·rwa [h1]
 ·rw [h1]
  cases agg with
  | false=>exact h
  | true=>exact h.elim
 ·rw [h1]
  cases agg with
  | false=>exact h.2
  | true=>exact (by simp [AV.aU,TV.isAgg,Prg.hits] at h)
theorem lB {S:Type} {e:S}:∀ {vs:List AV} {k:List CA→Prg S},(jR vs k).hits C e→(jR (vs.map AV.nf) k).hits C e
 | [],k,h=>h
 | x :: vs, k, h => by
  simp only [jR,List.map_cons] at h ⊢
  refine fb ?_
  unfold AV.aU at h ⊢
  split at h
  ·rename_i c _
   cases hc:c.kept with
   | false=>simp [hc,Prg.hits] at h
   | true=>simp only [hc,cond_true] at h ⊢; exact lB h
  ·exact ⟨h.1,lB h.2⟩
  ·exact lB h
  ·exact lB h
  ·rename_i cs' hb; cases hb
  ·rename_i cs' hb; cases hb
  ·exact h.elim
theorem jC {f:FuncId} {e:Eff}:∀ {vs:List AV} {k:List CA→List CA},(jR vs fun cs=>(.ret (.val (.clo f (k cs))):Out)).hits C e→∃ cs,e=.val (.clo f cs)
 | [],k,h=>⟨_,h.symm⟩
 | x :: vs, k, h => by
  simp only [jR] at h
  unfold AV.aU at h
  split at h
  ·rename_i c _
   cases hc:c.kept with
   | false=>simp [hc,Prg.hits] at h
   | true=>simp only [hc,cond_true] at h; exact jC (k:=fun cs=>k (_ ++ cs)) h
  ·exact jC (k:=fun cs=>k (_ ++ cs)) h.2
  ·exact jC (k:=fun cs=>k (_ ++ cs)) h
  ·exact jC (k:=fun cs=>k (_ ++ cs)) h
  ·rename_i hb; cases hb
  ·rename_i hb; cases hb
  ·exact h.elim
theorem qK {S:Type} {at_:Nat→Option (Nat × Bool × Nat)} {k:List CA→Prg S} {e:S}:∀ {is:List Nat} {vs:List AV} {cs:List CA},(bP at_ is vs cs k).hits C e→(bP at_ is (vs.map AV.nf) cs k).hits C e
 | [],[],cs,h=>h
 | i :: is, x :: vs, cs, h => by
  simp only [bP,List.map_cons] at h ⊢
  split at h
  ·rename_i off agg n hat
   have key:∀ ps,((bif (off + ps.length).ble cs.length && ps.length.beq n then bP at_ is vs (bU cs off ps) k else .fail):Prg S).hits C e→((bif (off + ps.length).ble cs.length && ps.length.beq n then bP at_ is (vs.map AV.nf) (bU cs off ps) k else .fail):Prg S).hits C e:=by
    intro ps hp
    cases hb:(off + ps.length).ble cs.length && ps.length.beq n with
    | false=>simp [hb,Prg.hits] at hp
    | true=>simp only [hb,cond_true] at hp ⊢; exact qK hp
   refine fb ?_
   unfold AV.aU at h ⊢
   split at h
   ·rename_i c
    cases hc:c.kept with
    | false=>simp [hc,Prg.hits] at h
    | true=>simp only [hc,cond_true] at h ⊢; exact key _ h
   ·exact ⟨h.1,key _ h.2⟩
   ·exact key _ h
   ·exact key _ h
   ·rename_i cs'
    have:=key cs'
    cases hc:cs'.length.beq n with
    | false=>simp [hc,Prg.hits] at h
    | true=>simp only [hc,cond_true] at h this ⊢; exact this h
   ·exact ⟨h.1,key _ h.2⟩
   ·exact h.elim
  ·exact h.elim
 | [],_ :: _,cs,h=>h.elim
 | _ :: _,[],cs,h=>h.elim
theorem vD {S:Type} {v:AV} {k:TV→Prg S}:tq look v.nf k=tq look v k:=by
 rcases aD v with h | ⟨b,h,rfl | rfl⟩
 ·rw [h]
 ·rfl
 ·rfl
theorem Bb {S:Type} {v:AV} {k:TV→Prg S}:sQ look v.nf k=sQ look v k:=by
 rcases aD v with h | ⟨b,h,rfl | rfl⟩
 ·rw [h]
 ·rfl
 ·rfl
theorem BY {S:Type} {v:AV} {k:TV→List (Nat × Nat)→Prg S}:sh look v.nf k=sh look v k:=by
 rcases aD v with h | ⟨b,h,rfl | rfl⟩
 ·rw [h]
 ·rfl
 ·rfl
theorem jL {S:Type}:∀ {vs:List AV} {k:List TV→Prg S},lends look (vs.map AV.nf) k=lends look vs k
 | [],k=>rfl
 | v :: vs,k=>by simp only [List.map_cons,lends,Bb,jL]
theorem tj {S:Type}:∀ {vs:List AV} {k:List TV→List (Nat × Nat)→Prg S},hands look (vs.map AV.nf) k=hands look vs k
 | [],k=>rfl
 | v :: vs,k=>by simp only [List.map_cons,hands,BY,tj]
theorem B7 {E:Env} {id:Nat} {look:Look} {f:FuncId} {ld:eX} (vs:List AV):ny E id look f ld (vs.map AV.nf)=ny E id look f ld vs:=by
 cases vs with
 | nil=>rfl
 | cons v l =>
  rcases aD v with h | ⟨b,h,rfl | rfl⟩
  ·simp only [List.map_cons,h]
   cases v with
   | one c =>
    cases c with
    | ptr i off =>
     cases off with
     | zero=>simp only [ny,tj]
     | succ n=>rfl
    | _=>rfl
   | _=>rfl
  ·simp only [List.map_cons,h]; rfl
  ·simp only [List.map_cons,h]; rfl
theorem A8 {look:Look} {f:FuncId} {c:Nat × Nat} (vs:List AV):nH look f c (vs.map AV.nf)=nH look f c vs:=by
 cases vs with
 | nil=>rfl
 | cons v l =>
  rcases aD v with h | ⟨b,h,rfl | rfl⟩
  ·simp only [List.map_cons,h]
   cases v with
   | one c =>
    cases c with
    | ptr i off =>
     cases off with
     | zero=>simp only [nH,jL]
     | succ n=>rfl
    | _=>rfl
   | _=>rfl
  ·simp only [List.map_cons,h]; rfl
  ·simp only [List.map_cons,h]; rfl
theorem BM {look:Look} {f:FuncId} (vs:List AV):lE look f (vs.map AV.nf)=lE look f vs:=by
 cases vs with
 | nil=>rfl
 | cons v l =>
  rcases aD v with h | ⟨b,h,rfl | rfl⟩
  ·simp only [List.map_cons,h]
   cases v with
   | one c=>cases c <;> simp only [lE,jL]
   | _=>rfl
  ·simp only [List.map_cons,h]; rfl
  ·simp only [List.map_cons,h]; rfl
theorem Dn {E:Env} {id:Nat} {look:Look} {f:FuncId} {i:Nat} (vs:List AV):wC E id look f i (vs.map AV.nf)=wC E id look f i vs:=by
 simp only [wC,jL]
theorem DE (d:TyD) (t:TypeId) (v:AV):A4 d t v.nf=A4 d t v:=by
 rcases aD v with h | ⟨b,h,rfl | rfl⟩
 ·rw [h]
 ·rfl
 ·rfl
theorem CJ (d:TyD) (t:TypeId) (v:AV):uE d t v.nf=uE d t v:=by
 simp only [uE,gf]
theorem AD {S:Type} {v:Option AV} {k:Option Nat→Prg S}:fx (v.map AV.nf) k=fx v k:=by
 cases v with
 | none=>rfl
 | some v=>simp only [fx,EA,gf]
theorem uC (v:AV):sP v.nf=sP v:=by
 rcases aD v with h | ⟨b,h,rfl | rfl⟩
 ·rw [h]
 ·rfl
 ·rfl
theorem zb {S:Type} {d:TyD} {dest:Option Nat} {v:AV} {k:List (List TV)→List Prim→Prg S}:xj look d dest v.nf k=xj look d dest v k:=by
 rcases aD v with h | ⟨b,h,rfl | rfl⟩
 ·rw [h]
 ·rfl
 ·rfl
theorem mo {kd:Kd} {sz:Nat} {x:AV} {lo hi:Option AV}:iy look kd sz x.nf (lo.map AV.nf) (hi.map AV.nf)=iy look kd sz x lo hi:=by
 simp only [iy,gf,AD]
 rcases aD x with h | ⟨b,h,rfl | rfl⟩
 ·rw [h]
  cases lo <;> rfl
 ·rfl
 ·rfl
theorem CI (v:AV):uF v.nf=uF v:=by
 rcases aD v with h | ⟨b,h,rfl | rfl⟩
 ·rw [h]
 ·rfl
 ·rfl
theorem opL_nf {op : Op} {vs : List AV} {e : Eff} (h : (opL E id look op vs).hits C e) : ∃ e', (opL E id look op (vs.map AV.nf)).hits C e' ∧ e'.nfE = e.nfE := by
 cases op with
 | move x =>
  rcases vs with _ | ⟨v,_ | ⟨v',r⟩⟩ <;> first | exact h.elim | skip
  cases h
  exact ⟨_,rfl,by simp [Eff.nfE,uh]⟩
 | assign x =>
  rcases vs with _ | ⟨v,_ | ⟨v',r⟩⟩ <;> first | exact h.elim | skip
  cases h
  exact ⟨_,rfl,by simp [Eff.nfE,uh]⟩
 | pick c x y =>
  rcases vs with _ | ⟨v,_ | ⟨v',_ | ⟨v'',_ | ⟨v3,r⟩⟩⟩⟩ <;> first | exact h.elim | skip
  simp only [opL] at h
  split at h
  ·rename_i b
   cases h
   refine ⟨_,rfl,?_⟩
   cases b <;> simp [Eff.nfE,uh]
  ·rename_i v
   obtain ⟨b,hb,h⟩:=h
   have hv:v=.lit (.bool b):=by
    unfold asBool at hb
    split at hb
    ·cases hb; rfl
    ·cases hb
   subst hv
   rcases h with ⟨rfl,h⟩ | ⟨rfl,h⟩ <;> (cases h; exact ⟨_,rfl,by simp [Eff.nfE,uh]⟩)
  ·rename_i v
   obtain ⟨b,hb,h⟩:=h
   have hv:v=.lit (.bool b):=by
    unfold asBool at hb
    split at hb
    ·cases hb; rfl
    ·cases hb
   subst hv
   rcases h with ⟨rfl,h⟩ | ⟨rfl,h⟩ <;> (cases h; exact ⟨_,rfl,by simp [Eff.nfE,uh]⟩)
  ·exact h.elim
 | alloc t =>
  rcases vs with _ | ⟨v,r⟩ <;> first | exact h.elim | exact ⟨e,h,rfl⟩
 | box t x =>
  rcases vs with _ | ⟨v,_ | ⟨v',r⟩⟩ <;> first | exact h.elim | skip
  refine ⟨e,?_,rfl⟩
  simp only [opL,List.map_cons,List.map_nil] at h ⊢
  split at h
  ·exact fb h
  ·exact h.elim
 | makeFunc fn first cap =>
  cases fn with
  | func f =>
   have:∃ cs,e=.val (.clo f cs):=by
    simp only [opL] at h
    cases hb:first.size.beq 0 with
    | false=>simp [hb,Prg.hits] at h
    | true =>
     simp only [hb,cond_true] at h
     exact jC (k:=fun l=>l) h
   obtain ⟨cs,rfl⟩:=this
   refine ⟨_,?_,rfl⟩
   simp only [opL] at h ⊢
   cases hb:first.size.beq 0 with
   | false=>simp [hb,Prg.hits] at h
   | true=>simp only [hb,cond_true] at h ⊢; exact lB h
  | _=>exact h.elim
 | build t parts =>
  refine ⟨e,?_,rfl⟩
  simp only [opL] at h ⊢
  split at h
  ·rename_i d hd
   cases hb:kY E.T d.kd with
   | false=>simp [hb,Prg.hits] at h
   | true=>simp only [hb,cond_true] at h ⊢; exact qK h
  ·exact h.elim
 | buildSlice t len parts =>
  refine ⟨e,?_,rfl⟩
  simp only [opL] at h ⊢
  cases hc:E.cold t && !(len.beq 0) with
  | true =>
   rw [hc] at h
   simp only [cond_true] at h ⊢
   unfold qY at h ⊢
   split at h
   ·exact qK h
   ·exact h.elim
  | false =>
   rw [hc] at h
   simp only [cond_false] at h ⊢
   unfold iw at h ⊢
   split at h
   ·exact qK h
   ·exact h.elim
 | load t x =>
  rcases vs with _ | ⟨v,_ | ⟨v',r⟩⟩ <;> first | exact h.elim | skip
  refine ⟨e,?_,rfl⟩
  rcases aD v with h1 | ⟨b,h1,rfl | rfl⟩
  ·simpa only [List.map_cons,List.map_nil,h1] using h
  ·simp only [opL] at h; split at h <;> exact h.elim
  ·simp only [opL] at h; split at h <;> exact h.elim
 | store t x y =>
  rcases vs with _ | ⟨v,_ | ⟨v',_ | ⟨v'',r⟩⟩⟩ <;> first | exact h.elim | skip
  refine ⟨e,?_,rfl⟩
  simp only [opL,List.map_cons,List.map_nil] at h ⊢
  split at h
  ·rcases aD v with h1 | ⟨b,h1,rfl | rfl⟩
   ·rw [h1]
    unfold vc at h ⊢
    split at h
    ·rename_i e0 _ _ i0 off0 len0 n0
     cases hk0:e0.kd.isAgg with
     | true=>rw [hk0] at h; exact h.elim
     | false =>
      rw [hk0] at h
      simp only [cond_false] at h ⊢
      split at h
      ·exact fb h
      ·exact h.elim
    ·exact fb h
    ·exact fb h
    ·exact h.elim
   ·exact h.elim
   ·exact h.elim
  ·exact h.elim
 | nilCheck x =>
  rcases vs with _ | ⟨v,_ | ⟨v',r⟩⟩ <;> first | exact h.elim | skip
  refine ⟨e,?_,rfl⟩
  rcases aD v with h1 | ⟨b,h1,rfl | rfl⟩
  ·simpa only [List.map_cons,List.map_nil,h1] using h
  ·exact h.elim
  ·exact h.elim
 | binOp op xt x y yt =>
  rcases vs with _ | ⟨v,_ | ⟨v',_ | ⟨v'',r⟩⟩⟩ <;> first | exact h.elim | skip
  refine ⟨e,?_,rfl⟩
  simp only [opL,List.map_cons,List.map_nil] at h ⊢
  split at h
  ·unfold Dg at h ⊢
   split at h
   ·split at h
    ·exact fb (wn (fun cs h=>fb h) h)
    ·exact h.elim
   ·simp only [Do,CI] at h ⊢
    exact h
   ·simp only [DG,vD,gf] at h ⊢
    exact h
  ·exact h.elim
 | unOp op xt x =>
  rcases vs with _ | ⟨v,_ | ⟨v',r⟩⟩ <;> first | exact h.elim | skip
  rcases aD v with h1 | ⟨b,h1,h2⟩
  ·refine ⟨e,?_,rfl⟩
   simpa only [List.map_cons,List.map_nil,h1] using h
  ·have hv:∃ t,(opL E id look (.unOp op xt x) [v]).hits C e→(Prg.tv (pun op (.lit (.bool b))) vt).hits C e:=⟨(),by rcases h2 with rfl | rfl <;> intro h <;> cases op <;> exact h⟩
   obtain ⟨_,hv⟩:=hv
   obtain ⟨z,hz,hh⟩:=hv h
   cases op with
   | not =>
    simp only [pun,Eo] at hz
    subst hz
    cases hh
    refine ⟨.val (.bl !b),?_,rfl⟩
    simp only [List.map_cons,List.map_nil,h1]
    rfl
   | _=>simp [pun] at hz
 | convert xt dt x =>
  rcases vs with _ | ⟨v,_ | ⟨v',r⟩⟩ <;> first | exact h.elim | skip
  refine ⟨e,?_,rfl⟩
  simp only [opL,List.map_cons,List.map_nil,yT,gf,vD] at h ⊢
  exact h
 | makeSlice t x y =>
  rcases vs with _ | ⟨v,_ | ⟨v',_ | ⟨v'',r⟩⟩⟩ <;> first | exact h.elim | skip
  refine ⟨e,?_,rfl⟩
  simp only [opL,List.map_cons,List.map_nil,gf] at h ⊢
  exact h
 | slice t x lo hi mx =>
  refine ⟨e,?_,rfl⟩
  cases mx with
  | some m=>rcases vs with _ | ⟨v,r⟩ <;> exact h.elim
  | none =>
   rcases vs with _ | ⟨v,r⟩
   ·exact h.elim
   ·simp only [opL, List.map_cons] at h ⊢
    split at h
    ·rename_i d hT
     split at h
     ·rename_i sz hsz
      cases lo with
      | none =>
       cases hi with
       | none =>
        rcases r with _ | ⟨l,r⟩
        ·have:=mo (look:=look) (kd:=d.kd) (sz:=sz) (x:=v) (lo:=none) (hi:=none)
         simp only [Option.map_none] at this
         simp only [List.map_nil]
         rw [this]; exact h
        ·exact h.elim
       | some hh =>
        rcases r with _ | ⟨l,_ | ⟨l',r⟩⟩
        ·exact h.elim
        ·have:=mo (look:=look) (kd:=d.kd) (sz:=sz) (x:=v) (lo:=none) (hi:=some l)
         simp only [Option.map_none,EA] at this
         simp only [List.map_cons,List.map_nil]
         rw [this]; exact h
        ·exact h.elim
      | some ll =>
       cases hi with
       | none =>
        rcases r with _ | ⟨l,_ | ⟨l',r⟩⟩
        ·exact h.elim
        ·have:=mo (look:=look) (kd:=d.kd) (sz:=sz) (x:=v) (lo:=some l) (hi:=none)
         simp only [Option.map_none,EA] at this
         simp only [List.map_cons,List.map_nil]
         rw [this]; exact h
        ·exact h.elim
       | some hh =>
        rcases r with _ | ⟨l,_ | ⟨l',_ | ⟨l'',r⟩⟩⟩
        ·exact h.elim
        ·exact h.elim
        ·have:=mo (look:=look) (kd:=d.kd) (sz:=sz) (x:=v) (lo:=some l) (hi:=some l')
         simp only [EA] at this
         simp only [List.map_cons,List.map_nil]
         rw [this]; exact h
        ·exact h.elim
     ·exact h.elim
    ·exact h.elim
 | fieldAddr t x f =>
  rcases vs with _ | ⟨v,_ | ⟨v',r⟩⟩ <;> first | exact h.elim | skip
  refine ⟨e,?_,rfl⟩
  rcases aD v with h1 | ⟨b,h1,rfl | rfl⟩
  ·simpa only [List.map_cons,List.map_nil,h1] using h
  ·simp only [opL] at h
   split at h
   ·rename_i hv
    cases hv
    split at h
    ·rename_i n _ _
     cases hb:Nat.blt 0 n <;> simp [hb,CA.add,Prg.hits] at h
    ·exact h.elim
   ·exact h.elim
  ·simp only [opL] at h
   split at h
   ·rename_i hv; cases hv
   ·exact h.elim
 | field t x f =>
  rcases vs with _ | ⟨v,_ | ⟨v',r⟩⟩ <;> first | exact h.elim | skip
  refine ⟨e,?_,rfl⟩
  rcases aD v with h1 | ⟨b,h1,rfl | rfl⟩
  ·simpa only [List.map_cons,List.map_nil,h1] using h
  ·simp only [opL] at h
   split at h
   ·split at h <;> exact h.elim
   ·exact h.elim
  ·simp only [opL] at h
   split at h
   ·split at h
    ·simp [uX,TV.isAgg,Prg.hits] at h
    ·exact h.elim
   ·exact h.elim
 | indexAddr t x y =>
  rcases vs with _ | ⟨v,_ | ⟨v',_ | ⟨v'',r⟩⟩⟩ <;> first | exact h.elim | skip
  refine ⟨e,?_,rfl⟩
  simp only [opL,List.map_cons,List.map_nil] at h ⊢
  split at h
  ·rcases aD v with h1 | ⟨b,h1,rfl | rfl⟩
   ·simp only [h1,pC,gf] at h ⊢; exact h
   ·simp only [pC,gf] at h ⊢; exact h
   ·simp only [pC,gf] at h ⊢; exact h
  ·unfold qP at h ⊢
   rw [gf]
   rcases aD v with h1 | ⟨b,h1,rfl | rfl⟩
   ·rw [h1]; exact h
   ·split at h
    ·split at h <;> first | exact h.elim | (rename_i hx _; cases hx)
    ·exact h.elim
   ·split at h
    ·split at h <;> first | exact h.elim | (rename_i hx _; cases hx)
    ·exact h.elim
 | index t x y =>
  rcases vs with _ | ⟨v,_ | ⟨v',_ | ⟨v'',r⟩⟩⟩ <;> first | exact h.elim | skip
  refine ⟨e,?_,rfl⟩
  simp only [opL,List.map_cons,List.map_nil,gf] at h ⊢
  split at h
  ·exact h
  ·unfold qR at h ⊢
   rw [gf]
   rcases aD v with h1 | ⟨b,h1,rfl | rfl⟩
   ·rw [h1]; exact h
   ·split at h
    ·split at h <;> first | exact h.elim | (rename_i hx _; cases hx)
    ·exact h.elim
   ·split at h
    ·split at h <;> first | exact h.elim | (rename_i hx _; cases hx)
    ·exact h.elim
 | extract x j =>
  rcases vs with _ | ⟨v,_ | ⟨v',r⟩⟩ <;> first | exact h.elim | skip
  refine ⟨e,?_,rfl⟩
  rcases aD v with h1 | ⟨b,h1,rfl | rfl⟩
  ·simpa only [List.map_cons,List.map_nil,h1] using h
  ·exact h.elim
  ·exact h.elim
 | call c =>
  refine ⟨e,?_,rfl⟩
  obtain ⟨callee,args,tys⟩:=c
  cases callee with
  | builtin b =>
   simp only [opL] at h ⊢
   unfold dT at h
   split at h
   ·rename_i x ty htys
    simp only [htys,dT,List.map_cons,List.map_nil]
    split at h
    ·rename_i d hd
     have key:∀ kd,(yB look kd x).hits C e→(yB look kd x.nf).hits C e:=by intro kd; cases kd <;> simp only [yB,vD] <;> exact fun h=>h
     exact key _ h
    ·exact h.elim
   ·rename_i s x ty ty' htys
    simp only [htys,dT,List.map_cons,List.map_nil]
    split at h
    ·rename_i _ d hel
     cases hb:Nat.beq ty ty' with
     | false =>
      simp only [hb,cond_false] at h ⊢
      split at h
      ·rename_i hu
       unfold lx at h ⊢
       rw [gf]
       rcases aD s with h1 | ⟨b,h1,rfl | rfl⟩
       ·rw [h1]; exact h
       ·exact h
       ·exact h
      ·exact h.elim
     | true =>
      simp only [hb,cond_true] at h ⊢
      unfold nP at h ⊢
      rw [zb,uC]
      rcases aD s with h1 | ⟨b,h1,rfl | rfl⟩
      ·rw [h1]; exact h
      ·exact h
      ·exact h
    ·exact h.elim
   ·rename_i s x ty ty' htys
    simp only [htys,dT,List.map_cons,List.map_nil]
    split at h
    ·rename_i _ d hel
     cases hb:Nat.beq ty ty' with
     | false=>simp [hb,Prg.hits] at h
     | true =>
      simp only [hb,cond_true] at h ⊢
      unfold zv at h ⊢
      rw [zb,uC]
      rcases aD s with h1 | ⟨b,h1,rfl | rfl⟩
      ·rw [h1]; exact h
      ·exact h
      ·exact h
    ·exact h.elim
   ·rename_i s ty htys
    simp only [htys,dT,List.map_cons,List.map_nil]
    split at h
    ·unfold uZ at h ⊢
     rcases aD s with h1 | ⟨b,h1,rfl | rfl⟩
     ·rw [h1]; exact h
     ·exfalso
      revert h
      cases Nat.blt 0 _ <;> exact fun h=>h.elim
     ·exfalso
      revert h
      cases Nat.blt 0 _ <;> exact fun h=>h.elim
    ·exact h.elim
   ·simp only [dT,List.map_cons,List.map_nil,vW,gf] at h ⊢
    exact h
   ·simp only [dT,List.map_cons,List.map_nil,vW,gf] at h ⊢
    exact h
   ·exact h.elim
  | value f =>
   cases f with
   | func f =>
    rcases vs with _ | ⟨v,r⟩
    ·exact h.elim
    ·simp only [opL,List.map_cons,mE,jL,tj,B7,A8,BM] at h ⊢
     exact h
   | tmp t =>
    rcases vs with _ | ⟨v,r⟩
    ·exact h.elim
    ·simp only [opL,List.map_cons,gf,jL,Dn] at h ⊢
     rcases aD v with h1 | ⟨b,h1,rfl | rfl⟩
     ·rw [h1]; exact h
     ·exact h
     ·exact h
   | _=>exact h.elim
  | invoke r m=>exact h.elim
 | makeInterface t x =>
  rcases vs with _ | ⟨v,_ | ⟨v',r⟩⟩ <;> first | exact h.elim | skip
  refine ⟨e,?_,rfl⟩
  simp only [opL,List.map_cons,List.map_nil,DE] at h ⊢
  exact h
 | typeAssert x xt t ok =>
  rcases vs with _ | ⟨v,_ | ⟨v',r⟩⟩ <;> cases ok <;> first | exact h.elim | skip
  refine ⟨e,?_,rfl⟩
  simp only [opL,List.map_cons,List.map_nil,CJ] at h ⊢
  exact h
 | _=>exact h.elim
theorem lv (st:ASt):st.nfS.look=st.look:=rfl
theorem oE (st:ASt):st.nfS.base=st.base:=rfl
theorem u6 (st:ASt) (d:Option Tmp):st.nfS.nid d=st.nid d:=by cases d <;> rfl
theorem iY (st:ASt) (d:Option Tmp) (v:AV):(st.put d v).nfS=st.nfS.put d v.nf:=by
 cases d with
 | none=>rfl
 | some d=>simp [ASt.nfS,ASt.put,ai,List.map_set]
theorem sW (st:ASt) (i:Nat) (b:Option BC):(st.ac i b).nfS=st.nfS.ac i b:=rfl
theorem jE (st:ASt) (t:Nat):nth (.one .junk) st.nfS.slots t=(nth (.one .junk) st.slots t).nf:=by
 simp only [ASt.nfS,aM,Et]
 cases st.slots[t]? <;> rfl
theorem As (ps:List Nat) (st:ASt) (d:Option Nat) (e:Eff):b9 ps st.nfS d e.nfE=b9 ps st d e:=by
 unfold b9
 congr 1
 funext k
 cases d with
 | none=>rw [oE,b7]
 | some d=>simp only [oE,b7,jE,lZ]
theorem oo (k s:Nat):∀ (l:List AV) (n:Nat),fg k s n (l.map AV.nf)=fg k s n l
 | [],n=>rfl
 | v :: l,n=>by simp only [List.map_cons,fg,lZ,oo k s l (n + 1)]
theorem xC {k:Nat} {v:AV} (h:jt k v=true):jt k v.nf=true:=by
 unfold jt at h
 split at h
 ·exact h
 ·cases h
theorem iK {e:Eff} {i:Nat} {y:TV} (h:jF e=some (i,y)):e=.gen [.drop i 0 [] false,.root i 0 y] (.one (.sref i 0 [])):=by
 unfold jF at h
 split at h
 ·rename_i i' j y' k
  cases hb:i'.beq j && i'.beq k with
  | false=>rw [hb] at h; cases h
  | true =>
   simp only [hb,cond_true,Eo,Prod.mk.injEq] at h
   simp only [Ep] at hb
   obtain ⟨rfl,rfl⟩:=h
   rw [← (ar _ _).1 hb.1,← (ar _ _).1 hb.2]
 ·cases h
theorem mG (i:Nat) (y:TV):jF (.gen [.drop i 0 [] false,.root i 0 y] (.one (.sref i 0 [])))=some (i,y):=by
 simp only [jF,(ar i i).2 rfl,Bool.and_self,cond_true]
theorem zT {o:Item} {st:ASt} {e:Eff} (h:cU o st e=true):cU o st.nfS e.nfE=true:=by
 unfold cU at h ⊢
 split at h
 ·rename_i s i y h1 h2
  have:=iK h2
  subst this
  simp only [Ep] at h
  simp only [h1,Eff.nfE,AV.nf,mG,Ep]
  refine ⟨⟨⟨⟨⟨h.1.1.1.1.1,?_⟩,h.1.1.1.2⟩,?_⟩,h.1.2⟩,h.2⟩
  ·rw [jE]; exact xC h.1.1.1.1.2
  ·rw [show st.nfS.slots=st.slots.map AV.nf from rfl,oo]; exact h.1.1.2
 ·cases h
theorem sJ (st:ASt) (x:Operand):st.nfS.ev x=(st.ev x).nf:=by
 cases x with
 | tmp t=>exact jE st t
 | const v =>
  cases v with
  | bool b=>rfl
  | _=>first | rfl | (simp only [ASt.ev]; cases Value.oneCell' _ <;> rfl)
 | global g=>rfl
 | func f=>rfl
theorem rI:∀ (l:List AV),cg (l.map AV.nf)=cg l
 | []=>rfl
 | v :: l=>by simp only [List.map_cons,cg,gf,rI l]
theorem jZ (e:Eff):ig e.nfE=ig e:=by
 cases e with
 | new b v=>cases b <;> rfl
 | _=>rfl
theorem Ag {i:Item} {st:ASt} {e:Eff}:gK i st.nfS e.nfE=gK i st e:=by
 unfold gK
 have:i.o.op.operands.toList.map st.nfS.ev=(i.o.op.operands.toList.map st.ev).map AV.nf:=by
  rw [List.map_map]
  exact List.map_congr_left fun x _=>sJ st x
 rw [this,rI,jZ,b7]
 rfl
theorem wg:∀ (l:List AV),fG (l.map AV.nf)=fG l
 | []=>rfl
 | v :: l=>by simp only [List.map_cons,fG,lZ,wg l]
theorem oL (e:Eff):lw e.nfE=lw e:=by cases e <;> rfl
theorem yw (e:Eff):drE e.nfE=drE e:=by cases e <;> rfl
theorem rr (k:Nat) (e:Eff):uK k e.nfE=uK k e:=by cases e <;> rfl
theorem qV (v:AV):(v.nf.bN CA.deep).dH=(v.bN CA.deep).dH:=by
 rcases aD v with h | ⟨b,h,rfl | rfl⟩
 ·rw [h]
 ·rw [h]; rfl
 ·rw [h]; rfl
theorem wD:∀ (l:List AV),fG (bR CA.deep (l.map AV.nf))=fG (bR CA.deep l)
 | []=>rfl
 | v :: l=>by simp only [List.map_cons,bR,fG,qV,wD l]
theorem qv (e:Eff):nS e.nfE=nS e:=by
 cases e with
 | val v=>exact qV v
 | new b v=>exact b7 (.new b v)
 | upd i b v=>exact b7 (.upd i b v)
 | gen ps v=>exact b7 (.gen ps v)
theorem AS {i:Item} {st:ASt} {e:Eff}:cf i st.nfS e.nfE=cf i st e:=by
 unfold cf
 simp only [oL,yw,rr]
 rfl
theorem AZ {i:Item} {st:ASt} {e:Eff}:cV i st.nfS e.nfE=cV i st e:=by
 unfold cV
 have hd:∀ d b,iZ st.nfS d b=iZ st d b:=fun d b=>by
  cases d with
  | none=>rfl
  | some d =>
   have:=sJ st (.tmp d)
   simp only [ASt.ev] at this
   simp only [iZ,this,lZ]
 have hd2:∀ d b,gq st.nfS d b=gq st d b:=fun d b=>by
  cases d with
  | none=>rfl
  | some d =>
   have:=sJ st (.tmp d)
   simp only [ASt.ev] at this
   simp only [gq,this,qV]
 simp only [hd,hd2,b7,qv]
 have:i.o.op.operands.toList.map st.nfS.ev=(i.o.op.operands.toList.map st.ev).map AV.nf:=by
  rw [List.map_map]
  exact List.map_congr_left fun x _=>sJ st x
 rw [this,wg,wD]
 rfl
theorem okE_nf {i:Item} {st:ASt} {e:Eff} (h:okE i st e=true):okE i st.nfS e.nfE=true:=by
 unfold okE at h ⊢
 rw [Bool.or_eq_true] at h ⊢
 rcases h with h | h
 ·rw [AS]; exact .inl h
 refine .inr ?_
 rw [Bool.or_eq_true] at h ⊢
 rcases h with h | h
 ·rw [oa,wX,oE,As,Ag,AZ]; exact .inl h
 ·exact .inr (zT h)
theorem vg (hs:Sim w0 I0 st a ov w):Sim w0 I0 st.nfS a ov w:=by
 obtain ⟨g,hs⟩:=hs
 refine ⟨g,hs.below,hs.sub,hs.lt,hs.old,by simp [ASt.nfS,hs.len],hs.defers,fun t v hv=>?_,hs.olen,hs.outs,hs.cells,hs.trees,hs.foot,hs.apart,hs.apartR,hs.res,hs.base,hs.out⟩
 simp only [ASt.nfS,Et] at hv
 cases hsl:st.slots[t]? with
 | none=>simp [hsl] at hv
 | some u =>
  simp only [hsl,EA,Eo] at hv
  subst hv
  exact Ce.2 (hs.slots t u hsl)
theorem ef (hs:Sim w0 I0 st.nfS a ov w):Sim w0 I0 st a ov w:=by
 obtain ⟨g,hs⟩:=hs
 refine ⟨g,hs.below,hs.sub,hs.lt,hs.old,by have:=hs.len; simpa [ASt.nfS] using this,hs.defers,fun t v hv=>?_,hs.olen,hs.outs,hs.cells,hs.trees,hs.foot,hs.apart,hs.apartR,hs.res,hs.base,hs.out⟩
 exact Ce.1 (hs.slots t v.nf (by simp [ASt.nfS,hv]))
theorem ol (i r:Nat) (js:List Nat) (b:Bool) (v:AV):(v.bN (CA.drop i r js b)).nf=v.nf.bN (CA.drop i r js b):=by
 rcases aD v with h | ⟨b,h,rfl | rfl⟩
 ·rw [h]
  cases v with
  | one c =>
   have key:∀ c:CA,c.drop i r js b=c∨c.drop i r js b=.junk:=fun c=>by
    rcases eA i r js b c with ⟨h,_⟩ | h
    ·exact .inl h
    ·exact .inr h
   simp only [AV.bN]
   rcases key c with h' | h'
   ·rw [h',h]
   ·rw [h']; rfl
  | tv x=>exact h
  | _=>rfl
 ·rfl
 ·rfl
theorem BZ (st:ASt) (i r:Nat) (js:List Nat) (b:Bool):(st.aw (CA.drop i r js b)).nfS=st.nfS.aw (CA.drop i r js b):=by
 simp only [ASt.nfS,ASt.aw]
 congr 1
 apply List.ext_getElem?
 intro t
 simp only [Et,mj]
 cases st.slots[t]? with
 | none=>rfl
 | some v=>simp [ol]
theorem qp (i:Nat) (v:AV):(v.bN (CA.unM i)).nf=v.nf.bN (CA.unM i):=by
 cases v with
 | one c =>
  cases c with
  | t x =>
   cases x with
   | lit u=>cases u <;> rfl
   | _=>rfl
  | may j ty =>
   simp only [AV.bN,CA.unM,AV.nf]
   cases j.beq i <;> rfl
  | _=>rfl
 | tv x =>
  cases x with
  | lit u=>cases u <;> rfl
  | _=>rfl
 | _=>rfl
theorem DO (st:ASt) (i:Nat):(st.aw (CA.unM i)).nfS=st.nfS.aw (CA.unM i):=by
 simp only [ASt.aw,ASt.nfS]
 congr 1
 induction st.slots with
 | nil=>rfl
 | cons v l ih=>simp only [bR,List.map_cons,qp,ih]
theorem tR {i:Nat} {b:BC} (h:st.bo i b=some st'):st.nfS.bo i b=some st'.nfS:=by
 obtain ⟨h1,h2,rfl⟩:=bg h
 have h2':i.blt st.nfS.boxes.length=true:=by simpa [ASt.nfS] using h2
 simp only [ASt.bo,lv,h1,h2',cond_true,sW]
theorem pN {d:Option Tmp}:∀ {ps:List Prim} {st st':ASt},ae d ps st=some st'→ae d ps st.nfS=some st'.nfS
 | [],st,st',h=>by simp only [ae,Eo] at h; subst h; rfl
 | p :: ps, st, st', h => by
  simp only [ae] at h ⊢
  cases h1:p.app st d with
  | none=>simp [h1] at h
  | some s1 =>
   simp only [h1] at h
   have:p.app st.nfS d=some s1.nfS:=by
    cases p with
    | drop i r js b =>
     simp only [Prim.app,Eo] at h1 ⊢
     subst h1
     rw [BZ]
    | root i r x =>
     simp only [Prim.app,lv] at h1 ⊢
     split at h1
     ·rename_i b hb
      simp only [Eo] at h1
      subst h1
      rfl
     ·cases h1
    | frz i r =>
     simp only [Prim.app,lv] at h1 ⊢
     split at h1
     ·rename_i x hx
      split at h1
      ·rename_i b hb
       simp only [Eo] at h1
       subst h1
       rfl
      ·cases h1
     ·cases h1
    | unmay i =>
     simp only [Prim.app,Eo] at h1 ⊢
     subst h1
     rw [DO]
    | newB b =>
     cases d with
     | none=>simp [Prim.app] at h1
     | some d =>
      simp only [Prim.app] at h1 ⊢
      rw [u6]
      exact tR h1
    | setB i cs =>
     simp only [Prim.app,lv] at h1 ⊢
     split at h1
     ·simp only [Eo] at h1
      subst h1
      rfl
     ·cases h1
   rw [this]
   exact pN h
theorem app_nf {e:Eff} {d:Option Tmp} (h:e.app st d=some st'):e.nfE.app st.nfS d=some st'.nfS:=by
 cases e with
 | val v =>
  simp only [Eff.app,Eff.nfE,Eo] at h ⊢
  subst h
  rw [iY]
 | new b v =>
  cases d with
  | none=>simp [Eff.app] at h
  | some d =>
   simp only [Eff.app,Eff.nfE] at h ⊢
   rw [u6]
   split at h
   ·rename_i s1 hs1
    simp only [Eo] at h
    subst h
    rw [tR hs1]
    simp only [iY]
   ·cases h
 | upd i b v =>
  simp only [Eff.app,Eff.nfE,Eo] at h ⊢
  subst h
  rw [iY,sW]
 | gen ps v =>
  simp only [Eff.app,Eff.nfE] at h ⊢
  split at h
  ·rename_i s1 hs1
   simp only [Eo] at h
   subst h
   rw [pN hs1]
   simp only [iY]
  ·cases h
theorem ku {d:Option Tmp} {v:AV} (hs:Sim w0 I0 (st.put d v) a ov w):Sim w0 I0 (st.put d v.nf) a ov w:=by
 apply ef
 have:=vg hs
 rw [iY] at this ⊢
 rwa [uh]
theorem zl {e:Eff} {d:Option Tmp} (h:e.nfE.app st d=some st'):∃ st1,e.app st d=some st1∧∀ w0 I0 a ov w,Sim w0 I0 st1 a ov w→Sim w0 I0 st' a ov w:=by
 cases e with
 | val v =>
  simp only [Eff.app,Eff.nfE,Eo] at h ⊢
  subst h
  exact ⟨_,rfl,fun w0 I0 a ov w hs=>ku hs⟩
 | new b v =>
  cases d with
  | none=>simp [Eff.app,Eff.nfE] at h
  | some d =>
   simp only [Eff.app,Eff.nfE] at h ⊢
   split at h
   ·rename_i s1 hs1
    simp only [Eo] at h
    subst h
    exact ⟨_,rfl,fun w0 I0 a ov w hs=>ku hs⟩
   ·cases h
 | upd i b v =>
  simp only [Eff.app,Eff.nfE,Eo] at h ⊢
  subst h
  exact ⟨_,rfl,fun w0 I0 a ov w hs=>ku hs⟩
 | gen ps v =>
  simp only [Eff.app,Eff.nfE] at h ⊢
  split at h
  ·rename_i s1 hs1
   simp only [Eo] at h
   subst h
   exact ⟨_,rfl,fun w0 I0 a ov w hs=>ku hs⟩
  ·cases h
end
end Go.Ab
end
section
namespace Go.Ab
open Go.RowKit
def Prg.All {R:Type} (p:R→Prop):Prg R→Prop
 | .fail=>True
 | .ret e=>p e
 | .tv _ k=>∀ v,(k v).All p
 | .tvs _ k=>∀ v,(k v).All p
 | .rws _ k=>∀ v,(k v).All p
 | .nat _ k=>∀ v,(k v).All p
 | .chk _ k=>k.All p
 | .ite _ t e=>t.All p∧e.All p
 | .call _ _ k=>∀ v,(k v).All p
 | .jmp _ _=>True
theorem Prg.All.hits {R:Type} {C:Cal} {p:R→Prop} {e:R}:∀ {o:Prg R},o.All p→o.hits C e→p e
 | .ret e',h,h'=>by cases h'; exact h
 | .tv _ k,h,⟨v,_,h'⟩=>(h v).hits h'
 | .tvs _ k,h,⟨v,_,h'⟩=>(h v).hits h'
 | .rws _ k,h,⟨v,_,h'⟩=>(h v).hits h'
 | .nat _ k,h,⟨v,_,h'⟩=>(h v).hits h'
 | .chk _ k,h,⟨_,h'⟩=>Prg.All.hits (o:=k) h h'
 | .ite _ t e,h,⟨v,_,.inl ⟨_,h'⟩⟩=>Prg.All.hits (o:=t) h.1 h'
 | .ite _ t e,h,⟨v,_,.inr ⟨_,h'⟩⟩=>Prg.All.hits (o:=e) h.2 h'
 | .call _ _ k,h,⟨v,_,h'⟩=>(h v).hits h'
section
variable {E:Env} {look look':Look} {p:Eff→Prop} {id:Nat}
theorem aE {b:Bool} {x y:Out} (hx:x.All p) (hy:y.All p):(bif b then x else y).All p:=by cases b <;> assumption
theorem iu {q:Way} {x:TV} {k:TV→Out} (h:∀ y,(k y).All p):(nc q x k).All p:=by
 unfold nc
 split
 ·exact h _
 ·exact h
theorem fw {c:CA} {k:TV→Out} (h:∀ y,(k y).All p):(ix look c k).All p:=by
 unfold ix
 split
 ·exact h _
 ·split
  ·exact iu h
  ·exact trivial
 ·split
  ·exact iu fun y z=>h z
  ·exact trivial
 ·exact trivial
theorem oD {v:AV} {k:TV→Out} (h:∀ y,(k y).All p):(tq look v k).All p:=by
 unfold tq
 split
 ·exact fw h
 ·exact h _
 ·exact h _
 ·exact trivial
theorem t8 {c:CA} {k:TV→Out} (h:∀ y,(k y).All p):(sd look c k).All p:=by
 unfold sd
 split
 ·exact h _
 ·exact fw fun y=>h _
 ·exact fw fun y=>h _
 ·exact trivial
theorem uG {k:List TV→Out}:∀ {cs:List CA} {k:List TV→Out},(∀ y,(k y).All p)→(zQ look cs k).All p
 | [],k,h=>h _
 | c :: cs,k,h=>t8 fun y=>uG (k:=fun _=>.fail) fun ys=>h _
theorem AP {v:AV} {k:TV→Out} (h:∀ y,(k y).All p):(sQ look v k).All p:=by
 unfold sQ
 split
 ·exact t8 h
 ·exact h _
 ·exact uG (k:=fun _=>.fail) fun ys=>h _
 ·exact trivial
 ·exact trivial
 ·exact h _
theorem fP:∀ {vs:List AV} {k:List TV→Out},(∀ y,(k y).All p)→(lends look vs k).All p
 | [],k,h=>h _
 | v :: vs,k,h=>AP fun y=>fP fun ys=>h _
theorem t7 {c:CA} {k:TV→List (Nat × Nat)→Out} (h:∀ y r,(k y r).All p):(sE look c k).All p:=by
 unfold sE
 split
 ·exact h _ _
 ·split
  ·split
   ·exact h _ _
   ·exact fun y=>h _ _
  ·exact trivial
 ·split
  ·split
   ·exact fun y=>h _ _
   ·exact fun z y=>h _ _
  ·exact trivial
 ·exact trivial
theorem uD:∀ {cs:List CA} {k:List TV→List (Nat × Nat)→Out},(∀ y r,(k y r).All p)→(zf look cs k).All p
 | [],k,h=>h _ _
 | c :: cs,k,h=>t7 fun y r=>uD fun ys rs=>h _ _
theorem AA {v:AV} {k:TV→List (Nat × Nat)→Out} (h:∀ y r,(k y r).All p):(sh look v k).All p:=by
 unfold sh
 split
 ·exact t7 h
 ·exact h _ _
 ·exact uD fun ys rs=>h _ _
 ·exact trivial
 ·exact trivial
 ·exact h _ _
theorem pM:∀ {vs:List AV} {k:List TV→List (Nat × Nat)→Out},(∀ y r,(k y r).All p)→(hands look vs k).All p
 | [],k,h=>h _ _
 | v :: vs,k,h=>AA fun y r=>pM fun ys rs=>h _ _
theorem dY:∀ {cs:List CA} {k:List TV→List Prim→List (Nat × Nat)→Out},(∀ y q r,(k y q r).All p)→(ct look cs k).All p
 | [],k,h=>h _ _ _
 | .t x :: l,k,h=>by
  simp only [ct]
  exact dY (cs:=l) fun xs ps ts=>h _ _ _
 | .sref i r q :: l, k, h => by
  simp only [ct]
  split
  ·split
   ·exact dY (cs:=l) fun xs ps ts=>h _ _ _
   ·exact fun y=>dY (cs:=l) fun xs ps ts=>h _ _ _
  ·exact trivial
 | .swin i r q lo len :: l, k, h => by
  simp only [ct]
  split
  ·split
   ·exact fun y=>dY (cs:=l) fun xs ps ts=>h _ _ _
   ·exact fun z y=>dY (cs:=l) fun xs ps ts=>h _ _ _
  ·exact trivial
 | .ptr _ _ :: l,k,h=>trivial
 | .ref _ _ :: l,k,h=>trivial
 | .tptr _ _ _ _ _ :: l,k,h=>trivial
 | .may _ _ :: l,k,h=>trivial
 | .aptr _ _ _ _ :: l,k,h=>trivial
 | .ifp _ _ :: l,k,h=>trivial
 | .fn1 _ _ :: l,k,h=>trivial
 | .yl _ :: l,k,h=>trivial
 | .undef :: l,k,h=>trivial
 | .junk :: l,k,h=>trivial
theorem d0:∀ {cs:List CA} {k:List TV→List Prim→List (Nat × Nat)→Out},(∀ y q r,(k y q r).All p)→(bX look cs k).All p
 | [],k,h=>h _ _ _
 | .t x :: l,k,h=>by
  simp only [bX]
  exact d0 (cs:=l) fun xs ps ts=>h _ _ _
 | .sref i r q :: l, k, h => by
  simp only [bX]
  split
  ·split
   ·exact d0 (cs:=l) fun xs ps ts=>h _ _ _
   ·exact fun y=>⟨d0 (cs:=l) fun xs ps ts=>h _ _ _,fun x'=>d0 (cs:=l) fun xs ps ts=>h _ _ _⟩
  ·exact trivial
 | .swin i r q lo len :: l, k, h => by
  simp only [bX]
  split
  ·split
   ·exact fun y=>d0 (cs:=l) fun xs ps ts=>h _ _ _
   ·exact fun z y=>d0 (cs:=l) fun xs ps ts=>h _ _ _
  ·exact trivial
 | .ptr _ _ :: l,k,h=>trivial
 | .ref _ _ :: l,k,h=>trivial
 | .tptr _ _ _ _ _ :: l,k,h=>trivial
 | .may _ _ :: l,k,h=>trivial
 | .aptr _ _ _ _ :: l,k,h=>trivial
 | .ifp _ _ :: l,k,h=>trivial
 | .fn1 _ _ :: l,k,h=>trivial
 | .yl _ :: l,k,h=>trivial
 | .undef :: l,k,h=>trivial
 | .junk :: l,k,h=>trivial
theorem d7 {agg:Bool} {n:Nat} {x:AV} {k:List CA→Out} (h:∀ cs,(k cs).All p):(x.aU agg n k).All p:=by
 unfold AV.aU
 split
 ·rename_i c; cases c.kept <;> first | exact trivial | exact h _
 ·exact h _
 ·exact h _
 ·exact h _
 ·rename_i cs; cases cs.length.beq n <;> first | exact trivial | exact h _
 ·exact h _
 ·exact trivial
theorem oz {at_:Nat→Option (Nat × Bool × Nat)} {k:List CA→Out} (h:∀ cs,(k cs).All p):∀ (is:List Nat) (vs:List AV) (cs:List CA),(bP at_ is vs cs k).All p
 | [],[],cs=>h cs
 | i :: is, x :: vs, cs => by
  simp only [bP]
  split
  ·refine d7 (fun ps=>?_)
   exact aE (oz h is vs _) trivial
  ·exact trivial
 | [],_ :: _,cs=>trivial
 | _ :: _,[],cs=>trivial
theorem eS {v:Option AV} {k:Option Nat→Out} (h:∀ n,(k n).All p):(fx v k).All p:=by
 unfold fx
 split
 ·exact h _
 ·split
  ·exact fun v=>h _
  ·exact trivial
abbrev da (e:Eff):Prop:=∃ v,e=.val v
abbrev cX (e:Eff):Prop:=∃ b v,e=.new b v
theorem wJ {d:TyD} {x:List TV} {off:Nat}:(ka d x off).All da:=by
 unfold ka
 cases d.kd.isAgg
 ·exact ⟨_,rfl⟩
 ·exact ⟨_,rfl⟩
theorem uI:∀ {vs:List AV} {k:List CA→Out},(∀ cs,(k cs).All p)→(jR vs k).All p
 | [],k,h=>h _
 | v :: vs,k,h=>d7 fun cs=>uI fun cs'=>h _
theorem D9 {op:Op} (h:ao op=.N) (vs:List AV):(opL E id look op vs).All da:=by
 cases op with
 | move x=>rcases vs with _ | ⟨v,_ | ⟨v',r⟩⟩ <;> first | exact trivial | exact ⟨_,rfl⟩
 | assign x=>rcases vs with _ | ⟨v,_ | ⟨v',r⟩⟩ <;> first | exact trivial | exact ⟨_,rfl⟩
 | pick c x y =>
  rcases vs with _ | ⟨v,_ | ⟨v',_ | ⟨v'',_ | ⟨v3,r⟩⟩⟩⟩ <;> first | exact trivial | skip
  simp only [opL]
  split <;> first | exact trivial | exact ⟨_,rfl⟩ | exact ⟨⟨_,rfl⟩,⟨_,rfl⟩⟩
 | build t parts =>
  simp only [opL]
  split
  ·refine aE ?_ trivial
   refine oz ?_ _ _ _
   exact fun cs=>⟨_,rfl⟩
  ·exact trivial
 | nilCheck x =>
  rcases vs with _ | ⟨v,_ | ⟨v',r⟩⟩ <;> first | exact trivial | skip
  simp only [opL]
  split <;> first | exact trivial | exact ⟨_,rfl⟩
 | unOp op xt x =>
  rcases vs with _ | ⟨v,_ | ⟨v',r⟩⟩ <;> first | exact trivial | skip
  simp only [opL]
  split
  ·exact ⟨_,rfl⟩
  ·split
   ·exact fun v=>⟨_,rfl⟩
   ·exact trivial
 | fieldAddr t x f =>
  rcases vs with _ | ⟨v,_ | ⟨v',r⟩⟩ <;> first | exact trivial | skip
  simp only [opL]
  split
  ·split
   ·refine aE ?_ trivial
    split <;> first | exact trivial | exact ⟨_,rfl⟩
   ·exact trivial
  ·exact trivial
 | field t x f =>
  rcases vs with _ | ⟨v,_ | ⟨v',r⟩⟩ <;> first | exact trivial | skip
  simp only [opL]
  split
  ·split
   ·unfold uX
    split
    ·split
     ·split <;> first | exact trivial | exact ⟨_,rfl⟩
     ·exact trivial
    ·exact ⟨_,rfl⟩
    ·exact trivial
   ·exact trivial
  ·exact trivial
 | index t x y =>
  rcases vs with _ | ⟨v,_ | ⟨v',_ | ⟨v'',r⟩⟩⟩ <;> first | exact trivial | skip
  simp only [opL]
  split
  ·exact fun v=>⟨_,rfl⟩
  ·unfold qR
   split
   ·split
    ·refine aE ?_ trivial
     split
     ·exact fun k v=>⟨_,rfl⟩
     ·exact trivial
    ·exact trivial
   ·exact trivial
 | extract x j =>
  rcases vs with _ | ⟨v,_ | ⟨v',r⟩⟩ <;> first | exact trivial | skip
  simp only [opL]
  split
  ·split
   ·split <;> first | exact trivial | exact ⟨_,rfl⟩
   ·exact trivial
  ·exact trivial
 | makeFunc fn first cap =>
  cases fn with
  | func f =>
   simp only [opL]
   exact aE (uI fun cs=>⟨_,rfl⟩) trivial
  | _=>exact trivial
 | call c =>
  obtain ⟨callee,args,tys⟩:=c
  cases callee with
  | builtin b=>cases b <;> simp [ao] at h
  | value f=>cases f <;> simp [ao] at h
  | invoke r m=>simp [ao] at h
 | makeInterface t x =>
  rcases vs with _ | ⟨v,_ | ⟨v',r⟩⟩ <;> first | exact trivial | skip
  simp only [opL]
  split
  ·unfold A4
   refine aE ?_ trivial
   split
   ·exact ⟨_,rfl⟩
   ·split
    ·exact fun v=>⟨_,rfl⟩
    ·exact trivial
  ·exact trivial
 | typeAssert x xt t ok =>
  rcases vs with _ | ⟨v,_ | ⟨v',r⟩⟩ <;> cases ok <;> first | exact trivial | skip
  simp only [opL]
  split
  ·unfold uE
   refine aE ?_ trivial
   split
   ·exact fun v=>⟨_,rfl⟩
   ·exact trivial
  ·exact trivial
 | _=>simp [ao] at h
theorem A9 {op:Op} (h:ao op=.R) (vs:List AV):(opL E id look op vs).All da:=by
 cases op with
 | load t x =>
  rcases vs with _ | ⟨v,_ | ⟨v',r⟩⟩ <;> first | exact trivial | skip
  simp only [opL]
  split
  ·unfold zn
   split
   ·refine aE trivial ?_
    split
    ·exact fun v=>⟨_,rfl⟩
    ·exact trivial
   ·split
    ·split
     ·split
      ·exact ⟨_,rfl⟩
      ·exact trivial
     ·exact trivial
    ·exact trivial
   ·exact wJ
   ·split
    ·refine iu (fun s e=>?_)
     simp only [Prg.All]
     split
     ·exact ⟨_,rfl⟩
     ·exact trivial
    ·exact trivial
   ·exact trivial
  ·exact trivial
 | convert xt dt x =>
  rcases vs with _ | ⟨v,_ | ⟨v',r⟩⟩ <;> first | exact trivial | skip
  simp only [opL]
  split
  ·unfold yT
   split
   ·split
    ·exact aE (oD fun y=>fun rows=>fun v=>⟨_,rfl⟩) trivial
    ·exact trivial
   ·split
    ·exact fun v=>⟨_,rfl⟩
    ·exact trivial
  ·exact trivial
 | binOp op xt x y yt =>
  rcases vs with _ | ⟨v,_ | ⟨v',_ | ⟨v'',r⟩⟩⟩ <;> first | exact trivial | skip
  simp only [opL]
  split
  ·unfold Dg
   split
   ·split
    ·refine d7 fun cs=>d7 fun cs'=>?_
     split
     ·exact fun v=>⟨_,rfl⟩
     ·exact trivial
    ·exact trivial
   ·unfold Do
    split
    ·exact ⟨_,rfl⟩
    ·exact ⟨_,rfl⟩
    ·exact trivial
   unfold DG
   refine aE (oD fun x=>oD fun y=>fun v=>⟨_,rfl⟩) ?_
   split
   ·exact fun v=>⟨_,rfl⟩
   ·exact trivial
  ·exact trivial
 | slice t x lo hi mx =>
  have sl:∀ {kd:Kd} {sz:Nat} {x:AV} {lo hi:Option AV},(iy look kd sz x lo hi).All da:=by
   intro kd sz x lo hi
   unfold iy
   split
   ·exact eS fun lo=>eS fun hi=>fun v=>⟨_,rfl⟩
   ·split
    ·exact fw fun s n=>eS fun lo=>eS fun hi=>⟨_,rfl⟩
    ·split
     ·exact fw fun s=>eS fun hi=>⟨_,rfl⟩
     ·exact fw fun s=>eS fun lo=>eS fun hi=>⟨_,rfl⟩
    ·exact trivial
  cases mx with
  | some m=>rcases vs with _ | ⟨v,r⟩ <;> exact trivial
  | none =>
   rcases vs with _ | ⟨v,r⟩
   ·exact trivial
   ·simp only [opL]
    split
    ·split
     ·split <;> first | exact trivial | exact sl
     ·exact trivial
    ·exact trivial
 | indexAddr t x y =>
  rcases vs with _ | ⟨v,_ | ⟨v',_ | ⟨v'',r⟩⟩⟩ <;> first | exact trivial | skip
  simp only [opL]
  split
  ·unfold pC
   split
   ·split
    ·exact fun v=>⟨_,rfl⟩
    ·split
     ·exact fw fun s n k=>⟨_,rfl⟩
     ·exact fw fun s k=>⟨_,rfl⟩
     ·exact trivial
   ·exact trivial
  ·unfold qP
   split
   ·split
    ·exact aE (fun k=>⟨_,rfl⟩) trivial
    ·exact trivial
   ·exact trivial
 | call c =>
  obtain ⟨callee,args,tys⟩:=c
  cases callee with
  | builtin b =>
   have mn:∀ {mx:Bool} {x y:AV},(vW mx x y).All da:=by
    intro mx x y
    unfold vW
    split
    ·exact fun v=>⟨_,rfl⟩
    ·exact trivial
   cases b <;> simp [ao] at h
   all_goals simp only [opL]
   all_goals unfold dT
   all_goals split <;> first | exact trivial | exact mn | contradiction | skip
   split
   ·unfold yB
    split
    ·exact ⟨_,rfl⟩
    ·exact oD fun s v=>⟨_,rfl⟩
   ·exact trivial
  | value f=>cases f <;> simp [ao] at h
  | invoke r m=>simp [ao] at h
 | _=>simp [ao] at h
theorem cls_A {op:Op} (h:ao op=.A) (vs:List AV):(opL E id look op vs).All cX:=by
 cases op with
 | alloc t =>
  rcases vs with _ | ⟨v,r⟩ <;> first | exact trivial | skip
  simp only [opL]
  split
  ·exact ⟨_,_,rfl⟩
  ·exact trivial
 | box t x =>
  rcases vs with _ | ⟨v,_ | ⟨v',r⟩⟩ <;> first | exact trivial | skip
  simp only [opL]
  split
  ·exact d7 (fun cs=>⟨_,_,rfl⟩)
  ·exact trivial
 | makeSlice t x y =>
  rcases vs with _ | ⟨v,_ | ⟨v',_ | ⟨v'',r⟩⟩⟩ <;> first | exact trivial | skip
  simp only [opL]
  split
  ·refine aE ?_ trivial
   exact fun n m=>⟨_,_,rfl⟩
  ·exact trivial
 | call c =>
  obtain ⟨callee,args,tys⟩:=c
  cases callee with
  | builtin b=>cases b <;> simp [ao] at h
  | value f=>cases f <;> simp [ao] at h
  | invoke r m=>simp [ao] at h
 | _=>simp [ao] at h
theorem iW {ps:List Prim} {b:BC} {v:AV}:(cF ps b v).plain=true→da (cF ps b v)∨cX (cF ps b v):=by
 cases ps with
 | nil=>exact fun _=>.inr ⟨_,_,rfl⟩
 | cons q l=>exact fun h=>by cases h
theorem ua {ps:List Prim} {v:AV}:(match ps with | []=>Eff.val v | _=>.gen ps v).plain=true→da (match ps with | []=>Eff.val v | _=>.gen ps v)∨cX (match ps with | []=>Eff.val v | _=>.gen ps v):=by
 cases ps with
 | nil=>exact fun _=>.inl ⟨_,rfl⟩
 | cons q l=>exact fun h=>by cases h
theorem kf {d:TyD} {x:TV} {k:Out} (h:k.All p):(je d x k).All p:=by
 unfold je
 exact aE h h
theorem qj {x:TV} {k:Out} (h:k.All p):∀ (ds:List TyD) (j:Nat),(fZ x ds j k).All p
 | [],j=>h
 | d :: ds,j=>kf (qj h ds (j + 1))
theorem s9 {ds:List TyD} {v:TV} {ps:List Prim}:(tr id ds v ps).All fun e=>e.plain=true→da e∨cX e:=by
 have many:∀ ds:List TyD,(Prg.chk (v.isTup ds.length) (fZ v ds 0 (bif gw ds then .ret (cF ps (.tree (bh v ds 0)) (.tups (dC id v ds 0 0)))
   else .ret (match ps with | []=>.val (.tups (dC id v ds 0 0)) | _=>.gen ps (.tups (dC id v ds 0 0)))))).All fun e=>e.plain=true→da e∨cX e:=by
  intro ds
  refine qj ?_ ds 0
  exact aE iW ua
 match ds with
 | []=>exact many []
 | [d] =>
  simp only [tr]
  refine kf ?_
  split
  ·exact aE iW ua
  ·exact trivial
 | d :: d' :: l=>exact many _
theorem B8 {ds:List TyD} {v:TV} {k:AV→Out} {p:Eff→Prop} (h:∀ av,(k av).All p):(Ba id ds v k).All p:=by
 have some:∀ (ds:List TyD) (j:Nat) (k:Out),k.All p→(fZ v ds j k).All p:=by
  intro ds
  induction ds with
  | nil=>intro j k h; exact h
  | cons d ds ih=>intro j k h; exact kf (ih (j + 1) k h)
 unfold Ba
 split
 ·refine kf ?_
  split
  ·exact h _
  ·exact trivial
 ·exact some _ 0 _ (h _)
theorem AI {f:FuncId} {ld:eX} {vs:List AV}:(ny E id look f ld vs).All fun e=>e.plain=true→da e∨cX e:=by
 unfold ny
 split
 ·split
  ·refine aE trivial ?_
   exact pM fun xs rs=>dY fun ys qs ts=>aE (fun v=>B8 fun av=>fun h=>by simp [Eff.plain] at h) trivial
  ·exact trivial
 ·exact trivial
theorem AK {f:FuncId} {c:Nat × Nat} {vs:List AV}:(nH look f c vs).All fun e=>e.plain=true→da e∨cX e:=by
 unfold nH
 split
 ·split
  ·split
   ·exact aE (fP fun xs=>fun v=>fun _=>.inl ⟨_,rfl⟩) trivial
   ·exact trivial
  ·exact trivial
 ·exact trivial
theorem tQ {p:Eff→Prop} {q:Way} {x y:TV} {k:TV→Out} (h:∀ y,(k y).All p):(ww q x y k).All p:=by
 unfold ww
 split
 ·exact h _
 ·exact fun v=>h _
theorem zW {f:FuncId} {vs:List AV}:(lE look f vs).All fun e=>e.plain=true→da e∨cX e:=by
 unfold lE
 split
 ·split
  ·exact iu fun z=>fP fun xs=>fun v=>fun y=>tQ fun x'=>fun h=>by cases h
  ·exact trivial
 ·split
  ·exact iu fun z=>fun z1=>fP fun xs=>fun v=>fun y=>tQ fun x'=>fun h=>by cases h
  ·exact trivial
 ·exact trivial
theorem Bq {f:FuncId} {i:Nat} {vs:List AV}:(wC E id look f i vs).All fun e=>e.plain=true→da e∨cX e:=by
 unfold wC
 refine aE ?_ trivial
 split
 ·split
  ·exact fP fun xs=>fun v=>s9
  ·exact trivial
 ·exact trivial
theorem cls_B {op:Op} (h:ao op=.B) (vs:List AV):(opL E id look op vs).All fun e=>e.plain=true→da e∨cX e:=by
 cases op with
 | buildSlice t len parts =>
  simp only [opL]
  refine aE ?_ ?_
  ·unfold qY
   split
   ·refine oz (fun cs=>?_) _ _ _
    split
    ·exact aE (fun _=>.inr ⟨_,_,rfl⟩) trivial
    ·exact trivial
   ·exact trivial
  unfold iw
  split
  ·refine oz (fun cs=>?_) _ _ _
   refine d0 fun ys qs ts=>?_
   exact aE iW trivial
  ·exact trivial
 | call c =>
  obtain ⟨callee,args,tys⟩:=c
  cases callee with
  | builtin b=>cases b <;> simp [ao] at h
  | value f =>
   cases f with
   | func f =>
    rcases vs with _ | ⟨v,r⟩
    ·exact trivial
    ·simp only [opL,mE]
     refine aE zW (aE trivial ?_)
     split
     ·exact AK
     split
     ·exact AI
     ·split
      ·refine aE ?_ ?_
       ·exact fP fun xs=>fun v=>s9
       ·exact pM fun xs rs=>aE (fun v=>s9) trivial
      ·exact trivial
   | tmp t =>
    rcases vs with _ | ⟨v,r⟩
    ·exact trivial
    ·simp only [opL]
     split
     ·exact fun f=>fP fun xs v=>fun _=>.inl ⟨_,rfl⟩
     ·split
      ·exact Bq
      ·exact trivial
   | _=>simp [ao] at h
  | invoke r m=>simp [ao] at h
 | _=>simp [ao] at h
abbrev isUpd (look:Look) (e:Eff):Prop:=∃ i b v,e=.upd i b v∧(look i).isSome=true
theorem Co {op : Op} (h : ao op = .W) (vs : List AV) : (opL E id look op vs).All fun e => e.plain = true → isUpd look e := by
 cases op with
 | store t x y =>
  rcases vs with _ | ⟨v,_ | ⟨v',_ | ⟨v'',r⟩⟩⟩ <;> first | exact trivial | skip
  simp only [opL]
  split
  ·unfold vc
   split
   ·refine aE trivial ?_
    split
    ·rename_i cs xs hrow
     refine d7 (fun ps=>?_)
     split
     ·exact fun _=>⟨_,_,_,rfl,by simp [(i5 hrow).1]⟩
     ·exact trivial
    ·exact trivial
   ·refine d7 (fun ps=>?_)
    split
    ·rename_i cs hl
     exact aE (fun _=>⟨_,_,_,rfl,by simp [hl]⟩) trivial
    ·exact trivial
   ·refine d7 (fun ps=>?_)
    split
    ·refine aE trivial (aE ?_ ?_)
     ·refine dY fun ys qs ts=>aE ?_ trivial
      exact iu fun s e=>fun x' hp=>by cases hp
     ·refine dY fun ys qs ts=>?_
      split
      ·refine aE ?_ trivial
       refine iu fun s e=>?_
       simp only [Prg.All]
       intro x'
       split
       ·rename_i b hb
        refine fun _=>⟨_,_,_,rfl,?_⟩
        unfold bZ at hb
        split at hb
        ·rename_i hl; simp [hl]
        ·cases hb
       ·exact trivial
      ·exact trivial
    ·exact trivial
   ·exact trivial
  ·exact trivial
 | call c =>
  obtain ⟨callee,args,tys⟩:=c
  cases callee with
  | builtin b=>cases b <;> simp [ao] at h
  | value f=>cases f <;> simp [ao] at h
  | invoke r m=>simp [ao] at h
 | _=>simp [ao] at h
theorem pZ {d:TyD} {s:AV} {news:List (List TV)} {ps:List Prim}:(mc id look d s news ps).All fun e=>e.plain=true→da e∨cX e:=by
 unfold mc
 split
 ·exact aE (fun y=>iW) trivial
 ·split
  ·split
   ·split
    ·exact fun y h=>by cases h
    ·exact fun z y x' h=>by cases h
   ·exact trivial
  ·split
   ·split
    ·exact fun z y h=>by cases h
    ·exact fun z0 z y x' h=>by cases h
   ·exact trivial
  ·exact trivial
theorem Cj {d:TyD} {dest:Option Nat} {x:AV} {k:List (List TV)→List Prim→Out} (h:∀ xs ps,(k xs ps).All p):(xj look d dest x k).All p:=by
 unfold xj
 split
 ·exact fun xs=>h _ _
 ·split
  ·refine aE ?_ ?_
   ·split
    ·split
     ·split
      ·exact aE trivial (fun xs=>h _ _)
      ·exact fun y=>fun xs=>h _ _
     ·exact trivial
    ·split
     ·split
      ·exact aE trivial (fun y xs=>h _ _)
      ·exact fun z y=>fun xs=>h _ _
     ·exact trivial
    ·exact trivial
   ·exact fw (fun s xs=>h _ _)
  ·exact trivial
theorem cls_P {op:Op} (h:ao op=.P) (vs:List AV):(opL E id look op vs).All fun e=>e.plain=true→da e∨cX e:=by
 cases op with
 | call c =>
  obtain ⟨callee,args,tys⟩:=c
  cases callee with
  | builtin b =>
   cases b <;> simp [ao] at h
   simp only [opL]
   unfold dT
   split <;> try (first | exact trivial | contradiction)
   split
   ·refine aE ?_ ?_
    ·unfold nP
     exact aE (Cj (fun xs ps=>pZ)) trivial
    ·split
     ·unfold lx
      refine aE ?_ trivial
      split
      ·exact fun news=>pZ
      ·exact trivial
     ·exact trivial
   ·exact trivial
  | value f=>cases f <;> simp [ao] at h
  | invoke r m=>simp [ao] at h
 | _=>simp [ao] at h
theorem uT {op:Op} (h:ao op=.N∨ao op=.A) (vs:List AV):opL E id look op vs=opL E id look' op vs:=by
 cases op <;> first
  | (rcases vs with _ | ⟨a,_ | ⟨b,_ | ⟨c,_ | ⟨d,r⟩⟩⟩⟩ <;> rfl)
  | (simp [ao] at h; done)
  | (rename_i fn _ _; cases fn <;> rfl)
  | (rename_i ok; cases ok <;> rcases vs with _ | ⟨a,_ | ⟨b,r⟩⟩ <;> rfl)
  | skip
 all_goals
  rename_i c
  obtain ⟨callee,args,tys⟩:=c
  cases callee with
  | builtin b=>cases b <;> simp [ao] at h
  | value f=>cases f <;> simp [ao] at h
  | invoke r m=>simp [ao] at h
end
end Go.Ab
end

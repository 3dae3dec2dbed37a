import Derived.Test.YtfnpejmlcbkepaaSM12b
set_option linter.all false
section
namespace Go.Ab
open Go.RowKit
structure gP (P:Program) (G:Laid) (E:Env) (C:Cal):Prop where
 ty:∀ t d,E.T t=some d->aQ P t d
 call:wm P G E C
section
variable {P:Program} {E:Env} {C:Cal} {w0:Bs} {w w':World} {I0 I R:Nat->Prop} {g g':Gh} {st st':ASt} {a:Act} {ov:List Value} {look:Look} {Q:Exit->Act->World->Prop} {id:Nat}
theorem BM (hE:gP P w0.G E C) (hlk:∀ i b,look i=some b->st.look i=some b) (hs:aj w0 I0 NoR g st a ov w) {o:Oper} {e:Eff} (hh:(opL E (st.nid o.dst) look o.op (o.op.operands.toList.map st.ev)).hits C e) (ha:e.app st o.dst=some st') :
  Good P w0 I0 ov o st' a w Q:=by
 obtain ⟨dst,op,type,pos,after,guard⟩:=o
 cases op with
 | move x=>exact Dy hs hh ha
 | assign x=>exact AR hs hh ha
 | pick c x y=>exact DC hs hh ha
 | alloc t=>exact Cq hE.ty hs hh ha
 | box t x=>exact op_box hE.ty hs hh ha
 | build t parts=>exact Ca hE.ty hs hh ha
 | makeFunc fn first cap=>exact wq hs hh ha
 | buildSlice t len parts =>
  simp only [opL] at hh
  cases hc:E.cold t && !(len.beq 0) with
  | true=>rw [hc] at hh; exact DN hE.ty hlk hs hh ha
  | false=>rw [hc] at hh; exact tK hE.ty hlk hs hh ha
 | load t x=>exact D3 hE.ty hlk hs hh ha
 | store t x y=>exact C1 hE.ty hlk hs hh ha
 | nilCheck x=>exact wS hs hh ha
 | binOp op xt x y yt=>exact op_bin hE.ty hlk hs hh ha
 | unOp op xt x=>exact op_un hs hh ha
 | convert xt dt x=>exact yw hE.ty hlk hs hh ha
 | makeSlice t x y=>exact vr hE.ty hs hh ha
 | makeInterface t x=>exact op_ifc hE.ty hs hh ha
 | typeAssert x xt t ok=>exact Ea hE.ty hs hh ha
 | slice t x lo hi mx=>exact BU hE.ty hlk hs hh ha
 | fieldAddr t x f=>exact vV hE.ty hs hh ha
 | field t x f=>exact CV hE.ty hs hh ha
 | indexAddr t x y=>exact vE hE.ty hlk hs hh ha
 | index t x y=>exact Bw hE.ty hs hh ha
 | extract x j=>exact x8 hs hh ha
 | call c =>
  obtain ⟨callee,args,tys⟩:=c
  cases callee with
  | builtin b =>
   have hops:(Op.call ⟨.builtin b,args,tys⟩).operands.toList=args.toList:=by simp [Op.operands,Call.operands]
   simp only [hops] at hh
   simp only [opL] at hh
   unfold ec at hh
   split at hh
   ·rename_i x ty hargs htys
    obtain ⟨ox,rfl,hox⟩:=list1 hargs
    have:=arr1 htys
    subst this
    split at hh
    ·rename_i d hT
     rw [<- hox] at hh
     exact yD hlk hs (hE.ty _ _ hT) hh ha
    ·exact hh.elim
   ·rename_i s x ty ty' hargs htys
    obtain ⟨os,ox,rfl,hos,hox⟩:=list2 hargs
    have:=arr2 htys
    subst this
    split at hh
    ·rename_i e1 d hel
     cases hb:Nat.beq ty ty' with
     | false =>
      simp only [hb,cond_false] at hh
      split at hh
      ·rename_i hu
       exact hh.elim
      ·exact hh.elim
     | true =>
      simp only [hb,cond_true] at hh
      have:=(az _ _).1 hb
      subst this
      rw [<- hos,<- hox] at hh
      exact tH hE.ty hlk hs hel hh ha
    ·exact hh.elim
   ·rename_i s x ty ty' hargs htys
    obtain ⟨os,ox,rfl,hos,hox⟩:=list2 hargs
    have:=arr2 htys
    subst this
    split at hh
    ·rename_i e1 d hel
     cases hb:Nat.beq ty ty' with
     | false=>simp [hb,Prg.hits] at hh
     | true =>
      simp only [hb,cond_true] at hh
      have:=(az _ _).1 hb
      subst this
      rw [<- hos,<- hox] at hh
      exact wF hE.ty hlk hs hel hh ha
    ·exact hh.elim
   ·rename_i s ty hargs htys
    obtain ⟨os,rfl,hos⟩:=list1 hargs
    have:=arr1 htys
    subst this
    split at hh
    ·rename_i e1 d hel
     rw [<- hos] at hh
     exact vi hE.ty hlk hs hel hh ha
    ·exact hh.elim
   ·rename_i x y hargs
    obtain ⟨ox,oy,rfl,hox,hoy⟩:=list2 hargs
    rw [<- hox,<- hoy] at hh
    exact sU hs hh ha
   ·rename_i x y hargs
    obtain ⟨ox,oy,rfl,hox,hoy⟩:=list2 hargs
    rw [<- hox,<- hoy] at hh
    exact sU hs hh ha
   ·exact hh.elim
  | value f =>
   cases f with
   | func f =>
    have hops:(Op.call ⟨.value (.func f),args,tys⟩).operands.toList=.func f :: args.toList:=by simp [Op.operands,Call.operands]
    simp only [hops,List.map_cons] at hh
    exact DP hE.call hE.ty hlk hs hh ha
   | tmp t =>
    have hops:(Op.call ⟨.value (.tmp t),args,tys⟩).operands.toList=.tmp t :: args.toList:=by simp [Op.operands,Call.operands]
    simp only [hops,List.map_cons] at hh
    exact op_dyn hE.call hE.ty hlk hs hh ha
   | _=>simp [opL,Prg.hits] at hh
  | invoke r m=>simp [opL,Prg.hits] at hh
 | _=>simp [opL,Prg.hits] at hh
def AV.nf:AV->AV
 | .one (.t (.lit (.bool b)))=>.bl b
 | .tv (.lit (.bool b))=>.bl b
 | v=>v
def Eff.nfE:Eff->Eff
 | .val v=>.val v.nf
 | .new b v=>.new b v.nf
 | .upd i b v=>.upd i b v.nf
 | .gen ps v=>.gen ps v.nf
def ASt.nfS (st:ASt):ASt:=⟨st.slots.map AV.nf,st.boxes,st.out⟩
theorem aF (v:AV):v.nf=v\/∃ b,v.nf=.bl b/\(v=.one (.t (.lit (.bool b)))\/v=.tv (.lit (.bool b))):=by
 unfold AV.nf
 split
 ·exact .inr ⟨_,rfl,.inl rfl⟩
 ·exact .inr ⟨_,rfl,.inr rfl⟩
 ·exact .inl rfl
theorem uO (v:AV):v.nf.nf=v.nf:=by
 rcases aF v with h | ⟨b,h,_⟩
 ·rw [h,h]
 ·rw [h]; rfl
theorem im (v:AV):v.nf.tv? = v.tv? := by
 rcases aF v with h | ⟨b,h,rfl | rfl⟩
 ·rw [h]
 ·rfl
 ·rfl
theorem Cc {v:AV} {u:Value}:bF w g look v.nf u ↔ bF w g look v u:=by
 rcases aF v with h | ⟨b,h,rfl | rfl⟩
 ·rw [h]
 ·rw [h]
  constructor
  ·intro h'
   have:u=.bool b:=h'
   subst this
   exact ⟨.lit _,rfl⟩
  ·intro h'
   exact bD h'.1
 ·rw [h]
  constructor
  ·intro h'
   have:u=.bool b:=h'
   subst this
   exact .lit _
  ·intro h'
   exact bD h'
theorem nO (v:AV):v.nf.ij=v.ij:=by
 rcases aF v with h | ⟨b,h,rfl | rfl⟩
 ·rw [h]
 ·rw [h]; rfl
 ·rw [h]; rfl
theorem cB (e:Eff):eS e.nfE=eS e:=by cases e <;> simp only [Eff.nfE,eS,nO]
theorem oO (e:Eff):e.nfE.plain=e.plain:=by cases e <;> rfl
theorem xr (base:Nat) (own:List (List Nat × List Nat)) (e:Eff):e.nfE.qH base own=e.qH base own:=by cases e <;> rfl
theorem xh {S:Type} {agg:Bool} {n:Nat} {v:AV} {k k':List CA->Prg S} {e:S} (hk:∀ cs,(k cs).hits C e->(k' cs).hits C e) (h:(v.aU agg n k).hits C e):(v.aU agg n k').hits C e:=by
 unfold AV.aU at h ⊢
 split at h
 ·rename_i c
  cases hc:c.kept with
  | true=>rw [hc] at h; exact hk _ h
  | false=>rw [hc] at h; exact h.elim
 ·exact ⟨h.1,hk _ h.2⟩
 ·exact hk _ h
 ·exact hk _ h
 ·rename_i cs
  cases hc:cs.length.beq n with
  | true=>rw [hc] at h; exact hk _ h
  | false=>rw [hc] at h; exact h.elim
 ·exact ⟨h.1,hk _ h.2⟩
 ·exact h.elim
theorem fm {S:Type} {agg:Bool} {n:Nat} {v:AV} {k:List CA->Prg S} {e:S} (h:(v.aU agg n k).hits C e):(v.nf.aU agg n k).hits C e:=by
 rcases aF v with h1 | ⟨b,h1,rfl | rfl⟩
 ·rwa [h1]
 ·rw [h1]
  cases agg with
  | false=>exact h
  | true=>exact h.elim
 ·rw [h1]
  cases agg with
  | false=>exact h.2
  | true=>exact (by simp [AV.aU,TV.isAgg,Prg.hits] at h)
theorem lw {S:Type} {e:S}:∀ {vs:List AV} {k:List CA->Prg S},(kL vs k).hits C e->(kL (vs.map AV.nf) k).hits C e
 | [],k,h=>h
 | x :: vs, k, h => by
  simp only [kL,List.map_cons] at h ⊢
  refine fm ?_
  unfold AV.aU at h ⊢
  split at h
  ·rename_i c _
   cases hc:c.kept with
   | false=>simp [hc,Prg.hits] at h
   | true=>simp only [hc,cond_true] at h ⊢; exact lw h
  ·exact ⟨h.1,lw h.2⟩
  ·exact lw h
  ·exact lw h
  ·rename_i cs' hb; cases hb
  ·rename_i cs' hb; cases hb
  ·exact h.elim
theorem jL {f:FuncId} {e:Eff}:∀ {vs:List AV} {k:List CA->List CA},(kL vs fun cs=>(.ret (.val (.clo f (k cs))):Out)).hits C e->∃ cs,e=.val (.clo f cs)
 | [],k,h=>⟨_,h.symm⟩
 | x :: vs, k, h => by
  simp only [kL] at h
  unfold AV.aU at h
  split at h
  ·rename_i c _
   cases hc:c.kept with
   | false=>simp [hc,Prg.hits] at h
   | true=>simp only [hc,cond_true] at h; exact jL (k:=fun cs=>k (_ ++ cs)) h
  ·exact jL (k:=fun cs=>k (_ ++ cs)) h.2
  ·exact jL (k:=fun cs=>k (_ ++ cs)) h
  ·exact jL (k:=fun cs=>k (_ ++ cs)) h
  ·rename_i hb; cases hb
  ·rename_i hb; cases hb
  ·exact h.elim
theorem vv {S:Type} {at_:Nat->Option (Nat × Bool × Nat)} {k:List CA->Prg S} {e:S}:∀ {is:List Nat} {vs:List AV} {cs:List CA},(cb at_ is vs cs k).hits C e->(cb at_ is (vs.map AV.nf) cs k).hits C e
 | [],[],cs,h=>h
 | i :: is, x :: vs, cs, h => by
  simp only [cb,List.map_cons] at h ⊢
  split at h
  ·rename_i off agg n hat
   have key:∀ ps,((bif (off + ps.length).ble cs.length && ps.length.beq n then cb at_ is vs (bh cs off ps) k else .fail):Prg S).hits C e->((bif (off + ps.length).ble cs.length && ps.length.beq n then cb at_ is (vs.map AV.nf) (bh cs off ps) k else .fail):Prg S).hits C e:=by
    intro ps hp
    cases hb:(off + ps.length).ble cs.length && ps.length.beq n with
    | false=>simp [hb,Prg.hits] at hp
    | true=>simp only [hb,cond_true] at hp ⊢; exact vv hp
   refine fm ?_
   unfold AV.aU at h ⊢
   split at h
   ·rename_i c
    cases hc:c.kept with
    | false=>simp [hc,Prg.hits] at h
    | true=>simp only [hc,cond_true] at h ⊢; exact key _ h
   ·exact ⟨h.1,key _ h.2⟩
   ·exact key _ h
   ·exact key _ h
   ·rename_i cs'
    have:=key cs'
    cases hc:cs'.length.beq n with
    | false=>simp [hc,Prg.hits] at h
    | true=>simp only [hc,cond_true] at h this ⊢; exact this h
   ·exact ⟨h.1,key _ h.2⟩
   ·exact h.elim
  ·exact h.elim
 | [],_ :: _,cs,h=>h.elim
 | _ :: _,[],cs,h=>h.elim
theorem vC {S:Type} {v:AV} {k:TV->Prg S}:vJ look v.nf k=vJ look v k:=by
 rcases aF v with h | ⟨b,h,rfl | rfl⟩
 ·rw [h]
 ·rfl
 ·rfl
theorem BQ {S:Type} {v:AV} {k:TV->Prg S}:sh look v.nf k=sh look v k:=by
 rcases aF v with h | ⟨b,h,rfl | rfl⟩
 ·rw [h]
 ·rfl
 ·rfl
theorem CB {S:Type} {v:AV} {k:TV->List (Nat × Nat)->Prg S}:sE look v.nf k=sE look v k:=by
 rcases aF v with h | ⟨b,h,rfl | rfl⟩
 ·rw [h]
 ·rfl
 ·rfl
theorem lI {S:Type}:∀ {vs:List AV} {k:List TV->Prg S},lends look (vs.map AV.nf) k=lends look vs k
 | [],k=>rfl
 | v :: vs,k=>by simp only [List.map_cons,lends,BQ,lI]
theorem rj {S:Type}:∀ {vs:List AV} {k:List TV->List (Nat × Nat)->Prg S},hands look (vs.map AV.nf) k=hands look vs k
 | [],k=>rfl
 | v :: vs,k=>by simp only [List.map_cons,hands,CB,rj]
theorem C2 {E:Env} {id:Nat} {look:Look} {f:FuncId} {ld:fw} (vs:List AV):nw E id look f ld (vs.map AV.nf)=nw E id look f ld vs:=by
 cases vs with
 | nil=>rfl
 | cons v l =>
  rcases aF v with h | ⟨b,h,rfl | rfl⟩
  ·simp only [List.map_cons,h]
   cases v with
   | one c =>
    cases c with
    | ptr i off =>
     cases off with
     | zero=>simp only [nw,rj]
     | succ n=>rfl
    | _=>rfl
   | _=>rfl
  ·simp only [List.map_cons,h]; rfl
  ·simp only [List.map_cons,h]; rfl
theorem B0 {look:Look} {f:FuncId} {c:Nat × Nat} (vs:List AV):nL look f c (vs.map AV.nf)=nL look f c vs:=by
 cases vs with
 | nil=>rfl
 | cons v l =>
  rcases aF v with h | ⟨b,h,rfl | rfl⟩
  ·simp only [List.map_cons,h]
   cases v with
   | one c =>
    cases c with
    | ptr i off =>
     cases off with
     | zero=>simp only [nL,lI]
     | succ n=>rfl
    | _=>rfl
   | _=>rfl
  ·simp only [List.map_cons,h]; rfl
  ·simp only [List.map_cons,h]; rfl
theorem Cu {look:Look} {f:FuncId} (vs:List AV):rN look f (vs.map AV.nf)=rN look f vs:=by
 rfl
theorem DD {E:Env} {id:Nat} {look:Look} {f:FuncId} {i:Nat} (vs:List AV):ww E id look f i (vs.map AV.nf)=ww E id look f i vs:=by
 simp only [ww,lI]
theorem Ec (d:TyD) (t:TypeId) (v:AV):BS d t v.nf=BS d t v:=by
 rcases aF v with h | ⟨b,h,rfl | rfl⟩
 ·rw [h]
 ·rfl
 ·rfl
theorem CN (d:TyD) (t:TypeId) (v:AV):uf d t v.nf=uf d t v:=by
 simp only [uf,im]
theorem A1 {S:Type} {v:Option AV} {k:Option Nat->Prg S}:fL (v.map AV.nf) k=fL v k:=by
 cases v with
 | none=>rfl
 | some v=>simp only [fL,EW,im]
theorem uk (v:AV):rW v.nf=rW v:=by
 rcases aF v with h | ⟨b,h,rfl | rfl⟩
 ·rw [h]
 ·rfl
 ·rfl
theorem yW {S:Type} {d:TyD} {dest:Option Nat} {v:AV} {k:List (List TV)->List Prim->Prg S}:wA look d dest v.nf k=wA look d dest v k:=by
 rcases aF v with h | ⟨b,h,rfl | rfl⟩
 ·rw [h]
 ·rfl
 ·rfl
theorem mA {kd:Kd} {sz:Nat} {x:AV} {lo hi:Option AV}:iT look kd sz x.nf (lo.map AV.nf) (hi.map AV.nf)=iT look kd sz x lo hi:=by
 simp only [iT,im,A1]
 rcases aF x with h | ⟨b,h,rfl | rfl⟩
 ·rw [h]
  cases lo <;> rfl
 ·rfl
 ·rfl
theorem Bf (v:AV):t8 v.nf=t8 v:=by
 rcases aF v with h | ⟨b,h,rfl | rfl⟩
 ·rw [h]
 ·rfl
 ·rfl
theorem opL_nf {op : Op} {vs : List AV} {e : Eff} (h : (opL E id look op vs).hits C e) : ∃ e', (opL E id look op (vs.map AV.nf)).hits C e' ∧ e'.nfE = e.nfE := by
 cases op with
 | move x =>
  rcases vs with _ | ⟨v,_ | ⟨v',r⟩⟩ <;> first | exact h.elim | skip
  cases h
  exact ⟨_,rfl,by simp [Eff.nfE,uO]⟩
 | assign x =>
  rcases vs with _ | ⟨v,_ | ⟨v',r⟩⟩ <;> first | exact h.elim | skip
  cases h
  exact ⟨_,rfl,by simp [Eff.nfE,uO]⟩
 | pick c x y =>
  rcases vs with _ | ⟨v,_ | ⟨v',_ | ⟨v'',_ | ⟨v3,r⟩⟩⟩⟩ <;> first | exact h.elim | skip
  simp only [opL] at h
  split at h
  ·rename_i b
   cases h
   refine ⟨_,rfl,?_⟩
   cases b <;> simp [Eff.nfE,uO]
  ·rename_i v
   obtain ⟨b,hb,h⟩:=h
   have hv:v=.lit (.bool b):=by
    unfold asBool at hb
    split at hb
    ·cases hb; rfl
    ·cases hb
   subst hv
   rcases h with ⟨rfl,h⟩ | ⟨rfl,h⟩ <;> (cases h; exact ⟨_,rfl,by simp [Eff.nfE,uO]⟩)
  ·rename_i v
   obtain ⟨b,hb,h⟩:=h
   have hv:v=.lit (.bool b):=by
    unfold asBool at hb
    split at hb
    ·cases hb; rfl
    ·cases hb
   subst hv
   rcases h with ⟨rfl,h⟩ | ⟨rfl,h⟩ <;> (cases h; exact ⟨_,rfl,by simp [Eff.nfE,uO]⟩)
  ·exact h.elim
 | alloc t =>
  rcases vs with _ | ⟨v,r⟩ <;> first | exact h.elim | exact ⟨e,h,rfl⟩
 | box t x =>
  rcases vs with _ | ⟨v,_ | ⟨v',r⟩⟩ <;> first | exact h.elim | skip
  refine ⟨e,?_,rfl⟩
  simp only [opL,List.map_cons,List.map_nil] at h ⊢
  split at h
  ·exact fm h
  ·exact h.elim
 | makeFunc fn first cap =>
  cases fn with
  | func f =>
   have:∃ cs,e=.val (.clo f cs):=by
    simp only [opL] at h
    cases hb:first.size.beq 0 with
    | false=>simp [hb,Prg.hits] at h
    | true =>
     simp only [hb,cond_true] at h
     exact jL (k:=fun l=>l) h
   obtain ⟨cs,rfl⟩:=this
   refine ⟨_,?_,rfl⟩
   simp only [opL] at h ⊢
   cases hb:first.size.beq 0 with
   | false=>simp [hb,Prg.hits] at h
   | true=>simp only [hb,cond_true] at h ⊢; exact lw h
  | _=>exact h.elim
 | build t parts =>
  refine ⟨e,?_,rfl⟩
  simp only [opL] at h ⊢
  split at h
  ·rename_i d hd
   cases hb:lz E.T d.kd with
   | false=>simp [hb,Prg.hits] at h
   | true=>simp only [hb,cond_true] at h ⊢; exact vv h
  ·exact h.elim
 | buildSlice t len parts =>
  refine ⟨e,?_,rfl⟩
  simp only [opL] at h ⊢
  cases hc:E.cold t && !(len.beq 0) with
  | true =>
   rw [hc] at h
   simp only [cond_true] at h ⊢
   exact h.elim
  | false =>
   rw [hc] at h
   simp only [cond_false] at h ⊢
   unfold iO at h ⊢
   split at h
   ·exact vv h
   ·exact h.elim
 | load t x =>
  rcases vs with _ | ⟨v,_ | ⟨v',r⟩⟩ <;> first | exact h.elim | skip
  refine ⟨e,?_,rfl⟩
  rcases aF v with h1 | ⟨b,h1,rfl | rfl⟩
  ·simpa only [List.map_cons,List.map_nil,h1] using h
  ·simp only [opL] at h; split at h <;> exact h.elim
  ·simp only [opL] at h; split at h <;> exact h.elim
 | store t x y =>
  rcases vs with _ | ⟨v,_ | ⟨v',_ | ⟨v'',r⟩⟩⟩ <;> first | exact h.elim | skip
  refine ⟨e,?_,rfl⟩
  simp only [opL,List.map_cons,List.map_nil] at h ⊢
  split at h
  ·rcases aF v with h1 | ⟨b,h1,rfl | rfl⟩
   ·rw [h1]
    unfold vj at h ⊢
    split at h
    ·rename_i e0 _ _ i0 off0 len0 n0
     cases hk0:e0.kd.isAgg with
     | true=>rw [hk0] at h; exact h.elim
     | false =>
      rw [hk0] at h
      simp only [cond_false] at h ⊢
      split at h
      ·exact fm h
      ·exact h.elim
    ·exact fm h
    ·exact fm h
    ·exact h.elim
   ·exact h.elim
   ·exact h.elim
  ·exact h.elim
 | nilCheck x =>
  rcases vs with _ | ⟨v,_ | ⟨v',r⟩⟩ <;> first | exact h.elim | skip
  refine ⟨e,?_,rfl⟩
  rcases aF v with h1 | ⟨b,h1,rfl | rfl⟩
  ·simpa only [List.map_cons,List.map_nil,h1] using h
  ·exact h.elim
  ·exact h.elim
 | binOp op xt x y yt =>
  rcases vs with _ | ⟨v,_ | ⟨v',_ | ⟨v'',r⟩⟩⟩ <;> first | exact h.elim | skip
  refine ⟨e,?_,rfl⟩
  simp only [opL,List.map_cons,List.map_nil] at h ⊢
  split at h
  ·unfold Ei at h ⊢
   split at h
   ·split at h
    ·exact fm (xh (fun cs h=>fm h) h)
    ·exact h.elim
   ·simp only [Ds,Bf] at h ⊢
    exact h
   ·simp only [DS,vC,im] at h ⊢
    exact h
  ·exact h.elim
 | unOp op xt x =>
  rcases vs with _ | ⟨v,_ | ⟨v',r⟩⟩ <;> first | exact h.elim | skip
  rcases aF v with h1 | ⟨b,h1,h2⟩
  ·refine ⟨e,?_,rfl⟩
   simpa only [List.map_cons,List.map_nil,h1] using h
  ·have hv:∃ t,(opL E id look (.unOp op xt x) [v]).hits C e->(Prg.tv (pun op (.lit (.bool b))) vt).hits C e:=⟨(),by rcases h2 with rfl | rfl <;> intro h <;> cases op <;> exact h⟩
   obtain ⟨_,hv⟩:=hv
   obtain ⟨z,hz,hh⟩:=hv h
   cases op with
   | not =>
    simp only [pun,EL] at hz
    subst hz
    cases hh
    refine ⟨.val (.bl !b),?_,rfl⟩
    simp only [List.map_cons,List.map_nil,h1]
    rfl
   | _=>simp [pun] at hz
 | convert xt dt x =>
  rcases vs with _ | ⟨v,_ | ⟨v',r⟩⟩ <;> first | exact h.elim | skip
  refine ⟨e,?_,rfl⟩
  simp only [opL,List.map_cons,List.map_nil,zF,im,vC] at h ⊢
  exact h
 | makeSlice t x y =>
  rcases vs with _ | ⟨v,_ | ⟨v',_ | ⟨v'',r⟩⟩⟩ <;> first | exact h.elim | skip
  refine ⟨e,?_,rfl⟩
  simp only [opL,List.map_cons,List.map_nil,im] at h ⊢
  exact h
 | slice t x lo hi mx =>
  refine ⟨e,?_,rfl⟩
  cases mx with
  | some m=>rcases vs with _ | ⟨v,r⟩ <;> exact h.elim
  | none =>
   rcases vs with _ | ⟨v,r⟩
   ·exact h.elim
   ·simp only [opL, List.map_cons] at h ⊢
    split at h
    ·rename_i d hT
     split at h
     ·rename_i sz hsz
      cases lo with
      | none =>
       cases hi with
       | none =>
        rcases r with _ | ⟨l,r⟩
        ·have:=mA (look:=look) (kd:=d.kd) (sz:=sz) (x:=v) (lo:=none) (hi:=none)
         simp only [Option.map_none] at this
         simp only [List.map_nil]
         rw [this]; exact h
        ·exact h.elim
       | some hh =>
        rcases r with _ | ⟨l,_ | ⟨l',r⟩⟩
        ·exact h.elim
        ·have:=mA (look:=look) (kd:=d.kd) (sz:=sz) (x:=v) (lo:=none) (hi:=some l)
         simp only [Option.map_none,EW] at this
         simp only [List.map_cons,List.map_nil]
         rw [this]; exact h
        ·exact h.elim
      | some ll =>
       cases hi with
       | none =>
        rcases r with _ | ⟨l,_ | ⟨l',r⟩⟩
        ·exact h.elim
        ·have:=mA (look:=look) (kd:=d.kd) (sz:=sz) (x:=v) (lo:=some l) (hi:=none)
         simp only [Option.map_none,EW] at this
         simp only [List.map_cons,List.map_nil]
         rw [this]; exact h
        ·exact h.elim
       | some hh =>
        rcases r with _ | ⟨l,_ | ⟨l',_ | ⟨l'',r⟩⟩⟩
        ·exact h.elim
        ·exact h.elim
        ·have:=mA (look:=look) (kd:=d.kd) (sz:=sz) (x:=v) (lo:=some l) (hi:=some l')
         simp only [EW] at this
         simp only [List.map_cons,List.map_nil]
         rw [this]; exact h
        ·exact h.elim
     ·exact h.elim
    ·exact h.elim
 | fieldAddr t x f =>
  rcases vs with _ | ⟨v,_ | ⟨v',r⟩⟩ <;> first | exact h.elim | skip
  refine ⟨e,?_,rfl⟩
  rcases aF v with h1 | ⟨b,h1,rfl | rfl⟩
  ·simpa only [List.map_cons,List.map_nil,h1] using h
  ·simp only [opL] at h
   split at h
   ·rename_i hv
    cases hv
    split at h
    ·rename_i n _ _
     cases hb:Nat.blt 0 n <;> simp [hb,CA.add,Prg.hits] at h
    ·exact h.elim
   ·exact h.elim
  ·simp only [opL] at h
   split at h
   ·rename_i hv; cases hv
   ·exact h.elim
 | field t x f =>
  rcases vs with _ | ⟨v,_ | ⟨v',r⟩⟩ <;> first | exact h.elim | skip
  refine ⟨e,?_,rfl⟩
  rcases aF v with h1 | ⟨b,h1,rfl | rfl⟩
  ·simpa only [List.map_cons,List.map_nil,h1] using h
  ·simp only [opL] at h
   split at h
   ·split at h <;> exact h.elim
   ·exact h.elim
  ·simp only [opL] at h
   split at h
   ·split at h
    ·simp [vx,TV.isAgg,Prg.hits] at h
    ·exact h.elim
   ·exact h.elim
 | indexAddr t x y =>
  rcases vs with _ | ⟨v,_ | ⟨v',_ | ⟨v'',r⟩⟩⟩ <;> first | exact h.elim | skip
  refine ⟨e,?_,rfl⟩
  simp only [opL,List.map_cons,List.map_nil] at h ⊢
  split at h
  ·rcases aF v with h1 | ⟨b,h1,rfl | rfl⟩
   ·simp only [h1,oV,im] at h ⊢; exact h
   ·simp only [oV,im] at h ⊢; exact h
   ·simp only [oV,im] at h ⊢; exact h
  ·unfold rb at h ⊢
   rw [im]
   rcases aF v with h1 | ⟨b,h1,rfl | rfl⟩
   ·rw [h1]; exact h
   ·split at h
    ·split at h <;> first | exact h.elim | (rename_i hx _; cases hx)
    ·exact h.elim
   ·split at h
    ·split at h <;> first | exact h.elim | (rename_i hx _; cases hx)
    ·exact h.elim
 | index t x y =>
  rcases vs with _ | ⟨v,_ | ⟨v',_ | ⟨v'',r⟩⟩⟩ <;> first | exact h.elim | skip
  refine ⟨e,?_,rfl⟩
  simp only [opL,List.map_cons,List.map_nil,im] at h ⊢
  split at h
  ·exact h
  ·unfold qN at h ⊢
   rw [im]
   rcases aF v with h1 | ⟨b,h1,rfl | rfl⟩
   ·rw [h1]; exact h
   ·split at h
    ·split at h <;> first | exact h.elim | (rename_i hx _; cases hx)
    ·exact h.elim
   ·split at h
    ·split at h <;> first | exact h.elim | (rename_i hx _; cases hx)
    ·exact h.elim
 | extract x j =>
  rcases vs with _ | ⟨v,_ | ⟨v',r⟩⟩ <;> first | exact h.elim | skip
  refine ⟨e,?_,rfl⟩
  rcases aF v with h1 | ⟨b,h1,rfl | rfl⟩
  ·simpa only [List.map_cons,List.map_nil,h1] using h
  ·exact h.elim
  ·exact h.elim
 | call c =>
  refine ⟨e,?_,rfl⟩
  obtain ⟨callee,args,tys⟩:=c
  cases callee with
  | builtin b =>
   simp only [opL] at h ⊢
   unfold ec at h
   split at h
   ·rename_i x ty htys
    simp only [htys,ec,List.map_cons,List.map_nil]
    split at h
    ·rename_i d hd
     have key:∀ kd,(yq look kd x).hits C e->(yq look kd x.nf).hits C e:=by intro kd; cases kd <;> simp only [yq,vC] <;> exact fun h=>h
     exact key _ h
    ·exact h.elim
   ·rename_i s x ty ty' htys
    simp only [htys,ec,List.map_cons,List.map_nil]
    split at h
    ·rename_i _ d hel
     cases hb:Nat.beq ty ty' with
     | false =>
      simp only [hb,cond_false] at h ⊢
      split at h
      ·rename_i hu
       exact h.elim
      ·exact h.elim
     | true =>
      simp only [hb,cond_true] at h ⊢
      unfold nu at h ⊢
      rw [yW,uk]
      rcases aF s with h1 | ⟨b,h1,rfl | rfl⟩
      ·rw [h1]; exact h
      ·exact h
      ·exact h
    ·exact h.elim
   ·rename_i s x ty ty' htys
    simp only [htys,ec,List.map_cons,List.map_nil]
    split at h
    ·rename_i _ d hel
     cases hb:Nat.beq ty ty' with
     | false=>simp [hb,Prg.hits] at h
     | true =>
      simp only [hb,cond_true] at h ⊢
      unfold zD at h ⊢
      rw [yW,uk]
      rcases aF s with h1 | ⟨b,h1,rfl | rfl⟩
      ·rw [h1]; exact h
      ·exact h
      ·exact h
    ·exact h.elim
   ·rename_i s ty htys
    simp only [htys,ec,List.map_cons,List.map_nil]
    split at h
    ·unfold vR at h ⊢
     rcases aF s with h1 | ⟨b,h1,rfl | rfl⟩
     ·rw [h1]; exact h
     ·exfalso
      revert h
      cases Nat.blt 0 _ <;> exact fun h=>h.elim
     ·exfalso
      revert h
      cases Nat.blt 0 _ <;> exact fun h=>h.elim
    ·exact h.elim
   ·simp only [ec,List.map_cons,List.map_nil,xH,im] at h ⊢
    exact h
   ·simp only [ec,List.map_cons,List.map_nil,xH,im] at h ⊢
    exact h
   ·exact h.elim
  | value f =>
   cases f with
   | func f =>
    rcases vs with _ | ⟨v,r⟩
    ·exact h.elim
    ·simp only [opL,List.map_cons,mI,lI,rj,C2,B0,Cu] at h ⊢
     exact h
   | tmp t =>
    rcases vs with _ | ⟨v,r⟩
    ·exact h.elim
    ·simp only [opL,List.map_cons,im,lI,DD] at h ⊢
     rcases aF v with h1 | ⟨b,h1,rfl | rfl⟩
     ·rw [h1]; exact h
     ·exact h
     ·exact h
   | _=>exact h.elim
  | invoke r m=>exact h.elim
 | makeInterface t x =>
  rcases vs with _ | ⟨v,_ | ⟨v',r⟩⟩ <;> first | exact h.elim | skip
  refine ⟨e,?_,rfl⟩
  simp only [opL,List.map_cons,List.map_nil,Ec] at h ⊢
  exact h
 | typeAssert x xt t ok =>
  rcases vs with _ | ⟨v,_ | ⟨v',r⟩⟩ <;> cases ok <;> first | exact h.elim | skip
  refine ⟨e,?_,rfl⟩
  simp only [opL,List.map_cons,List.map_nil,CN] at h ⊢
  exact h
 | _=>exact h.elim
theorem lC (st:ASt):st.nfS.look=st.look:=rfl
theorem nC (st:ASt):st.nfS.base=st.base:=rfl
theorem vO (st:ASt) (d:Option Tmp):st.nfS.nid d=st.nid d:=by cases d <;> rfl
theorem jp (st:ASt) (d:Option Tmp) (v:AV):(st.put d v).nfS=st.nfS.put d v.nf:=by
 cases d with
 | none=>rfl
 | some d=>simp [ASt.nfS,ASt.put,ah,List.map_set]
theorem rm (st:ASt) (i:Nat) (b:Option BC):(st.ac i b).nfS=st.nfS.ac i b:=rfl
theorem lN (st:ASt) (t:Nat):nth (.one .junk) st.nfS.slots t=(nth (.one .junk) st.slots t).nf:=by
 simp only [ASt.nfS,aN,EP]
 cases st.slots[t]? <;> rfl
theorem Ar (ps:List Nat) (st:ASt) (d:Option Nat) (e:Eff):cI ps st.nfS d e.nfE=cI ps st d e:=by
 unfold cI
 congr 1
 funext k
 cases d with
 | none=>rw [nC,cB]
 | some d=>simp only [nC,cB,lN,nO]
theorem Ak {o:Item} {st:ASt} {e:Eff} (h:ka o st e=true):ka o st.nfS e.nfE=true:=nomatch h
theorem tp (st:ASt) (x:Operand):st.nfS.ev x=(st.ev x).nf:=by
 cases x with
 | tmp t=>exact lN st t
 | const v =>
  cases v with
  | bool b=>rfl
  | _=>first | rfl | (simp only [ASt.ev]; cases Value.oneCell' _ <;> rfl)
 | global g=>rfl
 | func f=>rfl
theorem rA:∀ (l:List AV),cO (l.map AV.nf)=cO l
 | []=>rfl
 | v :: l=>by simp only [List.map_cons,cO,im,rA l]
theorem kb (e:Eff):iE e.nfE=iE e:=by
 cases e with
 | new b v=>cases b <;> rfl
 | _=>rfl
theorem AH {i:Item} {st:ASt} {e:Eff}:gY i st.nfS e.nfE=gY i st e:=by
 unfold gY
 have:i.o.op.operands.toList.map st.nfS.ev=(i.o.op.operands.toList.map st.ev).map AV.nf:=by
  rw [List.map_map]
  exact List.map_congr_left fun x _=>tp st x
 rw [this,rA,kb,cB]
 rfl
theorem wo:∀ (l:List AV),jf (l.map AV.nf)=jf l
 | []=>rfl
 | v :: l=>by simp only [List.map_cons,jf,nO,wo l]
theorem pI (e:Eff):m9 e.nfE=m9 e:=by cases e <;> rfl
theorem xU (e:Eff):drE e.nfE=drE e:=by cases e <;> rfl
theorem ta (k:Nat) (e:Eff):t7 k e.nfE=t7 k e:=by cases e <;> rfl
theorem qV (v:AV):(v.nf.bZ CA.deep).ij=(v.bZ CA.deep).ij:=by
 rcases aF v with h | ⟨b,h,rfl | rfl⟩
 ·rw [h]
 ·rw [h]; rfl
 ·rw [h]; rfl
theorem wP:∀ (l:List AV),jf (cA CA.deep (l.map AV.nf))=jf (cA CA.deep l)
 | []=>rfl
 | v :: l=>by simp only [List.map_cons,cA,jf,qV,wP l]
theorem qG (e:Eff):nF e.nfE=nF e:=by
 cases e with
 | val v=>exact qV v
 | new b v=>exact cB (.new b v)
 | upd i b v=>exact cB (.upd i b v)
 | gen ps v=>exact cB (.gen ps v)
theorem Bb {i:Item} {st:ASt} {e:Eff}:cz i st.nfS e.nfE=cz i st e:=by
 unfold cz
 simp only [pI,xU,ta]
 rfl
theorem AC {i:Item} {st:ASt} {e:Eff}:dz i st.nfS e.nfE=dz i st e:=by
 unfold dz
 have hd:∀ d b,jj st.nfS d b=jj st d b:=fun d b=>by
  cases d with
  | none=>rfl
  | some d =>
   have:=tp st (.tmp d)
   simp only [ASt.ev] at this
   simp only [jj,this,nO]
 have hd2:∀ d b,gK st.nfS d b=gK st d b:=fun d b=>by
  cases d with
  | none=>rfl
  | some d =>
   have:=tp st (.tmp d)
   simp only [ASt.ev] at this
   simp only [gK,this,qV]
 simp only [hd,hd2,cB,qG]
 have:i.o.op.operands.toList.map st.nfS.ev=(i.o.op.operands.toList.map st.ev).map AV.nf:=by
  rw [List.map_map]
  exact List.map_congr_left fun x _=>tp st x
 rw [this,wo,wP]
 rfl
theorem okE_nf {i:Item} {st:ASt} {e:Eff} (h:okE i st e=true):okE i st.nfS e.nfE=true:=by
 unfold okE at h ⊢
 rw [Bool.or_eq_true] at h ⊢
 rcases h with h | h
 ·rw [Bb]; exact .inl h
 refine .inr ?_
 rw [Bool.or_eq_true] at h ⊢
 rcases h with h | h
 ·rw [oO,xr,nC,Ar,AH,AC]; exact .inl h
 ·exact .inr (Ak h)
theorem vF (hs:Sim w0 I0 st a ov w):Sim w0 I0 st.nfS a ov w:=by
 obtain ⟨g,hs⟩:=hs
 refine ⟨g,hs.below,hs.sub,hs.lt,hs.old,by simp [ASt.nfS,hs.len],hs.defers,fun t v hv=>?_,hs.olen,hs.outs,hs.cells,hs.trees,hs.foot,hs.apart,hs.apartR,hs.res,hs.base,hs.out⟩
 simp only [ASt.nfS,EP] at hv
 cases hsl:st.slots[t]? with
 | none=>simp [hsl] at hv
 | some u =>
  simp only [hsl,EW,EL] at hv
  subst hv
  exact Cc.2 (hs.slots t u hsl)
theorem ez (hs:Sim w0 I0 st.nfS a ov w):Sim w0 I0 st a ov w:=by
 obtain ⟨g,hs⟩:=hs
 refine ⟨g,hs.below,hs.sub,hs.lt,hs.old,by have:=hs.len; simpa [ASt.nfS] using this,hs.defers,fun t v hv=>?_,hs.olen,hs.outs,hs.cells,hs.trees,hs.foot,hs.apart,hs.apartR,hs.res,hs.base,hs.out⟩
 exact Cc.1 (hs.slots t v.nf (by simp [ASt.nfS,hv]))
theorem oH (i r:Nat) (js:List Nat) (b:Bool) (v:AV):(v.bZ (CA.drop i r js b)).nf=v.nf.bZ (CA.drop i r js b):=by
 rcases aF v with h | ⟨b,h,rfl | rfl⟩
 ·rw [h]
  cases v with
  | one c =>
   have key:∀ c:CA,c.drop i r js b=c\/c.drop i r js b=.junk:=fun c=>by
    rcases fO i r js b c with ⟨h,_⟩ | h
    ·exact .inl h
    ·exact .inr h
   simp only [AV.bZ]
   rcases key c with h' | h'
   ·rw [h',h]
   ·rw [h']; rfl
  | tv x=>exact h
  | _=>rfl
 ·rfl
 ·rfl
theorem CZ (st:ASt) (i r:Nat) (js:List Nat) (b:Bool):(st.aq (CA.drop i r js b)).nfS=st.nfS.aq (CA.drop i r js b):=by
 simp only [ASt.nfS,ASt.aq]
 congr 1
 apply List.ext_getElem?
 intro t
 simp only [EP,lS]
 cases st.slots[t]? with
 | none=>rfl
 | some v=>simp [oH]
theorem pX (i:Nat) (v:AV):(v.bZ (CA.unM i)).nf=v.nf.bZ (CA.unM i):=by
 cases v with
 | one c =>
  cases c with
  | t x =>
   cases x with
   | lit u=>cases u <;> rfl
   | _=>rfl
  | may j ty =>
   simp only [AV.bZ,CA.unM,AV.nf]
   cases j.beq i <;> rfl
  | _=>rfl
 | tv x =>
  cases x with
  | lit u=>cases u <;> rfl
  | _=>rfl
 | _=>rfl
theorem D5 (st:ASt) (i:Nat):(st.aq (CA.unM i)).nfS=st.nfS.aq (CA.unM i):=by
 simp only [ASt.aq,ASt.nfS]
 congr 1
 induction st.slots with
 | nil=>rfl
 | cons v l ih=>simp only [cA,List.map_cons,pX,ih]
theorem uj {i:Nat} {b:BC} (h:st.bp i b=some st'):st.nfS.bp i b=some st'.nfS:=by
 obtain ⟨h1,h2,rfl⟩:=bg h
 have h2':i.blt st.nfS.boxes.length=true:=by simpa [ASt.nfS] using h2
 simp only [ASt.bp,lC,h1,h2',cond_true,rm]
theorem qd {d:Option Tmp}:∀ {ps:List Prim} {st st':ASt},ae d ps st=some st'->ae d ps st.nfS=some st'.nfS
 | [],st,st',h=>by simp only [ae,EL] at h; subst h; rfl
 | p :: ps, st, st', h => by
  simp only [ae] at h ⊢
  cases h1:p.app st d with
  | none=>simp [h1] at h
  | some s1 =>
   simp only [h1] at h
   have:p.app st.nfS d=some s1.nfS:=by
    cases p with
    | drop i r js b =>
     simp only [Prim.app,EL] at h1 ⊢
     subst h1
     rw [CZ]
    | root i r x =>
     simp only [Prim.app,lC] at h1 ⊢
     split at h1
     ·rename_i b hb
      simp only [EL] at h1
      subst h1
      rfl
     ·cases h1
    | frz i r =>
     simp only [Prim.app,lC] at h1 ⊢
     split at h1
     ·rename_i x hx
      split at h1
      ·rename_i b hb
       simp only [EL] at h1
       subst h1
       rfl
      ·cases h1
     ·cases h1
    | unmay i =>
     simp only [Prim.app,EL] at h1 ⊢
     subst h1
     rw [D5]
    | newB b =>
     cases d with
     | none=>simp [Prim.app] at h1
     | some d =>
      simp only [Prim.app] at h1 ⊢
      rw [vO]
      exact uj h1
    | setB i cs =>
     simp only [Prim.app,lC] at h1 ⊢
     split at h1
     ·simp only [EL] at h1
      subst h1
      rfl
     ·cases h1
   rw [this]
   exact qd h
theorem app_nf {e:Eff} {d:Option Tmp} (h:e.app st d=some st'):e.nfE.app st.nfS d=some st'.nfS:=by
 cases e with
 | val v =>
  simp only [Eff.app,Eff.nfE,EL] at h ⊢
  subst h
  rw [jp]
 | new b v =>
  cases d with
  | none=>simp [Eff.app] at h
  | some d =>
   simp only [Eff.app,Eff.nfE] at h ⊢
   rw [vO]
   split at h
   ·rename_i s1 hs1
    simp only [EL] at h
    subst h
    rw [uj hs1]
    simp only [jp]
   ·cases h
 | upd i b v =>
  simp only [Eff.app,Eff.nfE,EL] at h ⊢
  subst h
  rw [jp,rm]
 | gen ps v =>
  simp only [Eff.app,Eff.nfE] at h ⊢
  split at h
  ·rename_i s1 hs1
   simp only [EL] at h
   subst h
   rw [qd hs1]
   simp only [jp]
  ·cases h
theorem kE {d:Option Tmp} {v:AV} (hs:Sim w0 I0 (st.put d v) a ov w):Sim w0 I0 (st.put d v.nf) a ov w:=by
 apply ez
 have:=vF hs
 rw [jp] at this ⊢
 rwa [uO]
theorem zA {e:Eff} {d:Option Tmp} (h:e.nfE.app st d=some st'):∃ st1,e.app st d=some st1/\∀ w0 I0 a ov w,Sim w0 I0 st1 a ov w->Sim w0 I0 st' a ov w:=by
 cases e with
 | val v =>
  simp only [Eff.app,Eff.nfE,EL] at h ⊢
  subst h
  exact ⟨_,rfl,fun w0 I0 a ov w hs=>kE hs⟩
 | new b v =>
  cases d with
  | none=>simp [Eff.app,Eff.nfE] at h
  | some d =>
   simp only [Eff.app,Eff.nfE] at h ⊢
   split at h
   ·rename_i s1 hs1
    simp only [EL] at h
    subst h
    exact ⟨_,rfl,fun w0 I0 a ov w hs=>kE hs⟩
   ·cases h
 | upd i b v =>
  simp only [Eff.app,Eff.nfE,EL] at h ⊢
  subst h
  exact ⟨_,rfl,fun w0 I0 a ov w hs=>kE hs⟩
 | gen ps v =>
  simp only [Eff.app,Eff.nfE] at h ⊢
  split at h
  ·rename_i s1 hs1
   simp only [EL] at h
   subst h
   exact ⟨_,rfl,fun w0 I0 a ov w hs=>kE hs⟩
  ·cases h
end
end Go.Ab
end
section
namespace Go.Ab
open Go.RowKit
def Prg.All {R:Type} (p:R->Prop):Prg R->Prop
 | .fail=>True
 | .ret e=>p e
 | .tv _ k=>∀ v,(k v).All p
 | .tvs _ k=>∀ v,(k v).All p
 | .rws _ k=>∀ v,(k v).All p
 | .nat _ k=>∀ v,(k v).All p
 | .chk _ k=>k.All p
 | .ite _ t e=>t.All p/\e.All p
 | .call _ _ k=>∀ v,(k v).All p
 | .jmp _ _=>True
theorem Prg.All.hits {R:Type} {C:Cal} {p:R->Prop} {e:R}:∀ {o:Prg R},o.All p->o.hits C e->p e
 | .ret e',h,h'=>by cases h'; exact h
 | .tv _ k,h,⟨v,_,h'⟩=>(h v).hits h'
 | .tvs _ k,h,⟨v,_,h'⟩=>(h v).hits h'
 | .rws _ k,h,⟨v,_,h'⟩=>(h v).hits h'
 | .nat _ k,h,⟨v,_,h'⟩=>(h v).hits h'
 | .chk _ k,h,⟨_,h'⟩=>Prg.All.hits (o:=k) h h'
 | .ite _ t e,h,⟨v,_,.inl ⟨_,h'⟩⟩=>Prg.All.hits (o:=t) h.1 h'
 | .ite _ t e,h,⟨v,_,.inr ⟨_,h'⟩⟩=>Prg.All.hits (o:=e) h.2 h'
 | .call _ _ k,h,⟨v,_,h'⟩=>(h v).hits h'
section
variable {E:Env} {look look':Look} {p:Eff->Prop} {id:Nat}
theorem aG {b:Bool} {x y:Out} (hx:x.All p) (hy:y.All p):(bif b then x else y).All p:=by cases b <;> assumption
theorem lj {q:Way} {x:TV} {k:TV->Out} (h:∀ y,(k y).All p):(pT q x k).All p:=by
 unfold pT
 split
 ·exact h _
 ·exact h
theorem fK {c:CA} {k:TV->Out} (h:∀ y,(k y).All p):(iR look c k).All p:=by
 unfold iR
 split
 ·exact h _
 ·split
  ·exact lj h
  ·exact trivial
 ·split
  ·exact lj fun y z=>h z
  ·exact trivial
 ·exact trivial
theorem sP {v:AV} {k:TV->Out} (h:∀ y,(k y).All p):(vJ look v k).All p:=by
 unfold vJ
 split
 ·exact fK h
 ·exact h _
 ·exact h _
 ·exact trivial
theorem uU {c:CA} {k:TV->Out} (h:∀ y,(k y).All p):(rB look c k).All p:=by
 unfold rB
 split
 ·exact h _
 ·exact fK fun y=>h _
 ·exact fK fun y=>h _
 ·exact trivial
theorem uI {k:List TV->Out}:∀ {cs:List CA} {k:List TV->Out},(∀ y,(k y).All p)->(zP look cs k).All p
 | [],k,h=>h _
 | c :: cs,k,h=>uU fun y=>uI (k:=fun _=>.fail) fun ys=>h _
theorem AT {v:AV} {k:TV->Out} (h:∀ y,(k y).All p):(sh look v k).All p:=by
 unfold sh
 split
 ·exact uU h
 ·exact h _
 ·exact uI (k:=fun _=>.fail) fun ys=>h _
 ·exact trivial
 ·exact trivial
 ·exact h _
theorem jQ:∀ {vs:List AV} {k:List TV->Out},(∀ y,(k y).All p)->(lends look vs k).All p
 | [],k,h=>h _
 | v :: vs,k,h=>AT fun y=>jQ fun ys=>h _
theorem u9 {c:CA} {k:TV->List (Nat × Nat)->Out} (h:∀ y r,(k y r).All p):(tz look c k).All p:=by
 unfold tz
 split
 ·exact h _ _
 ·split
  ·split
   ·exact h _ _
   ·exact fun y=>h _ _
  ·exact trivial
 ·split
  ·split
   ·exact fun y=>h _ _
   ·exact fun z y=>h _ _
  ·exact trivial
 ·exact trivial
theorem tS:∀ {cs:List CA} {k:List TV->List (Nat × Nat)->Out},(∀ y r,(k y r).All p)->(zl look cs k).All p
 | [],k,h=>h _ _
 | c :: cs,k,h=>u9 fun y r=>tS fun ys rs=>h _ _
theorem A7 {v:AV} {k:TV->List (Nat × Nat)->Out} (h:∀ y r,(k y r).All p):(sE look v k).All p:=by
 unfold sE
 split
 ·exact u9 h
 ·exact h _ _
 ·exact tS fun ys rs=>h _ _
 ·exact trivial
 ·exact trivial
 ·exact h _ _
theorem pw:∀ {vs:List AV} {k:List TV->List (Nat × Nat)->Out},(∀ y r,(k y r).All p)->(hands look vs k).All p
 | [],k,h=>h _ _
 | v :: vs,k,h=>A7 fun y r=>pw fun ys rs=>h _ _
theorem d6:∀ {cs:List CA} {k:List TV->List Prim->List (Nat × Nat)->Out},(∀ y q r,(k y q r).All p)->(cE look cs k).All p
 | [],k,h=>h _ _ _
 | .t x :: l,k,h=>by
  simp only [cE]
  exact d6 (cs:=l) fun xs ps ts=>h _ _ _
 | .sref i r q :: l, k, h => by
  simp only [cE]
  split
  ·split
   ·exact d6 (cs:=l) fun xs ps ts=>h _ _ _
   ·exact fun y=>d6 (cs:=l) fun xs ps ts=>h _ _ _
  ·exact trivial
 | .swin i r q lo len :: l, k, h => by
  simp only [cE]
  split
  ·split
   ·exact fun y=>d6 (cs:=l) fun xs ps ts=>h _ _ _
   ·exact fun z y=>d6 (cs:=l) fun xs ps ts=>h _ _ _
  ·exact trivial
 | .ptr _ _ :: l,k,h=>trivial
 | .ref _ _ :: l,k,h=>trivial
 | .tptr _ _ _ _ _ :: l,k,h=>trivial
 | .may _ _ :: l,k,h=>trivial
 | .aptr _ _ _ _ :: l,k,h=>trivial
 | .ifp _ _ :: l,k,h=>trivial
 | .fn1 _ _ :: l,k,h=>trivial
 | .yl _ :: l,k,h=>trivial
 | .undef :: l,k,h=>trivial
 | .junk :: l,k,h=>trivial
theorem d0:∀ {cs:List CA} {k:List TV->List Prim->List (Nat × Nat)->Out},(∀ y q r,(k y q r).All p)->(b9 look cs k).All p
 | [],k,h=>h _ _ _
 | .t x :: l,k,h=>by
  simp only [b9]
  exact d0 (cs:=l) fun xs ps ts=>h _ _ _
 | .sref i r q :: l, k, h => by
  simp only [b9]
  split
  ·split
   ·exact d0 (cs:=l) fun xs ps ts=>h _ _ _
   ·exact fun y=>⟨d0 (cs:=l) fun xs ps ts=>h _ _ _,fun x'=>d0 (cs:=l) fun xs ps ts=>h _ _ _⟩
  ·exact trivial
 | .swin i r q lo len :: l, k, h => by
  simp only [b9]
  split
  ·split
   ·exact fun y=>d0 (cs:=l) fun xs ps ts=>h _ _ _
   ·exact fun z y=>d0 (cs:=l) fun xs ps ts=>h _ _ _
  ·exact trivial
 | .ptr _ _ :: l,k,h=>trivial
 | .ref _ _ :: l,k,h=>trivial
 | .tptr _ _ _ _ _ :: l,k,h=>trivial
 | .may _ _ :: l,k,h=>trivial
 | .aptr _ _ _ _ :: l,k,h=>trivial
 | .ifp _ _ :: l,k,h=>trivial
 | .fn1 _ _ :: l,k,h=>trivial
 | .yl _ :: l,k,h=>trivial
 | .undef :: l,k,h=>trivial
 | .junk :: l,k,h=>trivial
theorem d8 {agg:Bool} {n:Nat} {x:AV} {k:List CA->Out} (h:∀ cs,(k cs).All p):(x.aU agg n k).All p:=by
 unfold AV.aU
 split
 ·rename_i c; cases c.kept <;> first | exact trivial | exact h _
 ·exact h _
 ·exact h _
 ·exact h _
 ·rename_i cs; cases cs.length.beq n <;> first | exact trivial | exact h _
 ·exact h _
 ·exact trivial
theorem sf {at_:Nat->Option (Nat × Bool × Nat)} {k:List CA->Out} (h:∀ cs,(k cs).All p):∀ (is:List Nat) (vs:List AV) (cs:List CA),(cb at_ is vs cs k).All p
 | [],[],cs=>h cs
 | i :: is, x :: vs, cs => by
  simp only [cb]
  split
  ·refine d8 (fun ps=>?_)
   exact aG (sf h is vs _) trivial
  ·exact trivial
 | [],_ :: _,cs=>trivial
 | _ :: _,[],cs=>trivial
theorem eW {v:Option AV} {k:Option Nat->Out} (h:∀ n,(k n).All p):(fL v k).All p:=by
 unfold fL
 split
 ·exact h _
 ·split
  ·exact fun v=>h _
  ·exact trivial
abbrev ip (e:Eff):Prop:=∃ v,e=.val v
abbrev kY (e:Eff):Prop:=∃ b v,e=.new b v
theorem vZ {d:TyD} {x:List TV} {off:Nat}:(kO d x off).All ip:=by
 unfold kO
 cases d.kd.isAgg
 ·exact ⟨_,rfl⟩
 ·exact ⟨_,rfl⟩
theorem vc:∀ {vs:List AV} {k:List CA->Out},(∀ cs,(k cs).All p)->(kL vs k).All p
 | [],k,h=>h _
 | v :: vs,k,h=>d8 fun cs=>vc fun cs'=>h _
theorem Eu {op:Op} (h:ap op=.N) (vs:List AV):(opL E id look op vs).All ip:=by
 cases op with
 | move x=>rcases vs with _ | ⟨v,_ | ⟨v',r⟩⟩ <;> first | exact trivial | exact ⟨_,rfl⟩
 | assign x=>rcases vs with _ | ⟨v,_ | ⟨v',r⟩⟩ <;> first | exact trivial | exact ⟨_,rfl⟩
 | pick c x y =>
  rcases vs with _ | ⟨v,_ | ⟨v',_ | ⟨v'',_ | ⟨v3,r⟩⟩⟩⟩ <;> first | exact trivial | skip
  simp only [opL]
  split <;> first | exact trivial | exact ⟨_,rfl⟩ | exact ⟨⟨_,rfl⟩,⟨_,rfl⟩⟩
 | build t parts =>
  simp only [opL]
  split
  ·refine aG ?_ trivial
   refine sf ?_ _ _ _
   exact fun cs=>⟨_,rfl⟩
  ·exact trivial
 | nilCheck x =>
  rcases vs with _ | ⟨v,_ | ⟨v',r⟩⟩ <;> first | exact trivial | skip
  simp only [opL]
  split <;> first | exact trivial | exact ⟨_,rfl⟩
 | unOp op xt x =>
  rcases vs with _ | ⟨v,_ | ⟨v',r⟩⟩ <;> first | exact trivial | skip
  simp only [opL]
  split
  ·exact ⟨_,rfl⟩
  ·split
   ·exact fun v=>⟨_,rfl⟩
   ·exact trivial
 | fieldAddr t x f =>
  rcases vs with _ | ⟨v,_ | ⟨v',r⟩⟩ <;> first | exact trivial | skip
  simp only [opL]
  split
  ·split
   ·refine aG ?_ trivial
    split <;> first | exact trivial | exact ⟨_,rfl⟩
   ·exact trivial
  ·exact trivial
 | field t x f =>
  rcases vs with _ | ⟨v,_ | ⟨v',r⟩⟩ <;> first | exact trivial | skip
  simp only [opL]
  split
  ·split
   ·unfold vx
    split
    ·split
     ·split <;> first | exact trivial | exact ⟨_,rfl⟩
     ·exact trivial
    ·exact ⟨_,rfl⟩
    ·exact trivial
   ·exact trivial
  ·exact trivial
 | index t x y =>
  rcases vs with _ | ⟨v,_ | ⟨v',_ | ⟨v'',r⟩⟩⟩ <;> first | exact trivial | skip
  simp only [opL]
  split
  ·exact fun v=>⟨_,rfl⟩
  ·unfold qN
   split
   ·split
    ·refine aG ?_ trivial
     split
     ·exact fun k v=>⟨_,rfl⟩
     ·exact trivial
    ·exact trivial
   ·exact trivial
 | extract x j =>
  rcases vs with _ | ⟨v,_ | ⟨v',r⟩⟩ <;> first | exact trivial | skip
  simp only [opL]
  split
  ·split
   ·split <;> first | exact trivial | exact ⟨_,rfl⟩
   ·exact trivial
  ·exact trivial
 | makeFunc fn first cap =>
  cases fn with
  | func f =>
   simp only [opL]
   exact aG (vc fun cs=>⟨_,rfl⟩) trivial
  | _=>exact trivial
 | call c =>
  obtain ⟨callee,args,tys⟩:=c
  cases callee with
  | builtin b=>cases b <;> simp [ap] at h
  | value f=>cases f <;> simp [ap] at h
  | invoke r m=>simp [ap] at h
 | makeInterface t x =>
  rcases vs with _ | ⟨v,_ | ⟨v',r⟩⟩ <;> first | exact trivial | skip
  simp only [opL]
  split
  ·unfold BS
   refine aG ?_ trivial
   split
   ·exact ⟨_,rfl⟩
   ·split
    ·exact fun v=>⟨_,rfl⟩
    ·exact trivial
  ·exact trivial
 | typeAssert x xt t ok =>
  rcases vs with _ | ⟨v,_ | ⟨v',r⟩⟩ <;> cases ok <;> first | exact trivial | skip
  simp only [opL]
  split
  ·unfold uf
   refine aG ?_ trivial
   split
   ·exact fun v=>⟨_,rfl⟩
   ·exact trivial
  ·exact trivial
 | _=>simp [ap] at h
theorem Bc {op:Op} (h:ap op=.R) (vs:List AV):(opL E id look op vs).All ip:=by
 cases op with
 | load t x =>
  rcases vs with _ | ⟨v,_ | ⟨v',r⟩⟩ <;> first | exact trivial | skip
  simp only [opL]
  split
  ·unfold zh
   split
   ·refine aG trivial ?_
    split
    ·exact fun v=>⟨_,rfl⟩
    ·exact trivial
   ·split
    ·split
     ·split
      ·exact ⟨_,rfl⟩
      ·exact trivial
     ·exact trivial
    ·exact trivial
   ·exact vZ
   ·split
    ·refine lj (fun s e=>?_)
     simp only [Prg.All]
     split
     ·exact ⟨_,rfl⟩
     ·exact trivial
    ·exact trivial
   ·exact trivial
  ·exact trivial
 | convert xt dt x =>
  rcases vs with _ | ⟨v,_ | ⟨v',r⟩⟩ <;> first | exact trivial | skip
  simp only [opL]
  split
  ·unfold zF
   split
   ·exact trivial
   ·split
    ·exact fun v=>⟨_,rfl⟩
    ·exact trivial
  ·exact trivial
 | binOp op xt x y yt =>
  rcases vs with _ | ⟨v,_ | ⟨v',_ | ⟨v'',r⟩⟩⟩ <;> first | exact trivial | skip
  simp only [opL]
  split
  ·unfold Ei
   split
   ·split
    ·refine d8 fun cs=>d8 fun cs'=>?_
     split
     ·exact fun v=>⟨_,rfl⟩
     ·exact trivial
    ·exact trivial
   ·unfold Ds
    split
    ·exact ⟨_,rfl⟩
    ·exact ⟨_,rfl⟩
    ·exact trivial
   unfold DS
   refine aG (sP fun x=>sP fun y=>fun v=>⟨_,rfl⟩) ?_
   split
   ·exact fun v=>⟨_,rfl⟩
   ·exact trivial
  ·exact trivial
 | slice t x lo hi mx =>
  have sl:∀ {kd:Kd} {sz:Nat} {x:AV} {lo hi:Option AV},(iT look kd sz x lo hi).All ip:=by
   intro kd sz x lo hi
   unfold iT
   split
   ·exact eW fun lo=>eW fun hi=>fun v=>⟨_,rfl⟩
   ·split
    ·exact fK fun s n=>eW fun lo=>eW fun hi=>⟨_,rfl⟩
    ·split
     ·exact fK fun s=>eW fun hi=>⟨_,rfl⟩
     ·exact fK fun s=>eW fun lo=>eW fun hi=>⟨_,rfl⟩
    ·exact trivial
  cases mx with
  | some m=>rcases vs with _ | ⟨v,r⟩ <;> exact trivial
  | none =>
   rcases vs with _ | ⟨v,r⟩
   ·exact trivial
   ·simp only [opL]
    split
    ·split
     ·split <;> first | exact trivial | exact sl
     ·exact trivial
    ·exact trivial
 | indexAddr t x y =>
  rcases vs with _ | ⟨v,_ | ⟨v',_ | ⟨v'',r⟩⟩⟩ <;> first | exact trivial | skip
  simp only [opL]
  split
  ·unfold oV
   split
   ·split
    ·exact fun v=>⟨_,rfl⟩
    ·split
     ·exact fK fun s n k=>⟨_,rfl⟩
     ·exact fK fun s k=>⟨_,rfl⟩
     ·exact trivial
   ·exact trivial
  ·unfold rb
   split
   ·split
    ·exact aG (fun k=>⟨_,rfl⟩) trivial
    ·exact trivial
   ·exact trivial
 | call c =>
  obtain ⟨callee,args,tys⟩:=c
  cases callee with
  | builtin b =>
   have mn:∀ {mx:Bool} {x y:AV},(xH mx x y).All ip:=by
    intro mx x y
    unfold xH
    split
    ·exact fun v=>⟨_,rfl⟩
    ·exact trivial
   cases b <;> simp [ap] at h
   all_goals simp only [opL]
   all_goals unfold ec
   all_goals split <;> first | exact trivial | exact mn | contradiction | skip
   split
   ·unfold yq
    split
    ·exact ⟨_,rfl⟩
    ·exact sP fun s v=>⟨_,rfl⟩
   ·exact trivial
  | value f=>cases f <;> simp [ap] at h
  | invoke r m=>simp [ap] at h
 | _=>simp [ap] at h
theorem cls_A {op:Op} (h:ap op=.A) (vs:List AV):(opL E id look op vs).All kY:=by
 cases op with
 | alloc t =>
  rcases vs with _ | ⟨v,r⟩ <;> first | exact trivial | skip
  simp only [opL]
  split
  ·exact ⟨_,_,rfl⟩
  ·exact trivial
 | box t x =>
  rcases vs with _ | ⟨v,_ | ⟨v',r⟩⟩ <;> first | exact trivial | skip
  simp only [opL]
  split
  ·exact d8 (fun cs=>⟨_,_,rfl⟩)
  ·exact trivial
 | makeSlice t x y =>
  rcases vs with _ | ⟨v,_ | ⟨v',_ | ⟨v'',r⟩⟩⟩ <;> first | exact trivial | skip
  simp only [opL]
  split
  ·refine aG ?_ trivial
   exact fun n m=>⟨_,_,rfl⟩
  ·exact trivial
 | call c =>
  obtain ⟨callee,args,tys⟩:=c
  cases callee with
  | builtin b=>cases b <;> simp [ap] at h
  | value f=>cases f <;> simp [ap] at h
  | invoke r m=>simp [ap] at h
 | _=>simp [ap] at h
theorem jm {ps:List Prim} {b:BC} {v:AV}:(cS ps b v).plain=true->ip (cS ps b v)\/kY (cS ps b v):=by
 cases ps with
 | nil=>exact fun _=>.inr ⟨_,_,rfl⟩
 | cons q l=>exact fun h=>by cases h
theorem ut {ps:List Prim} {v:AV}:(match ps with | []=>Eff.val v | _=>.gen ps v).plain=true->ip (match ps with | []=>Eff.val v | _=>.gen ps v)\/kY (match ps with | []=>Eff.val v | _=>.gen ps v):=by
 cases ps with
 | nil=>exact fun _=>.inl ⟨_,rfl⟩
 | cons q l=>exact fun h=>by cases h
theorem kU {d:TyD} {x:TV} {k:Out} (h:k.All p):(jt d x k).All p:=by
 unfold jt
 exact aG h h
theorem qc {x:TV} {k:Out} (h:k.All p):∀ (ds:List TyD) (j:Nat),(gu x ds j k).All p
 | [],j=>h
 | d :: ds,j=>kU (qc h ds (j + 1))
theorem sV {ds:List TyD} {v:TV} {ps:List Prim}:(tJ id ds v ps).All fun e=>e.plain=true->ip e\/kY e:=by
 have many:∀ ds:List TyD,(Prg.chk (v.isTup ds.length) (gu v ds 0 (bif gI ds then .ret (cS ps (.tree (bd v ds 0)) (.tups (dO id v ds 0 0)))
   else .ret (match ps with | []=>.val (.tups (dO id v ds 0 0)) | _=>.gen ps (.tups (dO id v ds 0 0)))))).All fun e=>e.plain=true->ip e\/kY e:=by
  intro ds
  refine qc ?_ ds 0
  exact aG jm ut
 match ds with
 | []=>exact many []
 | [d] =>
  simp only [tJ]
  refine kU ?_
  split
  ·exact aG jm ut
  ·exact trivial
 | d :: d' :: l=>exact many _
theorem B4 {ds:List TyD} {v:TV} {k:AV->Out} {p:Eff->Prop} (h:∀ av,(k av).All p):(Ch id ds v k).All p:=by
 have some:∀ (ds:List TyD) (j:Nat) (k:Out),k.All p->(gu v ds j k).All p:=by
  intro ds
  induction ds with
  | nil=>intro j k h; exact h
  | cons d ds ih=>intro j k h; exact kU (ih (j + 1) k h)
 unfold Ch
 split
 ·refine kU ?_
  split
  ·exact h _
  ·exact trivial
 ·exact some _ 0 _ (h _)
theorem AY {f:FuncId} {ld:fw} {vs:List AV}:(nw E id look f ld vs).All fun e=>e.plain=true->ip e\/kY e:=by
 unfold nw
 split
 ·split
  ·refine aG trivial ?_
   exact pw fun xs rs=>d6 fun ys qs ts=>aG (fun v=>B4 fun av=>fun h=>by simp [Eff.plain] at h) trivial
  ·exact trivial
 ·exact trivial
theorem Ax {f:FuncId} {c:Nat × Nat} {vs:List AV}:(nL look f c vs).All fun e=>e.plain=true->ip e\/kY e:=by
 unfold nL
 split
 ·split
  ·split
   ·exact aG (jQ fun xs=>fun v=>fun _=>.inl ⟨_,rfl⟩) trivial
   ·exact trivial
  ·exact trivial
 ·exact trivial
theorem AQ {f:FuncId} {vs:List AV}:(rN look f vs).All fun e=>e.plain=true->ip e\/kY e:=by
 exact trivial
theorem Bz {f:FuncId} {i:Nat} {vs:List AV}:(ww E id look f i vs).All fun e=>e.plain=true->ip e\/kY e:=by
 unfold ww
 refine aG ?_ trivial
 split
 ·split
  ·exact jQ fun xs=>fun v=>sV
  ·exact trivial
 ·exact trivial
theorem cls_B {op:Op} (h:ap op=.B) (vs:List AV):(opL E id look op vs).All fun e=>e.plain=true->ip e\/kY e:=by
 cases op with
 | buildSlice t len parts =>
  simp only [opL]
  refine aG ?_ ?_
  ·exact trivial
  unfold iO
  split
  ·refine sf (fun cs=>?_) _ _ _
   refine d0 fun ys qs ts=>?_
   exact aG jm trivial
  ·exact trivial
 | call c =>
  obtain ⟨callee,args,tys⟩:=c
  cases callee with
  | builtin b=>cases b <;> simp [ap] at h
  | value f =>
   cases f with
   | func f =>
    rcases vs with _ | ⟨v,r⟩
    ·exact trivial
    ·simp only [opL,mI]
     refine aG AQ (aG trivial ?_)
     split
     ·exact Ax
     split
     ·exact AY
     ·split
      ·refine aG ?_ ?_
       ·exact jQ fun xs=>fun v=>sV
       ·exact pw fun xs rs=>aG (fun v=>sV) trivial
      ·exact trivial
   | tmp t =>
    rcases vs with _ | ⟨v,r⟩
    ·exact trivial
    ·simp only [opL]
     split
     ·exact fun f=>jQ fun xs v=>fun _=>.inl ⟨_,rfl⟩
     ·split
      ·exact Bz
      ·exact trivial
   | _=>simp [ap] at h
  | invoke r m=>simp [ap] at h
 | _=>simp [ap] at h
abbrev isUpd (look:Look) (e:Eff):Prop:=∃ i b v,e=.upd i b v/\(look i).isSome=true
theorem CK {op : Op} (h : ap op = .W) (vs : List AV) : (opL E id look op vs).All fun e => e.plain = true → isUpd look e := by
 cases op with
 | store t x y =>
  rcases vs with _ | ⟨v,_ | ⟨v',_ | ⟨v'',r⟩⟩⟩ <;> first | exact trivial | skip
  simp only [opL]
  split
  ·unfold vj
   split
   ·refine aG trivial ?_
    split
    ·rename_i cs xs hrow
     refine d8 (fun ps=>?_)
     split
     ·exact fun _=>⟨_,_,_,rfl,by simp [(jr hrow).1]⟩
     ·exact trivial
    ·exact trivial
   ·refine d8 (fun ps=>?_)
    split
    ·rename_i cs hl
     exact aG (fun _=>⟨_,_,_,rfl,by simp [hl]⟩) trivial
    ·exact trivial
   ·refine d8 (fun ps=>?_)
    split
    ·refine aG trivial (aG ?_ ?_)
     ·refine d6 fun ys qs ts=>aG ?_ trivial
      exact lj fun s e=>fun x' hp=>by cases hp
     ·refine d6 fun ys qs ts=>?_
      split
      ·refine aG ?_ trivial
       refine lj fun s e=>?_
       simp only [Prg.All]
       intro x'
       split
       ·rename_i b hb
        refine fun _=>⟨_,_,_,rfl,?_⟩
        unfold cr at hb
        split at hb
        ·rename_i hl; simp [hl]
        ·cases hb
       ·exact trivial
      ·exact trivial
    ·exact trivial
   ·exact trivial
  ·exact trivial
 | call c =>
  obtain ⟨callee,args,tys⟩:=c
  cases callee with
  | builtin b=>cases b <;> simp [ap] at h
  | value f=>cases f <;> simp [ap] at h
  | invoke r m=>simp [ap] at h
 | _=>simp [ap] at h
theorem wh {d:TyD} {s:AV} {news:List (List TV)} {ps:List Prim}:(oG id look d s news ps).All fun e=>e.plain=true->ip e\/kY e:=by
 unfold oG
 split
 ·exact aG (fun y=>jm) trivial
 ·split
  ·split
   ·split
    ·exact fun y h=>by cases h
    ·exact fun z y x' h=>by cases h
   ·exact trivial
  ·split
   ·split
    ·exact fun z y h=>by cases h
    ·exact fun z0 z y x' h=>by cases h
   ·exact trivial
  ·exact trivial
theorem BV {d:TyD} {dest:Option Nat} {x:AV} {k:List (List TV)->List Prim->Out} (h:∀ xs ps,(k xs ps).All p):(wA look d dest x k).All p:=by
 unfold wA
 split
 ·exact fun xs=>h _ _
 ·split
  ·refine aG ?_ ?_
   ·split
    ·split
     ·split
      ·exact aG trivial (fun xs=>h _ _)
      ·exact fun y=>fun xs=>h _ _
     ·exact trivial
    ·split
     ·split
      ·exact aG trivial (fun y xs=>h _ _)
      ·exact fun z y=>fun xs=>h _ _
     ·exact trivial
    ·exact trivial
   ·exact fK (fun s xs=>h _ _)
  ·exact trivial
theorem cls_P {op:Op} (h:ap op=.P) (vs:List AV):(opL E id look op vs).All fun e=>e.plain=true->ip e\/kY e:=by
 cases op with
 | call c =>
  obtain ⟨callee,args,tys⟩:=c
  cases callee with
  | builtin b =>
   cases b <;> simp [ap] at h
   simp only [opL]
   unfold ec
   split <;> try (first | exact trivial | contradiction)
   split
   ·refine aG ?_ ?_
    ·unfold nu
     exact aG (BV (fun xs ps=>wh)) trivial
    ·split
     ·exact trivial
     ·exact trivial
   ·exact trivial
  | value f=>cases f <;> simp [ap] at h
  | invoke r m=>simp [ap] at h
 | _=>simp [ap] at h
theorem uK {op:Op} (h:ap op=.N\/ap op=.A) (vs:List AV):opL E id look op vs=opL E id look' op vs:=by
 cases op <;> first
  | (rcases vs with _ | ⟨a,_ | ⟨b,_ | ⟨c,_ | ⟨d,r⟩⟩⟩⟩ <;> rfl)
  | (simp [ap] at h; done)
  | (rename_i fn _ _; cases fn <;> rfl)
  | (rename_i ok; cases ok <;> rcases vs with _ | ⟨a,_ | ⟨b,r⟩⟩ <;> rfl)
  | skip
 all_goals
  rename_i c
  obtain ⟨callee,args,tys⟩:=c
  cases callee with
  | builtin b=>cases b <;> simp [ap] at h
  | value f=>cases f <;> simp [ap] at h
  | invoke r m=>simp [ap] at h
end
end Go.Ab
end

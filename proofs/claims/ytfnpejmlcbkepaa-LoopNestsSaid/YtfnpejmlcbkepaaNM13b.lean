import Derived.Test.YtfnpejmlcbkepaaNM12b
set_option linter.all false
section
namespace Go.Ab
open Go.RowKit
structure gw (P:Program) (G:Laid) (E:Env) (C:Cal):Prop where
 ty:∀ t d,E.T t=some d->aT P t d
 call:wR P G E C
section
variable {P:Program} {E:Env} {C:Cal} {w0:Bs} {w w':World} {I0 I R:Nat->Prop} {g g':Gh} {st st':ASt} {a:Act} {ov:List Value} {look:Look} {Q:Exit->Act->World->Prop} {id:Nat}
theorem Co (hE:gw P w0.G E C) (hlk:∀ i b,look i=some b->st.look i=some b) (hs:ak w0 I0 NoR g st a ov w) {o:Oper} {e:Eff} (hh:(opL E (st.nid o.dst) look o.op (o.op.operands.toList.map st.ev)).hits C e) (ha:e.app st o.dst=some st') :
  Good P w0 I0 ov o st' a w Q:=by
 obtain ⟨dst,op,type,pos,after,guard⟩:=o
 cases op with
 | move x=>exact Ed hs hh ha
 | assign x=>exact A2 hs hh ha
 | pick c x y=>exact Dw hs hh ha
 | alloc t=>exact Dg hE.ty hs hh ha
 | box t x=>exact op_box hE.ty hs hh ha
 | build t parts=>exact Bz hE.ty hs hh ha
 | makeFunc fn first cap=>exact xC hs hh ha
 | buildSlice t len parts =>
  simp only [opL] at hh
  cases hc:E.cold t && !(len.beq 0) with
  | true=>rw [hc] at hh; exact DB hE.ty hlk hs hh ha
  | false=>rw [hc] at hh; exact tE hE.ty hlk hs hh ha
 | load t x=>exact Dv hE.ty hlk hs hh ha
 | store t x y=>exact Dc hE.ty hlk hs hh ha
 | nilCheck x=>exact wt hs hh ha
 | binOp op xt x y yt=>exact op_bin hE.ty hlk hs hh ha
 | unOp op xt x=>exact op_un hs hh ha
 | convert xt dt x=>exact yy hE.ty hlk hs hh ha
 | makeSlice t x y=>exact vq hE.ty hs hh ha
 | makeInterface t x=>exact op_ifc hE.ty hs hh ha
 | typeAssert x xt t ok=>exact DK hE.ty hs hh ha
 | slice t x lo hi mx=>exact Bo hE.ty hlk hs hh ha
 | fieldAddr t x f=>exact vz hE.ty hs hh ha
 | field t x f=>exact C6 hE.ty hs hh ha
 | indexAddr t x y=>exact vr hE.ty hlk hs hh ha
 | index t x y=>exact CN hE.ty hs hh ha
 | extract x j=>exact yJ hs hh ha
 | call c =>
  obtain ⟨callee,args,tys⟩:=c
  cases callee with
  | builtin b =>
   have hops:(Op.call ⟨.builtin b,args,tys⟩).operands.toList=args.toList:=by simp [Op.operands,Call.operands]
   simp only [hops] at hh
   simp only [opL] at hh
   unfold d0 at hh
   split at hh
   ·rename_i x ty hargs htys
    obtain ⟨ox,rfl,hox⟩:=list1 hargs
    have:=arr1 htys
    subst this
    split at hh
    ·rename_i d hT
     rw [<- hox] at hh
     exact yC hlk hs (hE.ty _ _ hT) hh ha
    ·exact hh.elim
   ·rename_i s x ty ty' hargs htys
    obtain ⟨os,ox,rfl,hos,hox⟩:=list2 hargs
    have:=arr2 htys
    subst this
    split at hh
    ·rename_i e1 d hel
     cases hb:Nat.beq ty ty' with
     | false =>
      simp only [hb,cond_false] at hh
      split at hh
      ·rename_i hu
       exact hh.elim
      ·exact hh.elim
     | true =>
      simp only [hb,cond_true] at hh
      have:=(aq _ _).1 hb
      subst this
      rw [<- hos,<- hox] at hh
      exact tM hE.ty hlk hs hel hh ha
    ·exact hh.elim
   ·rename_i s x ty ty' hargs htys
    obtain ⟨os,ox,rfl,hos,hox⟩:=list2 hargs
    have:=arr2 htys
    subst this
    split at hh
    ·rename_i e1 d hel
     cases hb:Nat.beq ty ty' with
     | false=>simp [hb,Prg.hits] at hh
     | true =>
      simp only [hb,cond_true] at hh
      have:=(aq _ _).1 hb
      subst this
      rw [<- hos,<- hox] at hh
      exact xA hE.ty hlk hs hel hh ha
    ·exact hh.elim
   ·rename_i s ty hargs htys
    obtain ⟨os,rfl,hos⟩:=list1 hargs
    have:=arr1 htys
    subst this
    split at hh
    ·rename_i e1 d hel
     rw [<- hos] at hh
     exact vG hE.ty hlk hs hel hh ha
    ·exact hh.elim
   ·rename_i x y hargs
    obtain ⟨ox,oy,rfl,hox,hoy⟩:=list2 hargs
    rw [<- hox,<- hoy] at hh
    exact sv hs hh ha
   ·rename_i x y hargs
    obtain ⟨ox,oy,rfl,hox,hoy⟩:=list2 hargs
    rw [<- hox,<- hoy] at hh
    exact sv hs hh ha
   ·exact hh.elim
  | value f =>
   cases f with
   | func f =>
    have hops:(Op.call ⟨.value (.func f),args,tys⟩).operands.toList=.func f :: args.toList:=by simp [Op.operands,Call.operands]
    simp only [hops,List.map_cons] at hh
    exact DR hE.call hE.ty hlk hs hh ha
   | tmp t =>
    have hops:(Op.call ⟨.value (.tmp t),args,tys⟩).operands.toList=.tmp t :: args.toList:=by simp [Op.operands,Call.operands]
    simp only [hops,List.map_cons] at hh
    exact op_dyn hE.call hE.ty hlk hs hh ha
   | _=>simp [opL,Prg.hits] at hh
  | invoke r m=>simp [opL,Prg.hits] at hh
 | _=>simp [opL,Prg.hits] at hh
def AV.nf:AV->AV
 | .one (.t (.lit (.bool b)))=>.bl b
 | .tv (.lit (.bool b))=>.bl b
 | v=>v
def Eff.nfE:Eff->Eff
 | .val v=>.val v.nf
 | .new b v=>.new b v.nf
 | .upd i b v=>.upd i b v.nf
 | .gen ps v=>.gen ps v.nf
def ASt.nfS (st:ASt):ASt:=⟨st.slots.map AV.nf,st.boxes,st.out⟩
theorem aF (v:AV):v.nf=v\/∃ b,v.nf=.bl b/\(v=.one (.t (.lit (.bool b)))\/v=.tv (.lit (.bool b))):=by
 unfold AV.nf
 split
 ·exact .inr ⟨_,rfl,.inl rfl⟩
 ·exact .inr ⟨_,rfl,.inr rfl⟩
 ·exact .inl rfl
theorem uP (v:AV):v.nf.nf=v.nf:=by
 rcases aF v with h | ⟨b,h,_⟩
 ·rw [h,h]
 ·rw [h]; rfl
theorem ik (v:AV):v.nf.tv? = v.tv? := by
 rcases aF v with h | ⟨b,h,rfl | rfl⟩
 ·rw [h]
 ·rfl
 ·rfl
theorem CI {v:AV} {u:Value}:bF w g look v.nf u ↔ bF w g look v u:=by
 rcases aF v with h | ⟨b,h,rfl | rfl⟩
 ·rw [h]
 ·rw [h]
  constructor
  ·intro h'
   have:u=.bool b:=h'
   subst this
   exact ⟨.lit _,rfl⟩
  ·intro h'
   exact bB h'.1
 ·rw [h]
  constructor
  ·intro h'
   have:u=.bool b:=h'
   subst this
   exact .lit _
  ·intro h'
   exact bB h'
theorem lZ (v:AV):v.nf.dS=v.dS:=by
 rcases aF v with h | ⟨b,h,rfl | rfl⟩
 ·rw [h]
 ·rw [h]; rfl
 ·rw [h]; rfl
theorem cb (e:Eff):dv e.nfE=dv e:=by cases e <;> simp only [Eff.nfE,dv,lZ]
theorem nS (e:Eff):e.nfE.plain=e.plain:=by cases e <;> rfl
theorem xP (base:Nat) (own:List (List Nat × List Nat)) (e:Eff):e.nfE.mP base own=e.mP base own:=by cases e <;> rfl
theorem xv {S:Type} {agg:Bool} {n:Nat} {v:AV} {k k':List CA->Prg S} {e:S} (hk:∀ cs,(k cs).hits C e->(k' cs).hits C e) (h:(v.aW agg n k).hits C e):(v.aW agg n k').hits C e:=by
 unfold AV.aW at h ⊢
 split at h
 ·rename_i c
  cases hc:c.kept with
  | true=>rw [hc] at h; exact hk _ h
  | false=>rw [hc] at h; exact h.elim
 ·exact ⟨h.1,hk _ h.2⟩
 ·exact hk _ h
 ·exact hk _ h
 ·rename_i cs
  cases hc:cs.length.beq n with
  | true=>rw [hc] at h; exact hk _ h
  | false=>rw [hc] at h; exact h.elim
 ·exact ⟨h.1,hk _ h.2⟩
 ·exact h.elim
theorem fq {S:Type} {agg:Bool} {n:Nat} {v:AV} {k:List CA->Prg S} {e:S} (h:(v.aW agg n k).hits C e):(v.nf.aW agg n k).hits C e:=by
 rcases aF v with h1 | ⟨b,h1,rfl | rfl⟩
 ·rwa [h1]
 ·rw [h1]
  cases agg with
  | false=>exact h
  | true=>exact h.elim
 ·rw [h1]
  cases agg with
  | false=>exact h.2
  | true=>exact (by simp [AV.aW,TV.isAgg,Prg.hits] at h)
theorem lQ {S:Type} {e:S}:∀ {vs:List AV} {k:List CA->Prg S},(kt vs k).hits C e->(kt (vs.map AV.nf) k).hits C e
 | [],k,h=>h
 | x :: vs, k, h => by
  simp only [kt,List.map_cons] at h ⊢
  refine fq ?_
  unfold AV.aW at h ⊢
  split at h
  ·rename_i c _
   cases hc:c.kept with
   | false=>simp [hc,Prg.hits] at h
   | true=>simp only [hc,cond_true] at h ⊢; exact lQ h
  ·exact ⟨h.1,lQ h.2⟩
  ·exact lQ h
  ·exact lQ h
  ·rename_i cs' hb; cases hb
  ·rename_i cs' hb; cases hb
  ·exact h.elim
theorem j0 {f:FuncId} {e:Eff}:∀ {vs:List AV} {k:List CA->List CA},(kt vs fun cs=>(.ret (.val (.clo f (k cs))):Out)).hits C e->∃ cs,e=.val (.clo f cs)
 | [],k,h=>⟨_,h.symm⟩
 | x :: vs, k, h => by
  simp only [kt] at h
  unfold AV.aW at h
  split at h
  ·rename_i c _
   cases hc:c.kept with
   | false=>simp [hc,Prg.hits] at h
   | true=>simp only [hc,cond_true] at h; exact j0 (k:=fun cs=>k (_ ++ cs)) h
  ·exact j0 (k:=fun cs=>k (_ ++ cs)) h.2
  ·exact j0 (k:=fun cs=>k (_ ++ cs)) h
  ·exact j0 (k:=fun cs=>k (_ ++ cs)) h
  ·rename_i hb; cases hb
  ·rename_i hb; cases hb
  ·exact h.elim
theorem vd {S:Type} {at_:Nat->Option (Nat × Bool × Nat)} {k:List CA->Prg S} {e:S}:∀ {is:List Nat} {vs:List AV} {cs:List CA},(bY at_ is vs cs k).hits C e->(bY at_ is (vs.map AV.nf) cs k).hits C e
 | [],[],cs,h=>h
 | i :: is, x :: vs, cs, h => by
  simp only [bY,List.map_cons] at h ⊢
  split at h
  ·rename_i off agg n hat
   have key:∀ ps,((bif (off + ps.length).ble cs.length && ps.length.beq n then bY at_ is vs (bW cs off ps) k else .fail):Prg S).hits C e->((bif (off + ps.length).ble cs.length && ps.length.beq n then bY at_ is (vs.map AV.nf) (bW cs off ps) k else .fail):Prg S).hits C e:=by
    intro ps hp
    cases hb:(off + ps.length).ble cs.length && ps.length.beq n with
    | false=>simp [hb,Prg.hits] at hp
    | true=>simp only [hb,cond_true] at hp ⊢; exact vd hp
   refine fq ?_
   unfold AV.aW at h ⊢
   split at h
   ·rename_i c
    cases hc:c.kept with
    | false=>simp [hc,Prg.hits] at h
    | true=>simp only [hc,cond_true] at h ⊢; exact key _ h
   ·exact ⟨h.1,key _ h.2⟩
   ·exact key _ h
   ·exact key _ h
   ·rename_i cs'
    have:=key cs'
    cases hc:cs'.length.beq n with
    | false=>simp [hc,Prg.hits] at h
    | true=>simp only [hc,cond_true] at h this ⊢; exact this h
   ·exact ⟨h.1,key _ h.2⟩
   ·exact h.elim
  ·exact h.elim
 | [],_ :: _,cs,h=>h.elim
 | _ :: _,[],cs,h=>h.elim
theorem ve {S:Type} {v:AV} {k:TV->Prg S}:vD look v.nf k=vD look v k:=by
 rcases aF v with h | ⟨b,h,rfl | rfl⟩
 ·rw [h]
 ·rfl
 ·rfl
theorem CC {S:Type} {v:AV} {k:TV->Prg S}:rt look v.nf k=rt look v k:=by
 rcases aF v with h | ⟨b,h,rfl | rfl⟩
 ·rw [h]
 ·rfl
 ·rfl
theorem Di {S:Type} {v:AV} {k:TV->List (Nat × Nat)->Prg S}:rJ look v.nf k=rJ look v k:=by
 rcases aF v with h | ⟨b,h,rfl | rfl⟩
 ·rw [h]
 ·rfl
 ·rfl
theorem lp {S:Type}:∀ {vs:List AV} {k:List TV->Prg S},lends look (vs.map AV.nf) k=lends look vs k
 | [],k=>rfl
 | v :: vs,k=>by simp only [List.map_cons,lends,CC,lp]
theorem s9 {S:Type}:∀ {vs:List AV} {k:List TV->List (Nat × Nat)->Prg S},hands look (vs.map AV.nf) k=hands look vs k
 | [],k=>rfl
 | v :: vs,k=>by simp only [List.map_cons,hands,Di,s9]
theorem Dd {E:Env} {id:Nat} {look:Look} {f:FuncId} {ld:fh} (vs:List AV):nK E id look f ld (vs.map AV.nf)=nK E id look f ld vs:=by
 cases vs with
 | nil=>rfl
 | cons v l =>
  rcases aF v with h | ⟨b,h,rfl | rfl⟩
  ·simp only [List.map_cons,h]
   cases v with
   | one c =>
    cases c with
    | ptr i off =>
     cases off with
     | zero=>simp only [nK,s9]
     | succ n=>rfl
    | _=>rfl
   | _=>rfl
  ·simp only [List.map_cons,h]; rfl
  ·simp only [List.map_cons,h]; rfl
theorem CV {look:Look} {f:FuncId} {c:Nat × Nat} (vs:List AV):ot look f c (vs.map AV.nf)=ot look f c vs:=by
 cases vs with
 | nil=>rfl
 | cons v l =>
  rcases aF v with h | ⟨b,h,rfl | rfl⟩
  ·simp only [List.map_cons,h]
   cases v with
   | one c =>
    cases c with
    | ptr i off =>
     cases off with
     | zero=>simp only [ot,lp]
     | succ n=>rfl
    | _=>rfl
   | _=>rfl
  ·simp only [List.map_cons,h]; rfl
  ·simp only [List.map_cons,h]; rfl
theorem CY {look:Look} {f:FuncId} (vs:List AV):tB look f (vs.map AV.nf)=tB look f vs:=by
 rfl
theorem DE {E:Env} {id:Nat} {look:Look} {f:FuncId} {i:Nat} (vs:List AV):xB E id look f i (vs.map AV.nf)=xB E id look f i vs:=by
 simp only [xB,lp]
theorem DX (d:TyD) (t:TypeId) (v:AV):Cd d t v.nf=Cd d t v:=by
 rcases aF v with h | ⟨b,h,rfl | rfl⟩
 ·rw [h]
 ·rfl
 ·rfl
theorem Bp (d:TyD) (t:TypeId) (v:AV):ud d t v.nf=ud d t v:=by
 simp only [ud,ik]
theorem Bb {S:Type} {v:Option AV} {k:Option Nat->Prg S}:fH (v.map AV.nf) k=fH v k:=by
 cases v with
 | none=>rfl
 | some v=>simp only [fH,E3,ik]
theorem uK (v:AV):rH v.nf=rH v:=by
 rcases aF v with h | ⟨b,h,rfl | rfl⟩
 ·rw [h]
 ·rfl
 ·rfl
theorem zn {S:Type} {d:TyD} {dest:Option Nat} {v:AV} {k:List (List TV)->List Prim->Prg S}:wi look d dest v.nf k=wi look d dest v k:=by
 rcases aF v with h | ⟨b,h,rfl | rfl⟩
 ·rw [h]
 ·rfl
 ·rfl
theorem mw {kd:Kd} {sz:Nat} {x:AV} {lo hi:Option AV}:iR look kd sz x.nf (lo.map AV.nf) (hi.map AV.nf)=iR look kd sz x lo hi:=by
 simp only [iR,ik,Bb]
 rcases aF x with h | ⟨b,h,rfl | rfl⟩
 ·rw [h]
  cases lo <;> rfl
 ·rfl
 ·rfl
theorem CS (v:AV):uq v.nf=uq v:=by
 rcases aF v with h | ⟨b,h,rfl | rfl⟩
 ·rw [h]
 ·rfl
 ·rfl
theorem opL_nf {op : Op} {vs : List AV} {e : Eff} (h : (opL E id look op vs).hits C e) : ∃ e', (opL E id look op (vs.map AV.nf)).hits C e' ∧ e'.nfE = e.nfE := by
 cases op with
 | move x =>
  rcases vs with _ | ⟨v,_ | ⟨v',r⟩⟩ <;> first | exact h.elim | skip
  cases h
  exact ⟨_,rfl,by simp [Eff.nfE,uP]⟩
 | assign x =>
  rcases vs with _ | ⟨v,_ | ⟨v',r⟩⟩ <;> first | exact h.elim | skip
  cases h
  exact ⟨_,rfl,by simp [Eff.nfE,uP]⟩
 | pick c x y =>
  rcases vs with _ | ⟨v,_ | ⟨v',_ | ⟨v'',_ | ⟨v3,r⟩⟩⟩⟩ <;> first | exact h.elim | skip
  simp only [opL] at h
  split at h
  ·rename_i b
   cases h
   refine ⟨_,rfl,?_⟩
   cases b <;> simp [Eff.nfE,uP]
  ·rename_i v
   obtain ⟨b,hb,h⟩:=h
   have hv:v=.lit (.bool b):=by
    unfold asBool at hb
    split at hb
    ·cases hb; rfl
    ·cases hb
   subst hv
   rcases h with ⟨rfl,h⟩ | ⟨rfl,h⟩ <;> (cases h; exact ⟨_,rfl,by simp [Eff.nfE,uP]⟩)
  ·rename_i v
   obtain ⟨b,hb,h⟩:=h
   have hv:v=.lit (.bool b):=by
    unfold asBool at hb
    split at hb
    ·cases hb; rfl
    ·cases hb
   subst hv
   rcases h with ⟨rfl,h⟩ | ⟨rfl,h⟩ <;> (cases h; exact ⟨_,rfl,by simp [Eff.nfE,uP]⟩)
  ·exact h.elim
 | alloc t =>
  rcases vs with _ | ⟨v,r⟩ <;> first | exact h.elim | exact ⟨e,h,rfl⟩
 | box t x =>
  rcases vs with _ | ⟨v,_ | ⟨v',r⟩⟩ <;> first | exact h.elim | skip
  refine ⟨e,?_,rfl⟩
  simp only [opL,List.map_cons,List.map_nil] at h ⊢
  split at h
  ·exact fq h
  ·exact h.elim
 | makeFunc fn first cap =>
  cases fn with
  | func f =>
   have:∃ cs,e=.val (.clo f cs):=by
    simp only [opL] at h
    cases hb:first.size.beq 0 with
    | false=>simp [hb,Prg.hits] at h
    | true =>
     simp only [hb,cond_true] at h
     exact j0 (k:=fun l=>l) h
   obtain ⟨cs,rfl⟩:=this
   refine ⟨_,?_,rfl⟩
   simp only [opL] at h ⊢
   cases hb:first.size.beq 0 with
   | false=>simp [hb,Prg.hits] at h
   | true=>simp only [hb,cond_true] at h ⊢; exact lQ h
  | _=>exact h.elim
 | build t parts =>
  refine ⟨e,?_,rfl⟩
  simp only [opL] at h ⊢
  split at h
  ·rename_i d hd
   cases hb:lk E.T d.kd with
   | false=>simp [hb,Prg.hits] at h
   | true=>simp only [hb,cond_true] at h ⊢; exact vd h
  ·exact h.elim
 | buildSlice t len parts =>
  refine ⟨e,?_,rfl⟩
  simp only [opL] at h ⊢
  cases hc:E.cold t && !(len.beq 0) with
  | true =>
   rw [hc] at h
   simp only [cond_true] at h ⊢
   exact h.elim
  | false =>
   rw [hc] at h
   simp only [cond_false] at h ⊢
   unfold iX at h ⊢
   split at h
   ·exact vd h
   ·exact h.elim
 | load t x =>
  rcases vs with _ | ⟨v,_ | ⟨v',r⟩⟩ <;> first | exact h.elim | skip
  refine ⟨e,?_,rfl⟩
  rcases aF v with h1 | ⟨b,h1,rfl | rfl⟩
  ·simpa only [List.map_cons,List.map_nil,h1] using h
  ·simp only [opL] at h; split at h <;> exact h.elim
  ·simp only [opL] at h; split at h <;> exact h.elim
 | store t x y =>
  rcases vs with _ | ⟨v,_ | ⟨v',_ | ⟨v'',r⟩⟩⟩ <;> first | exact h.elim | skip
  refine ⟨e,?_,rfl⟩
  simp only [opL,List.map_cons,List.map_nil] at h ⊢
  split at h
  ·rcases aF v with h1 | ⟨b,h1,rfl | rfl⟩
   ·rw [h1]
    unfold vK at h ⊢
    split at h
    ·rename_i e0 _ _ i0 off0 len0 n0
     cases hk0:e0.kd.isAgg with
     | true=>rw [hk0] at h; exact h.elim
     | false =>
      rw [hk0] at h
      simp only [cond_false] at h ⊢
      split at h
      ·exact fq h
      ·exact h.elim
    ·exact fq h
    ·exact fq h
    ·exact h.elim
   ·exact h.elim
   ·exact h.elim
  ·exact h.elim
 | nilCheck x =>
  rcases vs with _ | ⟨v,_ | ⟨v',r⟩⟩ <;> first | exact h.elim | skip
  refine ⟨e,?_,rfl⟩
  rcases aF v with h1 | ⟨b,h1,rfl | rfl⟩
  ·simpa only [List.map_cons,List.map_nil,h1] using h
  ·exact h.elim
  ·exact h.elim
 | binOp op xt x y yt =>
  rcases vs with _ | ⟨v,_ | ⟨v',_ | ⟨v'',r⟩⟩⟩ <;> first | exact h.elim | skip
  refine ⟨e,?_,rfl⟩
  simp only [opL,List.map_cons,List.map_nil] at h ⊢
  split at h
  ·unfold Ej at h ⊢
   split at h
   ·split at h
    ·exact fq (xv (fun cs h=>fq h) h)
    ·exact h.elim
   ·simp only [DD,CS] at h ⊢
    exact h
   ·simp only [D5,ve,ik] at h ⊢
    exact h
  ·exact h.elim
 | unOp op xt x =>
  rcases vs with _ | ⟨v,_ | ⟨v',r⟩⟩ <;> first | exact h.elim | skip
  rcases aF v with h1 | ⟨b,h1,h2⟩
  ·refine ⟨e,?_,rfl⟩
   simpa only [List.map_cons,List.map_nil,h1] using h
  ·have hv:∃ t,(opL E id look (.unOp op xt x) [v]).hits C e->(Prg.tv (pun op (.lit (.bool b))) vt).hits C e:=⟨(),by rcases h2 with rfl | rfl <;> intro h <;> cases op <;> exact h⟩
   obtain ⟨_,hv⟩:=hv
   obtain ⟨z,hz,hh⟩:=hv h
   cases op with
   | not =>
    simp only [pun,ES] at hz
    subst hz
    cases hh
    refine ⟨.val (.bl !b),?_,rfl⟩
    simp only [List.map_cons,List.map_nil,h1]
    rfl
   | _=>simp [pun] at hz
 | convert xt dt x =>
  rcases vs with _ | ⟨v,_ | ⟨v',r⟩⟩ <;> first | exact h.elim | skip
  refine ⟨e,?_,rfl⟩
  simp only [opL,List.map_cons,List.map_nil,zA,ik,ve] at h ⊢
  exact h
 | makeSlice t x y =>
  rcases vs with _ | ⟨v,_ | ⟨v',_ | ⟨v'',r⟩⟩⟩ <;> first | exact h.elim | skip
  refine ⟨e,?_,rfl⟩
  simp only [opL,List.map_cons,List.map_nil,ik] at h ⊢
  exact h
 | slice t x lo hi mx =>
  refine ⟨e,?_,rfl⟩
  cases mx with
  | some m=>rcases vs with _ | ⟨v,r⟩ <;> exact h.elim
  | none =>
   rcases vs with _ | ⟨v,r⟩
   ·exact h.elim
   ·simp only [opL, List.map_cons] at h ⊢
    split at h
    ·rename_i d hT
     split at h
     ·rename_i sz hsz
      cases lo with
      | none =>
       cases hi with
       | none =>
        rcases r with _ | ⟨l,r⟩
        ·have:=mw (look:=look) (kd:=d.kd) (sz:=sz) (x:=v) (lo:=none) (hi:=none)
         simp only [Option.map_none] at this
         simp only [List.map_nil]
         rw [this]; exact h
        ·exact h.elim
       | some hh =>
        rcases r with _ | ⟨l,_ | ⟨l',r⟩⟩
        ·exact h.elim
        ·have:=mw (look:=look) (kd:=d.kd) (sz:=sz) (x:=v) (lo:=none) (hi:=some l)
         simp only [Option.map_none,E3] at this
         simp only [List.map_cons,List.map_nil]
         rw [this]; exact h
        ·exact h.elim
      | some ll =>
       cases hi with
       | none =>
        rcases r with _ | ⟨l,_ | ⟨l',r⟩⟩
        ·exact h.elim
        ·have:=mw (look:=look) (kd:=d.kd) (sz:=sz) (x:=v) (lo:=some l) (hi:=none)
         simp only [Option.map_none,E3] at this
         simp only [List.map_cons,List.map_nil]
         rw [this]; exact h
        ·exact h.elim
       | some hh =>
        rcases r with _ | ⟨l,_ | ⟨l',_ | ⟨l'',r⟩⟩⟩
        ·exact h.elim
        ·exact h.elim
        ·have:=mw (look:=look) (kd:=d.kd) (sz:=sz) (x:=v) (lo:=some l) (hi:=some l')
         simp only [E3] at this
         simp only [List.map_cons,List.map_nil]
         rw [this]; exact h
        ·exact h.elim
     ·exact h.elim
    ·exact h.elim
 | fieldAddr t x f =>
  rcases vs with _ | ⟨v,_ | ⟨v',r⟩⟩ <;> first | exact h.elim | skip
  refine ⟨e,?_,rfl⟩
  rcases aF v with h1 | ⟨b,h1,rfl | rfl⟩
  ·simpa only [List.map_cons,List.map_nil,h1] using h
  ·simp only [opL] at h
   split at h
   ·rename_i hv
    cases hv
    split at h
    ·rename_i n _ _
     cases hb:Nat.blt 0 n <;> simp [hb,CA.add,Prg.hits] at h
    ·exact h.elim
   ·exact h.elim
  ·simp only [opL] at h
   split at h
   ·rename_i hv; cases hv
   ·exact h.elim
 | field t x f =>
  rcases vs with _ | ⟨v,_ | ⟨v',r⟩⟩ <;> first | exact h.elim | skip
  refine ⟨e,?_,rfl⟩
  rcases aF v with h1 | ⟨b,h1,rfl | rfl⟩
  ·simpa only [List.map_cons,List.map_nil,h1] using h
  ·simp only [opL] at h
   split at h
   ·split at h <;> exact h.elim
   ·exact h.elim
  ·simp only [opL] at h
   split at h
   ·split at h
    ·simp [vp,TV.isAgg,Prg.hits] at h
    ·exact h.elim
   ·exact h.elim
 | indexAddr t x y =>
  rcases vs with _ | ⟨v,_ | ⟨v',_ | ⟨v'',r⟩⟩⟩ <;> first | exact h.elim | skip
  refine ⟨e,?_,rfl⟩
  simp only [opL,List.map_cons,List.map_nil] at h ⊢
  split at h
  ·rcases aF v with h1 | ⟨b,h1,rfl | rfl⟩
   ·simp only [h1,pb,ik] at h ⊢; exact h
   ·simp only [pb,ik] at h ⊢; exact h
   ·simp only [pb,ik] at h ⊢; exact h
  ·unfold qS at h ⊢
   rw [ik]
   rcases aF v with h1 | ⟨b,h1,rfl | rfl⟩
   ·rw [h1]; exact h
   ·split at h
    ·split at h <;> first | exact h.elim | (rename_i hx _; cases hx)
    ·exact h.elim
   ·split at h
    ·split at h <;> first | exact h.elim | (rename_i hx _; cases hx)
    ·exact h.elim
 | index t x y =>
  rcases vs with _ | ⟨v,_ | ⟨v',_ | ⟨v'',r⟩⟩⟩ <;> first | exact h.elim | skip
  refine ⟨e,?_,rfl⟩
  simp only [opL,List.map_cons,List.map_nil,ik] at h ⊢
  split at h
  ·exact h
  ·unfold qR at h ⊢
   rw [ik]
   rcases aF v with h1 | ⟨b,h1,rfl | rfl⟩
   ·rw [h1]; exact h
   ·split at h
    ·split at h <;> first | exact h.elim | (rename_i hx _; cases hx)
    ·exact h.elim
   ·split at h
    ·split at h <;> first | exact h.elim | (rename_i hx _; cases hx)
    ·exact h.elim
 | extract x j =>
  rcases vs with _ | ⟨v,_ | ⟨v',r⟩⟩ <;> first | exact h.elim | skip
  refine ⟨e,?_,rfl⟩
  rcases aF v with h1 | ⟨b,h1,rfl | rfl⟩
  ·simpa only [List.map_cons,List.map_nil,h1] using h
  ·exact h.elim
  ·exact h.elim
 | call c =>
  refine ⟨e,?_,rfl⟩
  obtain ⟨callee,args,tys⟩:=c
  cases callee with
  | builtin b =>
   simp only [opL] at h ⊢
   unfold d0 at h
   split at h
   ·rename_i x ty htys
    simp only [htys,d0,List.map_cons,List.map_nil]
    split at h
    ·rename_i d hd
     have key:∀ kd,(yR look kd x).hits C e->(yR look kd x.nf).hits C e:=by intro kd; cases kd <;> simp only [yR,ve] <;> exact fun h=>h
     exact key _ h
    ·exact h.elim
   ·rename_i s x ty ty' htys
    simp only [htys,d0,List.map_cons,List.map_nil]
    split at h
    ·rename_i _ d hel
     cases hb:Nat.beq ty ty' with
     | false =>
      simp only [hb,cond_false] at h ⊢
      split at h
      ·rename_i hu
       exact h.elim
      ·exact h.elim
     | true =>
      simp only [hb,cond_true] at h ⊢
      unfold oA at h ⊢
      rw [zn,uK]
      rcases aF s with h1 | ⟨b,h1,rfl | rfl⟩
      ·rw [h1]; exact h
      ·exact h
      ·exact h
    ·exact h.elim
   ·rename_i s x ty ty' htys
    simp only [htys,d0,List.map_cons,List.map_nil]
    split at h
    ·rename_i _ d hel
     cases hb:Nat.beq ty ty' with
     | false=>simp [hb,Prg.hits] at h
     | true =>
      simp only [hb,cond_true] at h ⊢
      unfold zR at h ⊢
      rw [zn,uK]
      rcases aF s with h1 | ⟨b,h1,rfl | rfl⟩
      ·rw [h1]; exact h
      ·exact h
      ·exact h
    ·exact h.elim
   ·rename_i s ty htys
    simp only [htys,d0,List.map_cons,List.map_nil]
    split at h
    ·unfold vX at h ⊢
     rcases aF s with h1 | ⟨b,h1,rfl | rfl⟩
     ·rw [h1]; exact h
     ·exfalso
      revert h
      cases Nat.blt 0 _ <;> exact fun h=>h.elim
     ·exfalso
      revert h
      cases Nat.blt 0 _ <;> exact fun h=>h.elim
    ·exact h.elim
   ·simp only [d0,List.map_cons,List.map_nil,wj,ik] at h ⊢
    exact h
   ·simp only [d0,List.map_cons,List.map_nil,wj,ik] at h ⊢
    exact h
   ·exact h.elim
  | value f =>
   cases f with
   | func f =>
    rcases vs with _ | ⟨v,r⟩
    ·exact h.elim
    ·simp only [opL,List.map_cons,mM,lp,s9,Dd,CV,CY] at h ⊢
     exact h
   | tmp t =>
    rcases vs with _ | ⟨v,r⟩
    ·exact h.elim
    ·simp only [opL,List.map_cons,ik,lp,DE] at h ⊢
     rcases aF v with h1 | ⟨b,h1,rfl | rfl⟩
     ·rw [h1]; exact h
     ·exact h
     ·exact h
   | _=>exact h.elim
  | invoke r m=>exact h.elim
 | makeInterface t x =>
  rcases vs with _ | ⟨v,_ | ⟨v',r⟩⟩ <;> first | exact h.elim | skip
  refine ⟨e,?_,rfl⟩
  simp only [opL,List.map_cons,List.map_nil,DX] at h ⊢
  exact h
 | typeAssert x xt t ok =>
  rcases vs with _ | ⟨v,_ | ⟨v',r⟩⟩ <;> cases ok <;> first | exact h.elim | skip
  refine ⟨e,?_,rfl⟩
  simp only [opL,List.map_cons,List.map_nil,Bp] at h ⊢
  exact h
 | _=>exact h.elim
theorem lS (st:ASt):st.nfS.look=st.look:=rfl
theorem og (st:ASt):st.nfS.base=st.base:=rfl
theorem vB (st:ASt) (d:Option Tmp):st.nfS.nid d=st.nid d:=by cases d <;> rfl
theorem i8 (st:ASt) (d:Option Tmp) (v:AV):(st.put d v).nfS=st.nfS.put d v.nf:=by
 cases d with
 | none=>rfl
 | some d=>simp [ASt.nfS,ASt.put,ai,List.map_set]
theorem sD (st:ASt) (i:Nat) (b:Option BC):(st.ab i b).nfS=st.nfS.ab i b:=rfl
theorem jX (st:ASt) (t:Nat):nth (.one .junk) st.nfS.slots t=(nth (.one .junk) st.slots t).nf:=by
 simp only [ASt.nfS,aP,EW]
 cases st.slots[t]? <;> rfl
theorem AD (ps:List Nat) (st:ASt) (d:Option Nat) (e:Eff):ca ps st.nfS d e.nfE=ca ps st d e:=by
 unfold ca
 congr 1
 funext k
 cases d with
 | none=>rw [og,cb]
 | some d=>simp only [og,cb,jX,lZ]
theorem ns (k s:Nat):∀ (l:List AV) (n:Nat),eZ k s n (l.map AV.nf)=eZ k s n l
 | [],n=>rfl
 | v :: l,n=>by simp only [List.map_cons,eZ,lZ,ns k s l (n + 1)]
theorem xo {k:Nat} {v:AV} (h:jU k v=true):jU k v.nf=true:=by
 unfold jU at h
 split at h
 ·exact h
 ·cases h
theorem iN {e:Eff} {i:Nat} {y:TV} (h:jG e=some (i,y)):e=.gen [.drop i 0 [] false,.root i 0 y] (.one (.sref i 0 [])):=by
 unfold jG at h
 split at h
 ·rename_i i' j y' k
  cases hb:i'.beq j && i'.beq k with
  | false=>rw [hb] at h; cases h
  | true =>
   simp only [hb,cond_true,ES,Prod.mk.injEq] at h
   simp only [ET] at hb
   obtain ⟨rfl,rfl⟩:=h
   rw [<- (aq _ _).1 hb.1,<- (aq _ _).1 hb.2]
 ·cases h
theorem mI (i:Nat) (y:TV):jG (.gen [.drop i 0 [] false,.root i 0 y] (.one (.sref i 0 [])))=some (i,y):=by
 simp only [jG,(aq i i).2 rfl,Bool.and_self,cond_true]
theorem Bc {o:Item} {st:ASt} {e:Eff} (h:cW o st e=true):cW o st.nfS e.nfE=true:=by
 unfold cW at h ⊢
 split at h
 ·rename_i s i y h1 h2
  have:=iN h2
  subst this
  simp only [ET] at h
  simp only [h1,Eff.nfE,AV.nf,mI,ET]
  refine ⟨⟨⟨⟨⟨h.1.1.1.1.1,?_⟩,h.1.1.1.2⟩,?_⟩,h.1.2⟩,h.2⟩
  ·rw [jX]; exact xo h.1.1.1.1.2
  ·rw [show st.nfS.slots=st.slots.map AV.nf from rfl,ns]; exact h.1.1.2
 ·cases h
theorem sG (st:ASt) (x:Operand):st.nfS.ev x=(st.ev x).nf:=by
 cases x with
 | tmp t=>exact jX st t
 | const v =>
  cases v with
  | bool b=>rfl
  | _=>first | rfl | (simp only [ASt.ev]; cases Value.oneCell' _ <;> rfl)
 | global g=>rfl
 | func f=>rfl
theorem rz:∀ (l:List AV),cK (l.map AV.nf)=cK l
 | []=>rfl
 | v :: l=>by simp only [List.map_cons,cK,ik,rz l]
theorem ke (e:Eff):iz e.nfE=iz e:=by
 cases e with
 | new b v=>cases b <;> rfl
 | _=>rfl
theorem Aw {i:Item} {st:ASt} {e:Eff}:gX i st.nfS e.nfE=gX i st e:=by
 unfold gX
 have:i.o.op.operands.toList.map st.nfS.ev=(i.o.op.operands.toList.map st.ev).map AV.nf:=by
  rw [List.map_map]
  exact List.map_congr_left fun x _=>sG st x
 rw [this,rz,ke,cb]
 rfl
theorem xc:∀ (l:List AV),fS (l.map AV.nf)=fS l
 | []=>rfl
 | v :: l=>by simp only [List.map_cons,fS,lZ,xc l]
theorem pn (e:Eff):lB e.nfE=lB e:=by cases e <;> rfl
theorem x6 (e:Eff):drE e.nfE=drE e:=by cases e <;> rfl
theorem rT (k:Nat) (e:Eff):uN k e.nfE=uN k e:=by cases e <;> rfl
theorem qX (v:AV):(v.nf.bN CA.deep).dS=(v.bN CA.deep).dS:=by
 rcases aF v with h | ⟨b,h,rfl | rfl⟩
 ·rw [h]
 ·rw [h]; rfl
 ·rw [h]; rfl
theorem wP:∀ (l:List AV),fS (bS CA.deep (l.map AV.nf))=fS (bS CA.deep l)
 | []=>rfl
 | v :: l=>by simp only [List.map_cons,bS,fS,qX,wP l]
theorem qe (e:Eff):np e.nfE=np e:=by
 cases e with
 | val v=>exact qX v
 | new b v=>exact cb (.new b v)
 | upd i b v=>exact cb (.upd i b v)
 | gen ps v=>exact cb (.gen ps v)
theorem AQ {i:Item} {st:ASt} {e:Eff}:cq i st.nfS e.nfE=cq i st e:=by
 unfold cq
 simp only [pn,x6,rT]
 rfl
theorem Aq {i:Item} {st:ASt} {e:Eff}:cZ i st.nfS e.nfE=cZ i st e:=by
 unfold cZ
 have hd:∀ d b,jj st.nfS d b=jj st d b:=fun d b=>by
  cases d with
  | none=>rfl
  | some d =>
   have:=sG st (.tmp d)
   simp only [ASt.ev] at this
   simp only [jj,this,lZ]
 have hd2:∀ d b,gP st.nfS d b=gP st d b:=fun d b=>by
  cases d with
  | none=>rfl
  | some d =>
   have:=sG st (.tmp d)
   simp only [ASt.ev] at this
   simp only [gP,this,qX]
 simp only [hd,hd2,cb,qe]
 have:i.o.op.operands.toList.map st.nfS.ev=(i.o.op.operands.toList.map st.ev).map AV.nf:=by
  rw [List.map_map]
  exact List.map_congr_left fun x _=>sG st x
 rw [this,xc,wP]
 rfl
theorem okE_nf {i:Item} {st:ASt} {e:Eff} (h:okE i st e=true):okE i st.nfS e.nfE=true:=by
 unfold okE at h ⊢
 rw [Bool.or_eq_true] at h ⊢
 rcases h with h | h
 ·rw [AQ]; exact .inl h
 refine .inr ?_
 rw [Bool.or_eq_true] at h ⊢
 rcases h with h | h
 ·rw [nS,xP,og,AD,Aw,Aq]; exact .inl h
 ·exact .inr (Bc h)
theorem vC (hs:Sim w0 I0 st a ov w):Sim w0 I0 st.nfS a ov w:=by
 obtain ⟨g,hs⟩:=hs
 refine ⟨g,hs.below,hs.sub,hs.lt,hs.old,by simp [ASt.nfS,hs.len],hs.defers,fun t v hv=>?_,hs.olen,hs.outs,hs.cells,hs.trees,hs.foot,hs.apart,hs.apartR,hs.res,hs.base,hs.out⟩
 simp only [ASt.nfS,EW] at hv
 cases hsl:st.slots[t]? with
 | none=>simp [hsl] at hv
 | some u =>
  simp only [hsl,E3,ES] at hv
  subst hv
  exact CI.2 (hs.slots t u hsl)
theorem ej (hs:Sim w0 I0 st.nfS a ov w):Sim w0 I0 st a ov w:=by
 obtain ⟨g,hs⟩:=hs
 refine ⟨g,hs.below,hs.sub,hs.lt,hs.old,by have:=hs.len; simpa [ASt.nfS] using this,hs.defers,fun t v hv=>?_,hs.olen,hs.outs,hs.cells,hs.trees,hs.foot,hs.apart,hs.apartR,hs.res,hs.base,hs.out⟩
 exact CI.1 (hs.slots t v.nf (by simp [ASt.nfS,hv]))
theorem oJ (i r:Nat) (js:List Nat) (b:Bool) (v:AV):(v.bN (CA.drop i r js b)).nf=v.nf.bN (CA.drop i r js b):=by
 rcases aF v with h | ⟨b,h,rfl | rfl⟩
 ·rw [h]
  cases v with
  | one c =>
   have key:∀ c:CA,c.drop i r js b=c\/c.drop i r js b=.junk:=fun c=>by
    rcases fQ i r js b c with ⟨h,_⟩ | h
    ·exact .inl h
    ·exact .inr h
   simp only [AV.bN]
   rcases key c with h' | h'
   ·rw [h',h]
   ·rw [h']; rfl
  | tv x=>exact h
  | _=>rfl
 ·rfl
 ·rfl
theorem CX (st:ASt) (i r:Nat) (js:List Nat) (b:Bool):(st.aw (CA.drop i r js b)).nfS=st.nfS.aw (CA.drop i r js b):=by
 simp only [ASt.nfS,ASt.aw]
 congr 1
 apply List.ext_getElem?
 intro t
 simp only [EW,mj]
 cases st.slots[t]? with
 | none=>rfl
 | some v=>simp [oJ]
theorem qd (i:Nat) (v:AV):(v.bN (CA.unM i)).nf=v.nf.bN (CA.unM i):=by
 cases v with
 | one c =>
  cases c with
  | t x =>
   cases x with
   | lit u=>cases u <;> rfl
   | _=>rfl
  | may j ty =>
   simp only [AV.bN,CA.unM,AV.nf]
   cases j.beq i <;> rfl
  | _=>rfl
 | tv x =>
  cases x with
  | lit u=>cases u <;> rfl
  | _=>rfl
 | _=>rfl
theorem Dz (st:ASt) (i:Nat):(st.aw (CA.unM i)).nfS=st.nfS.aw (CA.unM i):=by
 simp only [ASt.aw,ASt.nfS]
 congr 1
 induction st.slots with
 | nil=>rfl
 | cons v l ih=>simp only [bS,List.map_cons,qd,ih]
theorem un {i:Nat} {b:BC} (h:st.bp i b=some st'):st.nfS.bp i b=some st'.nfS:=by
 obtain ⟨h1,h2,rfl⟩:=bi h
 have h2':i.blt st.nfS.boxes.length=true:=by simpa [ASt.nfS] using h2
 simp only [ASt.bp,lS,h1,h2',cond_true,sD]
theorem qu {d:Option Tmp}:∀ {ps:List Prim} {st st':ASt},af d ps st=some st'->af d ps st.nfS=some st'.nfS
 | [],st,st',h=>by simp only [af,ES] at h; subst h; rfl
 | p :: ps, st, st', h => by
  simp only [af] at h ⊢
  cases h1:p.app st d with
  | none=>simp [h1] at h
  | some s1 =>
   simp only [h1] at h
   have:p.app st.nfS d=some s1.nfS:=by
    cases p with
    | drop i r js b =>
     simp only [Prim.app,ES] at h1 ⊢
     subst h1
     rw [CX]
    | root i r x =>
     simp only [Prim.app,lS] at h1 ⊢
     split at h1
     ·rename_i b hb
      simp only [ES] at h1
      subst h1
      rfl
     ·cases h1
    | frz i r =>
     simp only [Prim.app,lS] at h1 ⊢
     split at h1
     ·rename_i x hx
      split at h1
      ·rename_i b hb
       simp only [ES] at h1
       subst h1
       rfl
      ·cases h1
     ·cases h1
    | unmay i =>
     simp only [Prim.app,ES] at h1 ⊢
     subst h1
     rw [Dz]
    | newB b =>
     cases d with
     | none=>simp [Prim.app] at h1
     | some d =>
      simp only [Prim.app] at h1 ⊢
      rw [vB]
      exact un h1
    | setB i cs =>
     simp only [Prim.app,lS] at h1 ⊢
     split at h1
     ·simp only [ES] at h1
      subst h1
      rfl
     ·cases h1
   rw [this]
   exact qu h
theorem app_nf {e:Eff} {d:Option Tmp} (h:e.app st d=some st'):e.nfE.app st.nfS d=some st'.nfS:=by
 cases e with
 | val v =>
  simp only [Eff.app,Eff.nfE,ES] at h ⊢
  subst h
  rw [i8]
 | new b v =>
  cases d with
  | none=>simp [Eff.app] at h
  | some d =>
   simp only [Eff.app,Eff.nfE] at h ⊢
   rw [vB]
   split at h
   ·rename_i s1 hs1
    simp only [ES] at h
    subst h
    rw [un hs1]
    simp only [i8]
   ·cases h
 | upd i b v =>
  simp only [Eff.app,Eff.nfE,ES] at h ⊢
  subst h
  rw [i8,sD]
 | gen ps v =>
  simp only [Eff.app,Eff.nfE] at h ⊢
  split at h
  ·rename_i s1 hs1
   simp only [ES] at h
   subst h
   rw [qu hs1]
   simp only [i8]
  ·cases h
theorem ky {d:Option Tmp} {v:AV} (hs:Sim w0 I0 (st.put d v) a ov w):Sim w0 I0 (st.put d v.nf) a ov w:=by
 apply ej
 have:=vC hs
 rw [i8] at this ⊢
 rwa [uP]
theorem zP {e:Eff} {d:Option Tmp} (h:e.nfE.app st d=some st'):∃ st1,e.app st d=some st1/\∀ w0 I0 a ov w,Sim w0 I0 st1 a ov w->Sim w0 I0 st' a ov w:=by
 cases e with
 | val v =>
  simp only [Eff.app,Eff.nfE,ES] at h ⊢
  subst h
  exact ⟨_,rfl,fun w0 I0 a ov w hs=>ky hs⟩
 | new b v =>
  cases d with
  | none=>simp [Eff.app,Eff.nfE] at h
  | some d =>
   simp only [Eff.app,Eff.nfE] at h ⊢
   split at h
   ·rename_i s1 hs1
    simp only [ES] at h
    subst h
    exact ⟨_,rfl,fun w0 I0 a ov w hs=>ky hs⟩
   ·cases h
 | upd i b v =>
  simp only [Eff.app,Eff.nfE,ES] at h ⊢
  subst h
  exact ⟨_,rfl,fun w0 I0 a ov w hs=>ky hs⟩
 | gen ps v =>
  simp only [Eff.app,Eff.nfE] at h ⊢
  split at h
  ·rename_i s1 hs1
   simp only [ES] at h
   subst h
   exact ⟨_,rfl,fun w0 I0 a ov w hs=>ky hs⟩
  ·cases h
end
end Go.Ab
end
section
namespace Go.Ab
open Go.RowKit
def Prg.All {R:Type} (p:R->Prop):Prg R->Prop
 | .fail=>True
 | .ret e=>p e
 | .tv _ k=>∀ v,(k v).All p
 | .tvs _ k=>∀ v,(k v).All p
 | .rws _ k=>∀ v,(k v).All p
 | .nat _ k=>∀ v,(k v).All p
 | .chk _ k=>k.All p
 | .ite _ t e=>t.All p/\e.All p
 | .call _ _ k=>∀ v,(k v).All p
 | .jmp _ _=>True
theorem Prg.All.hits {R:Type} {C:Cal} {p:R->Prop} {e:R}:∀ {o:Prg R},o.All p->o.hits C e->p e
 | .ret e',h,h'=>by cases h'; exact h
 | .tv _ k,h,⟨v,_,h'⟩=>(h v).hits h'
 | .tvs _ k,h,⟨v,_,h'⟩=>(h v).hits h'
 | .rws _ k,h,⟨v,_,h'⟩=>(h v).hits h'
 | .nat _ k,h,⟨v,_,h'⟩=>(h v).hits h'
 | .chk _ k,h,⟨_,h'⟩=>Prg.All.hits (o:=k) h h'
 | .ite _ t e,h,⟨v,_,.inl ⟨_,h'⟩⟩=>Prg.All.hits (o:=t) h.1 h'
 | .ite _ t e,h,⟨v,_,.inr ⟨_,h'⟩⟩=>Prg.All.hits (o:=e) h.2 h'
 | .call _ _ k,h,⟨v,_,h'⟩=>(h v).hits h'
section
variable {E:Env} {look look':Look} {p:Eff->Prop} {id:Nat}
theorem aG {b:Bool} {x y:Out} (hx:x.All p) (hy:y.All p):(bif b then x else y).All p:=by cases b <;> assumption
theorem lm {q:Way} {x:TV} {k:TV->Out} (h:∀ y,(k y).All p):(pt q x k).All p:=by
 unfold pt
 split
 ·exact h _
 ·exact h
theorem fD {c:CA} {k:TV->Out} (h:∀ y,(k y).All p):(iI look c k).All p:=by
 unfold iI
 split
 ·exact h _
 ·split
  ·exact lm h
  ·exact trivial
 ·split
  ·exact lm fun y z=>h z
  ·exact trivial
 ·exact trivial
theorem rr {v:AV} {k:TV->Out} (h:∀ y,(k y).All p):(vD look v k).All p:=by
 unfold vD
 split
 ·exact fD h
 ·exact h _
 ·exact h _
 ·exact trivial
theorem ul {c:CA} {k:TV->Out} (h:∀ y,(k y).All p):(sq look c k).All p:=by
 unfold sq
 split
 ·exact h _
 ·exact fD fun y=>h _
 ·exact fD fun y=>h _
 ·exact trivial
theorem u1 {k:List TV->Out}:∀ {cs:List CA} {k:List TV->Out},(∀ y,(k y).All p)->(zu look cs k).All p
 | [],k,h=>h _
 | c :: cs,k,h=>ul fun y=>u1 (k:=fun _=>.fail) fun ys=>h _
theorem Bl {v:AV} {k:TV->Out} (h:∀ y,(k y).All p):(rt look v k).All p:=by
 unfold rt
 split
 ·exact ul h
 ·exact h _
 ·exact u1 (k:=fun _=>.fail) fun ys=>h _
 ·exact trivial
 ·exact trivial
 ·exact h _
theorem jv:∀ {vs:List AV} {k:List TV->Out},(∀ y,(k y).All p)->(lends look vs k).All p
 | [],k,h=>h _
 | v :: vs,k,h=>Bl fun y=>jv fun ys=>h _
theorem u7 {c:CA} {k:TV->List (Nat × Nat)->Out} (h:∀ y r,(k y r).All p):(ri look c k).All p:=by
 unfold ri
 split
 ·exact h _ _
 ·split
  ·split
   ·exact h _ _
   ·exact fun y=>h _ _
  ·exact trivial
 ·split
  ·split
   ·exact fun y=>h _ _
   ·exact fun z y=>h _ _
  ·exact trivial
 ·exact trivial
theorem uM:∀ {cs:List CA} {k:List TV->List (Nat × Nat)->Out},(∀ y r,(k y r).All p)->(zm look cs k).All p
 | [],k,h=>h _ _
 | c :: cs,k,h=>u7 fun y r=>uM fun ys rs=>h _ _
theorem AJ {v:AV} {k:TV->List (Nat × Nat)->Out} (h:∀ y r,(k y r).All p):(rJ look v k).All p:=by
 unfold rJ
 split
 ·exact u7 h
 ·exact h _ _
 ·exact uM fun ys rs=>h _ _
 ·exact trivial
 ·exact trivial
 ·exact h _ _
theorem pj:∀ {vs:List AV} {k:List TV->List (Nat × Nat)->Out},(∀ y r,(k y r).All p)->(hands look vs k).All p
 | [],k,h=>h _ _
 | v :: vs,k,h=>AJ fun y r=>pj fun ys rs=>h _ _
theorem dW:∀ {cs:List CA} {k:List TV->List Prim->List (Nat × Nat)->Out},(∀ y q r,(k y q r).All p)->(cA look cs k).All p
 | [],k,h=>h _ _ _
 | .t x :: l,k,h=>by
  simp only [cA]
  exact dW (cs:=l) fun xs ps ts=>h _ _ _
 | .sref i r q :: l, k, h => by
  simp only [cA]
  split
  ·split
   ·exact dW (cs:=l) fun xs ps ts=>h _ _ _
   ·exact fun y=>dW (cs:=l) fun xs ps ts=>h _ _ _
  ·exact trivial
 | .swin i r q lo len :: l, k, h => by
  simp only [cA]
  split
  ·split
   ·exact fun y=>dW (cs:=l) fun xs ps ts=>h _ _ _
   ·exact fun z y=>dW (cs:=l) fun xs ps ts=>h _ _ _
  ·exact trivial
 | .ptr _ _ :: l,k,h=>trivial
 | .ref _ _ :: l,k,h=>trivial
 | .tptr _ _ _ _ _ :: l,k,h=>trivial
 | .may _ _ :: l,k,h=>trivial
 | .aptr _ _ _ _ :: l,k,h=>trivial
 | .ifp _ _ :: l,k,h=>trivial
 | .fn1 _ _ :: l,k,h=>trivial
 | .yl _ :: l,k,h=>trivial
 | .undef :: l,k,h=>trivial
 | .junk :: l,k,h=>trivial
theorem dX:∀ {cs:List CA} {k:List TV->List Prim->List (Nat × Nat)->Out},(∀ y q r,(k y q r).All p)->(b7 look cs k).All p
 | [],k,h=>h _ _ _
 | .t x :: l,k,h=>by
  simp only [b7]
  exact dX (cs:=l) fun xs ps ts=>h _ _ _
 | .sref i r q :: l, k, h => by
  simp only [b7]
  split
  ·split
   ·exact dX (cs:=l) fun xs ps ts=>h _ _ _
   ·exact fun y=>⟨dX (cs:=l) fun xs ps ts=>h _ _ _,fun x'=>dX (cs:=l) fun xs ps ts=>h _ _ _⟩
  ·exact trivial
 | .swin i r q lo len :: l, k, h => by
  simp only [b7]
  split
  ·split
   ·exact fun y=>dX (cs:=l) fun xs ps ts=>h _ _ _
   ·exact fun z y=>dX (cs:=l) fun xs ps ts=>h _ _ _
  ·exact trivial
 | .ptr _ _ :: l,k,h=>trivial
 | .ref _ _ :: l,k,h=>trivial
 | .tptr _ _ _ _ _ :: l,k,h=>trivial
 | .may _ _ :: l,k,h=>trivial
 | .aptr _ _ _ _ :: l,k,h=>trivial
 | .ifp _ _ :: l,k,h=>trivial
 | .fn1 _ _ :: l,k,h=>trivial
 | .yl _ :: l,k,h=>trivial
 | .undef :: l,k,h=>trivial
 | .junk :: l,k,h=>trivial
theorem dZ {agg:Bool} {n:Nat} {x:AV} {k:List CA->Out} (h:∀ cs,(k cs).All p):(x.aW agg n k).All p:=by
 unfold AV.aW
 split
 ·rename_i c; cases c.kept <;> first | exact trivial | exact h _
 ·exact h _
 ·exact h _
 ·exact h _
 ·rename_i cs; cases cs.length.beq n <;> first | exact trivial | exact h _
 ·exact h _
 ·exact trivial
theorem sf {at_:Nat->Option (Nat × Bool × Nat)} {k:List CA->Out} (h:∀ cs,(k cs).All p):∀ (is:List Nat) (vs:List AV) (cs:List CA),(bY at_ is vs cs k).All p
 | [],[],cs=>h cs
 | i :: is, x :: vs, cs => by
  simp only [bY]
  split
  ·refine dZ (fun ps=>?_)
   exact aG (sf h is vs _) trivial
  ·exact trivial
 | [],_ :: _,cs=>trivial
 | _ :: _,[],cs=>trivial
theorem eS {v:Option AV} {k:Option Nat->Out} (h:∀ n,(k n).All p):(fH v k).All p:=by
 unfold fH
 split
 ·exact h _
 ·split
  ·exact fun v=>h _
  ·exact trivial
abbrev dg (e:Eff):Prop:=∃ v,e=.val v
abbrev di (e:Eff):Prop:=∃ b v,e=.new b v
theorem xz {d:TyD} {x:List TV} {off:Nat}:(ku d x off).All dg:=by
 unfold ku
 cases d.kd.isAgg
 ·exact ⟨_,rfl⟩
 ·exact ⟨_,rfl⟩
theorem ue:∀ {vs:List AV} {k:List CA->Out},(∀ cs,(k cs).All p)->(kt vs k).All p
 | [],k,h=>h _
 | v :: vs,k,h=>dZ fun cs=>ue fun cs'=>h _
theorem Ey {op:Op} (h:am op=.N) (vs:List AV):(opL E id look op vs).All dg:=by
 cases op with
 | move x=>rcases vs with _ | ⟨v,_ | ⟨v',r⟩⟩ <;> first | exact trivial | exact ⟨_,rfl⟩
 | assign x=>rcases vs with _ | ⟨v,_ | ⟨v',r⟩⟩ <;> first | exact trivial | exact ⟨_,rfl⟩
 | pick c x y =>
  rcases vs with _ | ⟨v,_ | ⟨v',_ | ⟨v'',_ | ⟨v3,r⟩⟩⟩⟩ <;> first | exact trivial | skip
  simp only [opL]
  split <;> first | exact trivial | exact ⟨_,rfl⟩ | exact ⟨⟨_,rfl⟩,⟨_,rfl⟩⟩
 | build t parts =>
  simp only [opL]
  split
  ·refine aG ?_ trivial
   refine sf ?_ _ _ _
   exact fun cs=>⟨_,rfl⟩
  ·exact trivial
 | nilCheck x =>
  rcases vs with _ | ⟨v,_ | ⟨v',r⟩⟩ <;> first | exact trivial | skip
  simp only [opL]
  split <;> first | exact trivial | exact ⟨_,rfl⟩
 | unOp op xt x =>
  rcases vs with _ | ⟨v,_ | ⟨v',r⟩⟩ <;> first | exact trivial | skip
  simp only [opL]
  split
  ·exact ⟨_,rfl⟩
  ·split
   ·exact fun v=>⟨_,rfl⟩
   ·exact trivial
 | fieldAddr t x f =>
  rcases vs with _ | ⟨v,_ | ⟨v',r⟩⟩ <;> first | exact trivial | skip
  simp only [opL]
  split
  ·split
   ·refine aG ?_ trivial
    split <;> first | exact trivial | exact ⟨_,rfl⟩
   ·exact trivial
  ·exact trivial
 | field t x f =>
  rcases vs with _ | ⟨v,_ | ⟨v',r⟩⟩ <;> first | exact trivial | skip
  simp only [opL]
  split
  ·split
   ·unfold vp
    split
    ·split
     ·split <;> first | exact trivial | exact ⟨_,rfl⟩
     ·exact trivial
    ·exact ⟨_,rfl⟩
    ·exact trivial
   ·exact trivial
  ·exact trivial
 | index t x y =>
  rcases vs with _ | ⟨v,_ | ⟨v',_ | ⟨v'',r⟩⟩⟩ <;> first | exact trivial | skip
  simp only [opL]
  split
  ·exact fun v=>⟨_,rfl⟩
  ·unfold qR
   split
   ·split
    ·refine aG ?_ trivial
     split
     ·exact fun k v=>⟨_,rfl⟩
     ·exact trivial
    ·exact trivial
   ·exact trivial
 | extract x j =>
  rcases vs with _ | ⟨v,_ | ⟨v',r⟩⟩ <;> first | exact trivial | skip
  simp only [opL]
  split
  ·split
   ·split <;> first | exact trivial | exact ⟨_,rfl⟩
   ·exact trivial
  ·exact trivial
 | makeFunc fn first cap =>
  cases fn with
  | func f =>
   simp only [opL]
   exact aG (ue fun cs=>⟨_,rfl⟩) trivial
  | _=>exact trivial
 | call c =>
  obtain ⟨callee,args,tys⟩:=c
  cases callee with
  | builtin b=>cases b <;> simp [am] at h
  | value f=>cases f <;> simp [am] at h
  | invoke r m=>simp [am] at h
 | makeInterface t x =>
  rcases vs with _ | ⟨v,_ | ⟨v',r⟩⟩ <;> first | exact trivial | skip
  simp only [opL]
  split
  ·unfold Cd
   refine aG ?_ trivial
   split
   ·exact ⟨_,rfl⟩
   ·split
    ·exact fun v=>⟨_,rfl⟩
    ·exact trivial
  ·exact trivial
 | typeAssert x xt t ok =>
  rcases vs with _ | ⟨v,_ | ⟨v',r⟩⟩ <;> cases ok <;> first | exact trivial | skip
  simp only [opL]
  split
  ·unfold ud
   refine aG ?_ trivial
   split
   ·exact fun v=>⟨_,rfl⟩
   ·exact trivial
  ·exact trivial
 | _=>simp [am] at h
theorem BA {op:Op} (h:am op=.R) (vs:List AV):(opL E id look op vs).All dg:=by
 cases op with
 | load t x =>
  rcases vs with _ | ⟨v,_ | ⟨v',r⟩⟩ <;> first | exact trivial | skip
  simp only [opL]
  split
  ·unfold Af
   split
   ·refine aG trivial ?_
    split
    ·exact fun v=>⟨_,rfl⟩
    ·exact trivial
   ·split
    ·split
     ·split
      ·exact ⟨_,rfl⟩
      ·exact trivial
     ·exact trivial
    ·exact trivial
   ·exact xz
   ·split
    ·refine lm (fun s e=>?_)
     simp only [Prg.All]
     split
     ·exact ⟨_,rfl⟩
     ·exact trivial
    ·exact trivial
   ·exact trivial
  ·exact trivial
 | convert xt dt x =>
  rcases vs with _ | ⟨v,_ | ⟨v',r⟩⟩ <;> first | exact trivial | skip
  simp only [opL]
  split
  ·unfold zA
   split
   ·exact trivial
   ·split
    ·exact fun v=>⟨_,rfl⟩
    ·exact trivial
  ·exact trivial
 | binOp op xt x y yt =>
  rcases vs with _ | ⟨v,_ | ⟨v',_ | ⟨v'',r⟩⟩⟩ <;> first | exact trivial | skip
  simp only [opL]
  split
  ·unfold Ej
   split
   ·split
    ·refine dZ fun cs=>dZ fun cs'=>?_
     split
     ·exact fun v=>⟨_,rfl⟩
     ·exact trivial
    ·exact trivial
   ·unfold DD
    split
    ·exact ⟨_,rfl⟩
    ·exact ⟨_,rfl⟩
    ·exact trivial
   unfold D5
   refine aG (rr fun x=>rr fun y=>fun v=>⟨_,rfl⟩) ?_
   split
   ·exact fun v=>⟨_,rfl⟩
   ·exact trivial
  ·exact trivial
 | slice t x lo hi mx =>
  have sl:∀ {kd:Kd} {sz:Nat} {x:AV} {lo hi:Option AV},(iR look kd sz x lo hi).All dg:=by
   intro kd sz x lo hi
   unfold iR
   split
   ·exact eS fun lo=>eS fun hi=>fun v=>⟨_,rfl⟩
   ·split
    ·exact fD fun s n=>eS fun lo=>eS fun hi=>⟨_,rfl⟩
    ·split
     ·exact fD fun s=>eS fun hi=>⟨_,rfl⟩
     ·exact fD fun s=>eS fun lo=>eS fun hi=>⟨_,rfl⟩
    ·exact trivial
  cases mx with
  | some m=>rcases vs with _ | ⟨v,r⟩ <;> exact trivial
  | none =>
   rcases vs with _ | ⟨v,r⟩
   ·exact trivial
   ·simp only [opL]
    split
    ·split
     ·split <;> first | exact trivial | exact sl
     ·exact trivial
    ·exact trivial
 | indexAddr t x y =>
  rcases vs with _ | ⟨v,_ | ⟨v',_ | ⟨v'',r⟩⟩⟩ <;> first | exact trivial | skip
  simp only [opL]
  split
  ·unfold pb
   split
   ·split
    ·exact fun v=>⟨_,rfl⟩
    ·split
     ·exact fD fun s n k=>⟨_,rfl⟩
     ·exact fD fun s k=>⟨_,rfl⟩
     ·exact trivial
   ·exact trivial
  ·unfold qS
   split
   ·split
    ·exact aG (fun k=>⟨_,rfl⟩) trivial
    ·exact trivial
   ·exact trivial
 | call c =>
  obtain ⟨callee,args,tys⟩:=c
  cases callee with
  | builtin b =>
   have mn:∀ {mx:Bool} {x y:AV},(wj mx x y).All dg:=by
    intro mx x y
    unfold wj
    split
    ·exact fun v=>⟨_,rfl⟩
    ·exact trivial
   cases b <;> simp [am] at h
   all_goals simp only [opL]
   all_goals unfold d0
   all_goals split <;> first | exact trivial | exact mn | contradiction | skip
   split
   ·unfold yR
    split
    ·exact ⟨_,rfl⟩
    ·exact rr fun s v=>⟨_,rfl⟩
   ·exact trivial
  | value f=>cases f <;> simp [am] at h
  | invoke r m=>simp [am] at h
 | _=>simp [am] at h
theorem cls_A {op:Op} (h:am op=.A) (vs:List AV):(opL E id look op vs).All di:=by
 cases op with
 | alloc t =>
  rcases vs with _ | ⟨v,r⟩ <;> first | exact trivial | skip
  simp only [opL]
  split
  ·exact ⟨_,_,rfl⟩
  ·exact trivial
 | box t x =>
  rcases vs with _ | ⟨v,_ | ⟨v',r⟩⟩ <;> first | exact trivial | skip
  simp only [opL]
  split
  ·exact dZ (fun cs=>⟨_,_,rfl⟩)
  ·exact trivial
 | makeSlice t x y =>
  rcases vs with _ | ⟨v,_ | ⟨v',_ | ⟨v'',r⟩⟩⟩ <;> first | exact trivial | skip
  simp only [opL]
  split
  ·refine aG ?_ trivial
   exact fun n m=>⟨_,_,rfl⟩
  ·exact trivial
 | call c =>
  obtain ⟨callee,args,tys⟩:=c
  cases callee with
  | builtin b=>cases b <;> simp [am] at h
  | value f=>cases f <;> simp [am] at h
  | invoke r m=>simp [am] at h
 | _=>simp [am] at h
theorem je {ps:List Prim} {b:BC} {v:AV}:(cH ps b v).plain=true->dg (cH ps b v)\/di (cH ps b v):=by
 cases ps with
 | nil=>exact fun _=>.inr ⟨_,_,rfl⟩
 | cons q l=>exact fun h=>by cases h
theorem uZ {ps:List Prim} {v:AV}:(match ps with | []=>Eff.val v | _=>.gen ps v).plain=true->dg (match ps with | []=>Eff.val v | _=>.gen ps v)\/di (match ps with | []=>Eff.val v | _=>.gen ps v):=by
 cases ps with
 | nil=>exact fun _=>.inl ⟨_,rfl⟩
 | cons q l=>exact fun h=>by cases h
theorem j8 {d:TyD} {x:TV} {k:Out} (h:k.All p):(jq d x k).All p:=by
 unfold jq
 exact aG h h
theorem qg {x:TV} {k:Out} (h:k.All p):∀ (ds:List TyD) (j:Nat),(gm x ds j k).All p
 | [],j=>h
 | d :: ds,j=>j8 (qg h ds (j + 1))
theorem rE {ds:List TyD} {v:TV} {ps:List Prim}:(tF id ds v ps).All fun e=>e.plain=true->dg e\/di e:=by
 have many:∀ ds:List TyD,(Prg.chk (v.isTup ds.length) (gm v ds 0 (bif gN ds then .ret (cH ps (.tree (bj v ds 0)) (.tups (dN id v ds 0 0)))
   else .ret (match ps with | []=>.val (.tups (dN id v ds 0 0)) | _=>.gen ps (.tups (dN id v ds 0 0)))))).All fun e=>e.plain=true->dg e\/di e:=by
  intro ds
  refine qg ?_ ds 0
  exact aG je uZ
 match ds with
 | []=>exact many []
 | [d] =>
  simp only [tF]
  refine j8 ?_
  split
  ·exact aG je uZ
  ·exact trivial
 | d :: d' :: l=>exact many _
theorem BG {ds:List TyD} {v:TV} {k:AV->Out} {p:Eff->Prop} (h:∀ av,(k av).All p):(BZ id ds v k).All p:=by
 have some:∀ (ds:List TyD) (j:Nat) (k:Out),k.All p->(gm v ds j k).All p:=by
  intro ds
  induction ds with
  | nil=>intro j k h; exact h
  | cons d ds ih=>intro j k h; exact j8 (ih (j + 1) k h)
 unfold BZ
 split
 ·refine j8 ?_
  split
  ·exact h _
  ·exact trivial
 ·exact some _ 0 _ (h _)
theorem A3 {f:FuncId} {ld:fh} {vs:List AV}:(nK E id look f ld vs).All fun e=>e.plain=true->dg e\/di e:=by
 unfold nK
 split
 ·split
  ·refine aG trivial ?_
   exact pj fun xs rs=>dW fun ys qs ts=>aG (fun v=>BG fun av=>fun h=>by simp [Eff.plain] at h) trivial
  ·exact trivial
 ·exact trivial
theorem AF {f:FuncId} {c:Nat × Nat} {vs:List AV}:(ot look f c vs).All fun e=>e.plain=true->dg e\/di e:=by
 unfold ot
 split
 ·split
  ·split
   ·exact aG (jv fun xs=>fun v=>fun _=>.inl ⟨_,rfl⟩) trivial
   ·exact trivial
  ·exact trivial
 ·exact trivial
theorem Bh {f:FuncId} {vs:List AV}:(tB look f vs).All fun e=>e.plain=true->dg e\/di e:=by
 exact trivial
theorem Cz {f:FuncId} {i:Nat} {vs:List AV}:(xB E id look f i vs).All fun e=>e.plain=true->dg e\/di e:=by
 unfold xB
 refine aG ?_ trivial
 split
 ·split
  ·exact jv fun xs=>fun v=>rE
  ·exact trivial
 ·exact trivial
theorem cls_B {op:Op} (h:am op=.B) (vs:List AV):(opL E id look op vs).All fun e=>e.plain=true->dg e\/di e:=by
 cases op with
 | buildSlice t len parts =>
  simp only [opL]
  refine aG ?_ ?_
  ·exact trivial
  unfold iX
  split
  ·refine sf (fun cs=>?_) _ _ _
   refine dX fun ys qs ts=>?_
   exact aG je trivial
  ·exact trivial
 | call c =>
  obtain ⟨callee,args,tys⟩:=c
  cases callee with
  | builtin b=>cases b <;> simp [am] at h
  | value f =>
   cases f with
   | func f =>
    rcases vs with _ | ⟨v,r⟩
    ·exact trivial
    ·simp only [opL,mM]
     refine aG Bh (aG trivial ?_)
     split
     ·exact AF
     split
     ·exact A3
     ·split
      ·refine aG ?_ ?_
       ·exact jv fun xs=>fun v=>rE
       ·exact pj fun xs rs=>aG (fun v=>rE) trivial
      ·exact trivial
   | tmp t =>
    rcases vs with _ | ⟨v,r⟩
    ·exact trivial
    ·simp only [opL]
     split
     ·exact fun f=>jv fun xs v=>fun _=>.inl ⟨_,rfl⟩
     ·split
      ·exact Cz
      ·exact trivial
   | _=>simp [am] at h
  | invoke r m=>simp [am] at h
 | _=>simp [am] at h
abbrev isUpd (look:Look) (e:Eff):Prop:=∃ i b v,e=.upd i b v/\(look i).isSome=true
theorem B8 {op : Op} (h : am op = .W) (vs : List AV) : (opL E id look op vs).All fun e => e.plain = true → isUpd look e := by
 cases op with
 | store t x y =>
  rcases vs with _ | ⟨v,_ | ⟨v',_ | ⟨v'',r⟩⟩⟩ <;> first | exact trivial | skip
  simp only [opL]
  split
  ·unfold vK
   split
   ·refine aG trivial ?_
    split
    ·rename_i cs xs hrow
     refine dZ (fun ps=>?_)
     split
     ·exact fun _=>⟨_,_,_,rfl,by simp [(jf hrow).1]⟩
     ·exact trivial
    ·exact trivial
   ·refine dZ (fun ps=>?_)
    split
    ·rename_i cs hl
     exact aG (fun _=>⟨_,_,_,rfl,by simp [hl]⟩) trivial
    ·exact trivial
   ·refine dZ (fun ps=>?_)
    split
    ·refine aG trivial (aG ?_ ?_)
     ·refine dW fun ys qs ts=>aG ?_ trivial
      exact lm fun s e=>fun x' hp=>by cases hp
     ·refine dW fun ys qs ts=>?_
      split
      ·refine aG ?_ trivial
       refine lm fun s e=>?_
       simp only [Prg.All]
       intro x'
       split
       ·rename_i b hb
        refine fun _=>⟨_,_,_,rfl,?_⟩
        unfold bZ at hb
        split at hb
        ·rename_i hl; simp [hl]
        ·cases hb
       ·exact trivial
      ·exact trivial
    ·exact trivial
   ·exact trivial
  ·exact trivial
 | call c =>
  obtain ⟨callee,args,tys⟩:=c
  cases callee with
  | builtin b=>cases b <;> simp [am] at h
  | value f=>cases f <;> simp [am] at h
  | invoke r m=>simp [am] at h
 | _=>simp [am] at h
theorem wL {d:TyD} {s:AV} {news:List (List TV)} {ps:List Prim}:(oh id look d s news ps).All fun e=>e.plain=true->dg e\/di e:=by
 unfold oh
 split
 ·exact aG (fun y=>je) trivial
 ·split
  ·split
   ·split
    ·exact fun y h=>by cases h
    ·exact fun z y x' h=>by cases h
   ·exact trivial
  ·split
   ·split
    ·exact fun z y h=>by cases h
    ·exact fun z0 z y x' h=>by cases h
   ·exact trivial
  ·exact trivial
theorem CB {d:TyD} {dest:Option Nat} {x:AV} {k:List (List TV)->List Prim->Out} (h:∀ xs ps,(k xs ps).All p):(wi look d dest x k).All p:=by
 unfold wi
 split
 ·exact fun xs=>h _ _
 ·split
  ·refine aG ?_ ?_
   ·split
    ·split
     ·split
      ·exact aG trivial (fun xs=>h _ _)
      ·exact fun y=>fun xs=>h _ _
     ·exact trivial
    ·split
     ·split
      ·exact aG trivial (fun y xs=>h _ _)
      ·exact fun z y=>fun xs=>h _ _
     ·exact trivial
    ·exact trivial
   ·exact fD (fun s xs=>h _ _)
  ·exact trivial
theorem cls_P {op:Op} (h:am op=.P) (vs:List AV):(opL E id look op vs).All fun e=>e.plain=true->dg e\/di e:=by
 cases op with
 | call c =>
  obtain ⟨callee,args,tys⟩:=c
  cases callee with
  | builtin b =>
   cases b <;> simp [am] at h
   simp only [opL]
   unfold d0
   split <;> try (first | exact trivial | contradiction)
   split
   ·refine aG ?_ ?_
    ·unfold oA
     exact aG (CB (fun xs ps=>wL)) trivial
    ·split
     ·exact trivial
     ·exact trivial
   ·exact trivial
  | value f=>cases f <;> simp [am] at h
  | invoke r m=>simp [am] at h
 | _=>simp [am] at h
theorem uf {op:Op} (h:am op=.N\/am op=.A) (vs:List AV):opL E id look op vs=opL E id look' op vs:=by
 cases op <;> first
  | (rcases vs with _ | ⟨a,_ | ⟨b,_ | ⟨c,_ | ⟨d,r⟩⟩⟩⟩ <;> rfl)
  | (simp [am] at h; done)
  | (rename_i fn _ _; cases fn <;> rfl)
  | (rename_i ok; cases ok <;> rcases vs with _ | ⟨a,_ | ⟨b,r⟩⟩ <;> rfl)
  | skip
 all_goals
  rename_i c
  obtain ⟨callee,args,tys⟩:=c
  cases callee with
  | builtin b=>cases b <;> simp [am] at h
  | value f=>cases f <;> simp [am] at h
  | invoke r m=>simp [am] at h
end
end Go.Ab
end

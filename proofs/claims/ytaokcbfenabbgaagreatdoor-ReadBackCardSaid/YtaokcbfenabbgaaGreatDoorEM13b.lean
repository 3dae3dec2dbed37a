import Derived.Test.YtaokcbfenabbgaaGreatDoorEM12b
set_option linter.all false
section
namespace Go.Ab
open Go.RowKit
structure gJ (P:Program) (G:Laid) (E:Env) (C:Cal):Prop where
 ty:∀ t d,E.T t=some d->aX P t d
 call:yb P G E C
section
variable {P:Program} {E:Env} {C:Cal} {w0:Bs} {w w':World} {I0 I R:Nat->Prop} {g g':Gh} {st st':ASt} {a:Act} {ov:List Value} {look:Look} {Q:Exit->Act->World->Prop} {id:Nat}
theorem EV (hE:gJ P w0.G E C) (hlk:∀ i b,look i=some b->st.look i=some b) (hs:ak w0 I0 NoR g st a ov w) {o:Oper} {e:Eff} (hh:(opL E (st.nid o.dst) look o.op (o.op.operands.toList.map st.ev)).hits C e) (ha:e.app st o.dst=some st') :
  Good P w0 I0 ov o st' a w Q:=by
 obtain ⟨dst,op,type,pos,after,guard⟩:=o
 cases op with
 | move x=>exact FB hs hh ha
 | assign x=>exact BX hs hh ha
 | pick c x y=>exact FZ hs hh ha
 | alloc t=>exact Df hE.ty hs hh ha
 | box t x=>exact op_box hE.ty hs hh ha
 | build t parts=>exact EE hE.ty hs hh ha
 | makeFunc fn first cap=>exact wV hs hh ha
 | buildSlice t len parts =>
  simp only [opL] at hh
  cases hc:E.cold t && !(len.beq 0) with
  | true=>rw [hc] at hh; exact Fd hE.ty hlk hs hh ha
  | false=>rw [hc] at hh; exact un hE.ty hlk hs hh ha
 | load t x=>exact FU hE.ty hlk hs hh ha
 | store t x y=>exact Dk hE.ty hlk hs hh ha
 | nilCheck x=>exact ya hs hh ha
 | binOp op xt x y yt=>exact op_bin hE.ty hlk hs hh ha
 | unOp op xt x=>exact op_un hs hh ha
 | convert xt dt x=>exact zl hE.ty hlk hs hh ha
 | makeSlice t x y=>exact wh hE.ty hs hh ha
 | makeInterface t x=>exact op_ifc hE.ty hs hh ha
 | typeAssert x xt t ok=>exact Fp hE.ty hs hh ha
 | slice t x lo hi mx=>exact Ei hE.ty hlk hs hh ha
 | fieldAddr t x f=>exact wK hE.ty hs hh ha
 | field t x f=>exact Eb hE.ty hs hh ha
 | indexAddr t x y=>exact vY hE.ty hlk hs hh ha
 | index t x y=>exact ET hE.ty hs hh ha
 | extract x j=>exact zt hs hh ha
 | call c =>
  obtain ⟨callee,args,tys⟩:=c
  cases callee with
  | builtin b =>
   have hops:(Op.call ⟨.builtin b,args,tys⟩).operands.toList=args.toList:=by simp [Op.operands,Call.operands]
   simp only [hops] at hh
   simp only [opL] at hh
   unfold dP at hh
   split at hh
   ·rename_i x ty hargs htys
    obtain ⟨ox,rfl,hox⟩:=list1 hargs
    have:=arr1 htys
    subst this
    split at hh
    ·rename_i d hT
     rw [<- hox] at hh
     exact zk hlk hs (hE.ty _ _ hT) hh ha
    ·exact hh.elim
   ·rename_i s x ty ty' hargs htys
    obtain ⟨os,ox,rfl,hos,hox⟩:=list2 hargs
    have:=arr2 htys
    subst this
    split at hh
    ·rename_i e1 d hel
     cases hb:Nat.beq ty ty' with
     | false =>
      simp only [hb,cond_false] at hh
      split at hh
      ·rename_i hu
       exact hh.elim
      ·exact hh.elim
     | true =>
      simp only [hb,cond_true] at hh
      have:=(aw _ _).1 hb
      subst this
      rw [<- hos,<- hox] at hh
      exact ux hE.ty hlk hs hel hh ha
    ·exact hh.elim
   ·rename_i s x ty ty' hargs htys
    obtain ⟨os,ox,rfl,hos,hox⟩:=list2 hargs
    have:=arr2 htys
    subst this
    split at hh
    ·rename_i e1 d hel
     cases hb:Nat.beq ty ty' with
     | false=>simp [hb,Prg.hits] at hh
     | true =>
      simp only [hb,cond_true] at hh
      have:=(aw _ _).1 hb
      subst this
      rw [<- hos,<- hox] at hh
      exact xI hE.ty hlk hs hel hh ha
    ·exact hh.elim
   ·rename_i s ty hargs htys
    obtain ⟨os,rfl,hos⟩:=list1 hargs
    have:=arr1 htys
    subst this
    split at hh
    ·rename_i e1 d hel
     exact hh.elim
    ·exact hh.elim
   ·rename_i x y hargs
    obtain ⟨ox,oy,rfl,hox,hoy⟩:=list2 hargs
    rw [<- hox,<- hoy] at hh
    exact rR hs hh ha
   ·rename_i x y hargs
    obtain ⟨ox,oy,rfl,hox,hoy⟩:=list2 hargs
    rw [<- hox,<- hoy] at hh
    exact rR hs hh ha
   ·exact hh.elim
  | value f =>
   cases f with
   | func f =>
    have hops:(Op.call ⟨.value (.func f),args,tys⟩).operands.toList=.func f :: args.toList:=by simp [Op.operands,Call.operands]
    simp only [hops,List.map_cons] at hh
    exact FF hE.call hE.ty hlk hs hh ha
   | tmp t =>
    have hops:(Op.call ⟨.value (.tmp t),args,tys⟩).operands.toList=.tmp t :: args.toList:=by simp [Op.operands,Call.operands]
    simp only [hops,List.map_cons] at hh
    exact op_dyn hE.call hE.ty hlk hs hh ha
   | _=>simp [opL,Prg.hits] at hh
  | invoke r m=>simp [opL,Prg.hits] at hh
 | _=>simp [opL,Prg.hits] at hh
def AV.nf:AV->AV
 | .one (.t (.lit (.bool b)))=>.bl b
 | .tv (.lit (.bool b))=>.bl b
 | v=>v
def Eff.nfE:Eff->Eff
 | .val v=>.val v.nf
 | .new b v=>.new b v.nf
 | .upd i b v=>.upd i b v.nf
 | .gen ps v=>.gen ps v.nf
def ASt.nfS (st:ASt):ASt:=⟨st.slots.map AV.nf,st.boxes,st.out⟩
theorem aJ (v:AV):v.nf=v\/∃ b,v.nf=.bl b/\(v=.one (.t (.lit (.bool b)))\/v=.tv (.lit (.bool b))):=by
 unfold AV.nf
 split
 ·exact .inr ⟨_,rfl,.inl rfl⟩
 ·exact .inr ⟨_,rfl,.inr rfl⟩
 ·exact .inl rfl
theorem uG (v:AV):v.nf.nf=v.nf:=by
 rcases aJ v with h | ⟨b,h,_⟩
 ·rw [h,h]
 ·rw [h]; rfl
theorem ia (v:AV):v.nf.tv? = v.tv? := by
 rcases aJ v with h | ⟨b,h,rfl | rfl⟩
 ·rw [h]
 ·rfl
 ·rfl
theorem El {v:AV} {u:Value}:bE w g look v.nf u ↔ bE w g look v u:=by
 rcases aJ v with h | ⟨b,h,rfl | rfl⟩
 ·rw [h]
 ·rw [h]
  constructor
  ·intro h'
   have:u=.bool b:=h'
   subst this
   exact ⟨.lit _,rfl⟩
  ·intro h'
   exact aP h'.1
 ·rw [h]
  constructor
  ·intro h'
   have:u=.bool b:=h'
   subst this
   exact .lit _
  ·intro h'
   exact aP h'
theorem nE (v:AV):v.nf.g9=v.g9:=by
 rcases aJ v with h | ⟨b,h,rfl | rfl⟩
 ·rw [h]
 ·rw [h]; rfl
 ·rw [h]; rfl
theorem cj (e:Eff):ew e.nfE=ew e:=by cases e <;> simp only [Eff.nfE,ew,nE]
theorem nF (e:Eff):e.nfE.plain=e.plain:=by cases e <;> rfl
theorem yq (base:Nat) (own:List (List Nat × List Nat)) (e:Eff):e.nfE.qM base own=e.qM base own:=by cases e <;> rfl
theorem yL {S:Type} {agg:Bool} {n:Nat} {v:AV} {k k':List CA->Prg S} {e:S} (hk:∀ cs,(k cs).hits C e->(k' cs).hits C e) (h:(v.aZ agg n k).hits C e):(v.aZ agg n k').hits C e:=by
 unfold AV.aZ at h ⊢
 split at h
 ·rename_i c
  cases hc:c.kept with
  | true=>rw [hc] at h; exact hk _ h
  | false=>rw [hc] at h; exact h.elim
 ·exact ⟨h.1,hk _ h.2⟩
 ·exact hk _ h
 ·exact hk _ h
 ·rename_i cs
  cases hc:cs.length.beq n with
  | true=>rw [hc] at h; exact hk _ h
  | false=>rw [hc] at h; exact h.elim
 ·exact ⟨h.1,hk _ h.2⟩
 ·exact h.elim
theorem eW {S:Type} {agg:Bool} {n:Nat} {v:AV} {k:List CA->Prg S} {e:S} (h:(v.aZ agg n k).hits C e):(v.nf.aZ agg n k).hits C e:=by
 rcases aJ v with h1 | ⟨b,h1,rfl | rfl⟩
 ·rwa [h1]
 ·rw [h1]
  cases agg with
  | false=>exact h
  | true=>exact h.elim
 ·rw [h1]
  cases agg with
  | false=>exact h.2
  | true=>exact (by simp [AV.aZ,TV.isAgg,Prg.hits] at h)
theorem lL {S:Type} {e:S}:∀ {vs:List AV} {k:List CA->Prg S},(kt vs k).hits C e->(kt (vs.map AV.nf) k).hits C e
 | [],k,h=>h
 | x :: vs, k, h => by
  simp only [kt,List.map_cons] at h ⊢
  refine eW ?_
  unfold AV.aZ at h ⊢
  split at h
  ·rename_i c _
   cases hc:c.kept with
   | false=>simp [hc,Prg.hits] at h
   | true=>simp only [hc,cond_true] at h ⊢; exact lL h
  ·exact ⟨h.1,lL h.2⟩
  ·exact lL h
  ·exact lL h
  ·rename_i cs' hb; cases hb
  ·rename_i cs' hb; cases hb
  ·exact h.elim
theorem jJ {f:FuncId} {e:Eff}:∀ {vs:List AV} {k:List CA->List CA},(kt vs fun cs=>(.ret (.val (.clo f (k cs))):Out)).hits C e->∃ cs,e=.val (.clo f cs)
 | [],k,h=>⟨_,h.symm⟩
 | x :: vs, k, h => by
  simp only [kt] at h
  unfold AV.aZ at h
  split at h
  ·rename_i c _
   cases hc:c.kept with
   | false=>simp [hc,Prg.hits] at h
   | true=>simp only [hc,cond_true] at h; exact jJ (k:=fun cs=>k (_ ++ cs)) h
  ·exact jJ (k:=fun cs=>k (_ ++ cs)) h.2
  ·exact jJ (k:=fun cs=>k (_ ++ cs)) h
  ·exact jJ (k:=fun cs=>k (_ ++ cs)) h
  ·rename_i hb; cases hb
  ·rename_i hb; cases hb
  ·exact h.elim
theorem vV {S:Type} {at_:Nat->Option (Nat × Bool × Nat)} {k:List CA->Prg S} {e:S}:∀ {is:List Nat} {vs:List AV} {cs:List CA},(bR at_ is vs cs k).hits C e->(bR at_ is (vs.map AV.nf) cs k).hits C e
 | [],[],cs,h=>h
 | i :: is, x :: vs, cs, h => by
  simp only [bR,List.map_cons] at h ⊢
  split at h
  ·rename_i off agg n hat
   have key:∀ ps,((bif (off + ps.length).ble cs.length && ps.length.beq n then bR at_ is vs (bw cs off ps) k else .fail):Prg S).hits C e->((bif (off + ps.length).ble cs.length && ps.length.beq n then bR at_ is (vs.map AV.nf) (bw cs off ps) k else .fail):Prg S).hits C e:=by
    intro ps hp
    cases hb:(off + ps.length).ble cs.length && ps.length.beq n with
    | false=>simp [hb,Prg.hits] at hp
    | true=>simp only [hb,cond_true] at hp ⊢; exact vV hp
   refine eW ?_
   unfold AV.aZ at h ⊢
   split at h
   ·rename_i c
    cases hc:c.kept with
    | false=>simp [hc,Prg.hits] at h
    | true=>simp only [hc,cond_true] at h ⊢; exact key _ h
   ·exact ⟨h.1,key _ h.2⟩
   ·exact key _ h
   ·exact key _ h
   ·rename_i cs'
    have:=key cs'
    cases hc:cs'.length.beq n with
    | false=>simp [hc,Prg.hits] at h
    | true=>simp only [hc,cond_true] at h this ⊢; exact this h
   ·exact ⟨h.1,key _ h.2⟩
   ·exact h.elim
  ·exact h.elim
 | [],_ :: _,cs,h=>h.elim
 | _ :: _,[],cs,h=>h.elim
theorem A9 {S:Type} {v:AV} {k:TV->Prg S}:sh look v.nf k=sh look v k:=by
 rcases aJ v with h | ⟨b,h,rfl | rfl⟩
 ·rw [h]
 ·rfl
 ·rfl
theorem DE {S:Type} {v:AV} {k:TV->Prg S}:tN look v.nf k=tN look v k:=by
 rcases aJ v with h | ⟨b,h,rfl | rfl⟩
 ·rw [h]
 ·rfl
 ·rfl
theorem D0 {S:Type} {v:AV} {k:TV->List (Nat × Nat)->Prg S}:t9 look v.nf k=t9 look v k:=by
 rcases aJ v with h | ⟨b,h,rfl | rfl⟩
 ·rw [h]
 ·rfl
 ·rfl
theorem so {S:Type}:∀ {vs:List AV} {k:List TV->Prg S},lends look (vs.map AV.nf) k=lends look vs k
 | [],k=>rfl
 | v :: vs,k=>by simp only [List.map_cons,lends,DE,so]
theorem sA {S:Type}:∀ {vs:List AV} {k:List TV->List (Nat × Nat)->Prg S},hands look (vs.map AV.nf) k=hands look vs k
 | [],k=>rfl
 | v :: vs,k=>by simp only [List.map_cons,hands,D0,sA]
theorem Ew {E:Env} {id:Nat} {look:Look} {f:FuncId} {ld:dJ} (vs:List AV):oH E id look f ld (vs.map AV.nf)=oH E id look f ld vs:=by
 cases vs with
 | nil=>rfl
 | cons v l =>
  rcases aJ v with h | ⟨b,h,rfl | rfl⟩
  ·simp only [List.map_cons,h]
   cases v with
   | one c =>
    cases c with
    | ptr i off =>
     cases off with
     | zero=>simp only [oH,sA]
     | succ n=>rfl
    | _=>rfl
   | _=>rfl
  ·simp only [List.map_cons,h]; rfl
  ·simp only [List.map_cons,h]; rfl
theorem Dn {look:Look} {f:FuncId} {c:Nat × Nat} (vs:List AV):yD look f c (vs.map AV.nf)=yD look f c vs:=by
 rfl
theorem CM {look:Look} {f:FuncId} (vs:List AV):rU look f (vs.map AV.nf)=rU look f vs:=by
 rfl
theorem E8 {E:Env} {id:Nat} {look:Look} {f:FuncId} {i:Nat} (vs:List AV):Db E id look f i (vs.map AV.nf)=Db E id look f i vs:=by
 rfl
theorem FP (d:TyD) (t:TypeId) (v:AV):De d t v.nf=De d t v:=by
 rcases aJ v with h | ⟨b,h,rfl | rfl⟩
 ·rw [h]
 ·rfl
 ·rfl
theorem Dl (d:TyD) (t:TypeId) (v:AV):u9 d t v.nf=u9 d t v:=by
 simp only [u9,ia]
theorem BS {S:Type} {v:Option AV} {k:Option Nat->Prg S}:eY (v.map AV.nf) k=eY v k:=by
 cases v with
 | none=>rfl
 | some v=>simp only [eY,GQ,ia]
theorem ve (v:AV):tP v.nf=tP v:=by
 rcases aJ v with h | ⟨b,h,rfl | rfl⟩
 ·rw [h]
 ·rfl
 ·rfl
theorem A7 {S:Type} {d:TyD} {dest:Option Nat} {v:AV} {k:List (List TV)->List Prim->Prg S}:yJ look d dest v.nf k=yJ look d dest v k:=by
 rcases aJ v with h | ⟨b,h,rfl | rfl⟩
 ·rw [h]
 ·rfl
 ·rfl
theorem lZ {kd:Kd} {sz:Nat} {x:AV} {lo hi:Option AV}:iF look kd sz x.nf (lo.map AV.nf) (hi.map AV.nf)=iF look kd sz x lo hi:=by
 simp only [iF,ia,BS]
 rcases aJ x with h | ⟨b,h,rfl | rfl⟩
 ·rw [h]
  cases lo <;> rfl
 ·rfl
 ·rfl
theorem Dr (v:AV):uM v.nf=uM v:=by
 rcases aJ v with h | ⟨b,h,rfl | rfl⟩
 ·rw [h]
 ·rfl
 ·rfl
theorem E4 {look:Look} {kd:Kd} (v:AV):xb look kd v.nf=xb look kd v:=by
 rcases aJ v with h | ⟨b,h,rfl | rfl⟩
 ·rw [h]
 ·rw [h]; cases kd <;> rfl
 ·rw [h]; cases kd <;> rfl
theorem opL_nf {op : Op} {vs : List AV} {e : Eff} (h : (opL E id look op vs).hits C e) : ∃ e', (opL E id look op (vs.map AV.nf)).hits C e' ∧ e'.nfE = e.nfE := by
 cases op with
 | move x =>
  rcases vs with _ | ⟨v,_ | ⟨v',r⟩⟩ <;> first | exact h.elim | skip
  cases h
  exact ⟨_,rfl,by simp [Eff.nfE,uG]⟩
 | assign x =>
  rcases vs with _ | ⟨v,_ | ⟨v',r⟩⟩ <;> first | exact h.elim | skip
  cases h
  exact ⟨_,rfl,by simp [Eff.nfE,uG]⟩
 | pick c x y =>
  rcases vs with _ | ⟨v,_ | ⟨v',_ | ⟨v'',_ | ⟨v3,r⟩⟩⟩⟩ <;> first | exact h.elim | skip
  simp only [opL] at h
  split at h
  ·rename_i b
   cases h
   refine ⟨_,rfl,?_⟩
   cases b <;> simp [Eff.nfE,uG]
  ·rename_i v
   obtain ⟨b,hb,h⟩:=h
   have hv:v=.lit (.bool b):=by
    unfold asBool at hb
    split at hb
    ·cases hb; rfl
    ·cases hb
   subst hv
   rcases h with ⟨rfl,h⟩ | ⟨rfl,h⟩ <;> (cases h; exact ⟨_,rfl,by simp [Eff.nfE,uG]⟩)
  ·rename_i v
   obtain ⟨b,hb,h⟩:=h
   have hv:v=.lit (.bool b):=by
    unfold asBool at hb
    split at hb
    ·cases hb; rfl
    ·cases hb
   subst hv
   rcases h with ⟨rfl,h⟩ | ⟨rfl,h⟩ <;> (cases h; exact ⟨_,rfl,by simp [Eff.nfE,uG]⟩)
  ·exact h.elim
 | alloc t =>
  rcases vs with _ | ⟨v,r⟩ <;> first | exact h.elim | exact ⟨e,h,rfl⟩
 | box t x =>
  rcases vs with _ | ⟨v,_ | ⟨v',r⟩⟩ <;> first | exact h.elim | skip
  refine ⟨e,?_,rfl⟩
  simp only [opL,List.map_cons,List.map_nil] at h ⊢
  split at h
  ·exact eW h
  ·exact h.elim
 | makeFunc fn first cap =>
  cases fn with
  | func f =>
   have:∃ cs,e=.val (.clo f cs):=by
    simp only [opL] at h
    cases hb:first.size.beq 0 with
    | false=>simp [hb,Prg.hits] at h
    | true =>
     simp only [hb,cond_true] at h
     exact jJ (k:=fun l=>l) h
   obtain ⟨cs,rfl⟩:=this
   refine ⟨_,?_,rfl⟩
   simp only [opL] at h ⊢
   cases hb:first.size.beq 0 with
   | false=>simp [hb,Prg.hits] at h
   | true=>simp only [hb,cond_true] at h ⊢; exact lL h
  | _=>exact h.elim
 | build t parts =>
  refine ⟨e,?_,rfl⟩
  simp only [opL] at h ⊢
  split at h
  ·rename_i d hd
   cases hb:lh E.T d.kd with
   | false=>simp [hb,Prg.hits] at h
   | true=>simp only [hb,cond_true] at h ⊢; exact vV h
  ·exact h.elim
 | buildSlice t len parts =>
  refine ⟨e,?_,rfl⟩
  simp only [opL] at h ⊢
  cases hc:E.cold t && !(len.beq 0) with
  | true =>
   rw [hc] at h
   simp only [cond_true] at h ⊢
   exact h.elim
  | false =>
   rw [hc] at h
   simp only [cond_false] at h ⊢
   unfold iO at h ⊢
   split at h
   ·exact vV h
   ·exact h.elim
 | load t x =>
  rcases vs with _ | ⟨v,_ | ⟨v',r⟩⟩ <;> first | exact h.elim | skip
  refine ⟨e,?_,rfl⟩
  rcases aJ v with h1 | ⟨b,h1,rfl | rfl⟩
  ·simpa only [List.map_cons,List.map_nil,h1] using h
  ·simp only [opL] at h; split at h <;> exact h.elim
  ·simp only [opL] at h; split at h <;> exact h.elim
 | store t x y =>
  rcases vs with _ | ⟨v,_ | ⟨v',_ | ⟨v'',r⟩⟩⟩ <;> first | exact h.elim | skip
  refine ⟨e,?_,rfl⟩
  simp only [opL,List.map_cons,List.map_nil] at h ⊢
  split at h
  ·rcases aJ v with h1 | ⟨b,h1,rfl | rfl⟩
   ·rw [h1]
    unfold wr at h ⊢
    split at h
    ·rename_i e0 _ _ i0 off0 len0 n0
     cases hk0:e0.kd.isAgg with
     | true=>rw [hk0] at h; exact h.elim
     | false =>
      rw [hk0] at h
      simp only [cond_false] at h ⊢
      split at h
      ·exact eW h
      ·exact h.elim
    ·exact eW h
    ·exact eW h
    ·exact h.elim
   ·exact h.elim
   ·exact h.elim
  ·exact h.elim
 | nilCheck x =>
  rcases vs with _ | ⟨v,_ | ⟨v',r⟩⟩ <;> first | exact h.elim | skip
  refine ⟨e,?_,rfl⟩
  rcases aJ v with h1 | ⟨b,h1,rfl | rfl⟩
  ·simpa only [List.map_cons,List.map_nil,h1] using h
  ·exact h.elim
  ·exact h.elim
 | binOp op xt x y yt =>
  rcases vs with _ | ⟨v,_ | ⟨v',_ | ⟨v'',r⟩⟩⟩ <;> first | exact h.elim | skip
  refine ⟨e,?_,rfl⟩
  simp only [opL,List.map_cons,List.map_nil] at h ⊢
  split at h
  ·unfold F4 at h ⊢
   split at h
   ·split at h
    ·exact eW (yL (fun cs h=>eW h) h)
    ·exact h.elim
   ·simp only [Fo,Dr] at h ⊢
    exact h
   ·simp only [FA,A9,ia] at h ⊢
    exact h
  ·exact h.elim
 | unOp op xt x =>
  rcases vs with _ | ⟨v,_ | ⟨v',r⟩⟩ <;> first | exact h.elim | skip
  rcases aJ v with h1 | ⟨b,h1,h2⟩
  ·refine ⟨e,?_,rfl⟩
   simpa only [List.map_cons,List.map_nil,h1] using h
  ·have hv:∃ t,(opL E id look (.unOp op xt x) [v]).hits C e->(Prg.tv (pun op (.lit (.bool b))) vt).hits C e:=⟨(),by rcases h2 with rfl | rfl <;> intro h <;> cases op <;> exact h⟩
   obtain ⟨_,hv⟩:=hv
   obtain ⟨z,hz,hh⟩:=hv h
   cases op with
   | not =>
    simp only [pun,GF] at hz
    subst hz
    cases hh
    refine ⟨.val (.bl !b),?_,rfl⟩
    simp only [List.map_cons,List.map_nil,h1]
    rfl
   | _=>simp [pun] at hz
 | convert xt dt x =>
  rcases vs with _ | ⟨v,_ | ⟨v',r⟩⟩ <;> first | exact h.elim | skip
  refine ⟨e,?_,rfl⟩
  simp only [opL,List.map_cons,List.map_nil,Bb,ia,A9] at h ⊢
  exact h
 | makeSlice t x y =>
  rcases vs with _ | ⟨v,_ | ⟨v',_ | ⟨v'',r⟩⟩⟩ <;> first | exact h.elim | skip
  refine ⟨e,?_,rfl⟩
  simp only [opL,List.map_cons,List.map_nil,ia] at h ⊢
  exact h
 | slice t x lo hi mx =>
  refine ⟨e,?_,rfl⟩
  cases mx with
  | some m=>rcases vs with _ | ⟨v,r⟩ <;> exact h.elim
  | none =>
   rcases vs with _ | ⟨v,r⟩
   ·exact h.elim
   ·simp only [opL, List.map_cons] at h ⊢
    split at h
    ·rename_i d hT
     split at h
     ·rename_i sz hsz
      cases lo with
      | none =>
       cases hi with
       | none =>
        rcases r with _ | ⟨l,r⟩
        ·have:=lZ (look:=look) (kd:=d.kd) (sz:=sz) (x:=v) (lo:=none) (hi:=none)
         simp only [Option.map_none] at this
         simp only [List.map_nil]
         rw [this]; exact h
        ·exact h.elim
       | some hh =>
        rcases r with _ | ⟨l,_ | ⟨l',r⟩⟩
        ·exact h.elim
        ·have:=lZ (look:=look) (kd:=d.kd) (sz:=sz) (x:=v) (lo:=none) (hi:=some l)
         simp only [Option.map_none,GQ] at this
         simp only [List.map_cons,List.map_nil]
         rw [this]; exact h
        ·exact h.elim
      | some ll =>
       cases hi with
       | none =>
        rcases r with _ | ⟨l,_ | ⟨l',r⟩⟩
        ·exact h.elim
        ·have:=lZ (look:=look) (kd:=d.kd) (sz:=sz) (x:=v) (lo:=some l) (hi:=none)
         simp only [Option.map_none,GQ] at this
         simp only [List.map_cons,List.map_nil]
         rw [this]; exact h
        ·exact h.elim
       | some hh =>
        rcases r with _ | ⟨l,_ | ⟨l',_ | ⟨l'',r⟩⟩⟩
        ·exact h.elim
        ·exact h.elim
        ·have:=lZ (look:=look) (kd:=d.kd) (sz:=sz) (x:=v) (lo:=some l) (hi:=some l')
         simp only [GQ] at this
         simp only [List.map_cons,List.map_nil]
         rw [this]; exact h
        ·exact h.elim
     ·exact h.elim
    ·exact h.elim
 | fieldAddr t x f =>
  rcases vs with _ | ⟨v,_ | ⟨v',r⟩⟩ <;> first | exact h.elim | skip
  refine ⟨e,?_,rfl⟩
  rcases aJ v with h1 | ⟨b,h1,rfl | rfl⟩
  ·simpa only [List.map_cons,List.map_nil,h1] using h
  ·simp only [opL] at h
   split at h
   ·rename_i hv
    cases hv
    split at h
    ·rename_i n _ _
     cases hb:Nat.blt 0 n <;> simp [hb,CA.add,Prg.hits] at h
    ·exact h.elim
   ·exact h.elim
  ·simp only [opL] at h
   split at h
   ·rename_i hv; cases hv
   ·exact h.elim
 | field t x f =>
  rcases vs with _ | ⟨v,_ | ⟨v',r⟩⟩ <;> first | exact h.elim | skip
  refine ⟨e,?_,rfl⟩
  rcases aJ v with h1 | ⟨b,h1,rfl | rfl⟩
  ·simpa only [List.map_cons,List.map_nil,h1] using h
  ·simp only [opL] at h
   split at h
   ·split at h <;> exact h.elim
   ·exact h.elim
  ·simp only [opL] at h
   split at h
   ·split at h
    ·simp [wF,TV.isAgg,Prg.hits] at h
    ·exact h.elim
   ·exact h.elim
 | indexAddr t x y =>
  rcases vs with _ | ⟨v,_ | ⟨v',_ | ⟨v'',r⟩⟩⟩ <;> first | exact h.elim | skip
  refine ⟨e,?_,rfl⟩
  simp only [opL,List.map_cons,List.map_nil] at h ⊢
  split at h
  ·rcases aJ v with h1 | ⟨b,h1,rfl | rfl⟩
   ·simp only [h1,pz,ia] at h ⊢; exact h
   ·simp only [pz,ia] at h ⊢; exact h
   ·simp only [pz,ia] at h ⊢; exact h
  ·unfold rr at h ⊢
   rw [ia]
   rcases aJ v with h1 | ⟨b,h1,rfl | rfl⟩
   ·rw [h1]; exact h
   ·split at h
    ·split at h <;> first | exact h.elim | (rename_i hx _; cases hx)
    ·exact h.elim
   ·split at h
    ·split at h <;> first | exact h.elim | (rename_i hx _; cases hx)
    ·exact h.elim
 | index t x y =>
  rcases vs with _ | ⟨v,_ | ⟨v',_ | ⟨v'',r⟩⟩⟩ <;> first | exact h.elim | skip
  refine ⟨e,?_,rfl⟩
  simp only [opL,List.map_cons,List.map_nil,ia] at h ⊢
  split at h
  ·exact h
  ·unfold rf at h ⊢
   rw [ia]
   rcases aJ v with h1 | ⟨b,h1,rfl | rfl⟩
   ·rw [h1]; exact h
   ·split at h
    ·split at h <;> first | exact h.elim | (rename_i hx _; cases hx)
    ·exact h.elim
   ·split at h
    ·split at h <;> first | exact h.elim | (rename_i hx _; cases hx)
    ·exact h.elim
 | extract x j =>
  rcases vs with _ | ⟨v,_ | ⟨v',r⟩⟩ <;> first | exact h.elim | skip
  refine ⟨e,?_,rfl⟩
  rcases aJ v with h1 | ⟨b,h1,rfl | rfl⟩
  ·simpa only [List.map_cons,List.map_nil,h1] using h
  ·exact h.elim
  ·exact h.elim
 | call c =>
  refine ⟨e,?_,rfl⟩
  obtain ⟨callee,args,tys⟩:=c
  cases callee with
  | builtin b =>
   simp only [opL] at h ⊢
   unfold dP at h
   split at h
   ·rename_i x ty htys
    simp only [htys,dP,List.map_cons,List.map_nil]
    split at h
    ·rename_i d hd
     have key:∀ kd,(xb look kd x).hits C e->(xb look kd x.nf).hits C e:=fun kd h=>by rw [E4]; exact h
     exact key _ h
    ·exact h.elim
   ·rename_i s x ty ty' htys
    simp only [htys,dP,List.map_cons,List.map_nil]
    split at h
    ·rename_i _ d hel
     cases hb:Nat.beq ty ty' with
     | false =>
      simp only [hb,cond_false] at h ⊢
      split at h
      ·rename_i hu
       exact h.elim
      ·exact h.elim
     | true =>
      simp only [hb,cond_true] at h ⊢
      unfold nS at h ⊢
      rw [A7,ve]
      rcases aJ s with h1 | ⟨b,h1,rfl | rfl⟩
      ·rw [h1]; exact h
      ·exact h
      ·exact h
    ·exact h.elim
   ·rename_i s x ty ty' htys
    simp only [htys,dP,List.map_cons,List.map_nil]
    split at h
    ·rename_i _ d hel
     cases hb:Nat.beq ty ty' with
     | false=>simp [hb,Prg.hits] at h
     | true =>
      simp only [hb,cond_true] at h ⊢
      unfold AN at h ⊢
      rw [A7,ve]
      rcases aJ s with h1 | ⟨b,h1,rfl | rfl⟩
      ·rw [h1]; exact h
      ·exact h
      ·exact h
    ·exact h.elim
   ·rename_i s ty htys
    simp only [htys,dP,List.map_cons,List.map_nil]
    split at h
    ·exact h.elim
    ·exact h.elim
   ·simp only [dP,List.map_cons,List.map_nil,yP,ia] at h ⊢
    exact h
   ·simp only [dP,List.map_cons,List.map_nil,yP,ia] at h ⊢
    exact h
   ·exact h.elim
  | value f =>
   cases f with
   | func f =>
    rcases vs with _ | ⟨v,r⟩
    ·exact h.elim
    ·simp only [opL,List.map_cons,mL,so,sA,Ew,Dn,CM] at h ⊢
     exact h
   | tmp t =>
    rcases vs with _ | ⟨v,r⟩
    ·exact h.elim
    ·simp only [opL,List.map_cons,ia,so,E8] at h ⊢
     rcases aJ v with h1 | ⟨b,h1,rfl | rfl⟩
     ·rw [h1]; exact h
     ·exact h
     ·exact h
   | _=>exact h.elim
  | invoke r m=>exact h.elim
 | makeInterface t x =>
  rcases vs with _ | ⟨v,_ | ⟨v',r⟩⟩ <;> first | exact h.elim | skip
  refine ⟨e,?_,rfl⟩
  simp only [opL,List.map_cons,List.map_nil,FP] at h ⊢
  exact h
 | typeAssert x xt t ok =>
  rcases vs with _ | ⟨v,_ | ⟨v',r⟩⟩ <;> cases ok <;> first | exact h.elim | skip
  refine ⟨e,?_,rfl⟩
  simp only [opL,List.map_cons,List.map_nil,Dl] at h ⊢
  exact h
 | _=>exact h.elim
theorem lN (st:ASt):st.nfS.look=st.look:=rfl
theorem nY (st:ASt):st.nfS.base=st.base:=rfl
theorem wl (st:ASt) (d:Option Tmp):st.nfS.nid d=st.nid d:=by cases d <;> rfl
theorem iY (st:ASt) (d:Option Tmp) (v:AV):(st.put d v).nfS=st.nfS.put d v.nf:=by
 cases d with
 | none=>rfl
 | some d=>simp [ASt.nfS,ASt.put,ai,List.map_set]
theorem rB (st:ASt) (i:Nat) (b:Option BC):(st.ac i b).nfS=st.nfS.ac i b:=rfl
theorem lB (st:ASt) (t:Nat):nth (.one .junk) st.nfS.slots t=(nth (.one .junk) st.slots t).nf:=by
 simp only [ASt.nfS,bc,GJ]
 cases st.slots[t]? <;> rfl
theorem B8 (ps:List Nat) (st:ASt) (d:Option Nat) (e:Eff):cu ps st.nfS d e.nfE=cu ps st d e:=by
 unfold cu
 congr 1
 funext k
 cases d with
 | none=>rw [nY,cj]
 | some d=>simp only [nY,cj,lB,nE]
theorem Cy {o:Item} {st:ASt} {e:Eff} (h:kw o st e=true):kw o st.nfS e.nfE=true:=nomatch h
theorem tF (st:ASt) (x:Operand):st.nfS.ev x=(st.ev x).nf:=by
 cases x with
 | tmp t=>exact lB st t
 | const v =>
  cases v with
  | bool b=>rfl
  | _=>first | rfl | (simp only [ASt.ev]; cases Value.oneCell' _ <;> rfl)
 | global g=>rfl
 | func f=>rfl
theorem sm:∀ (l:List AV),cF (l.map AV.nf)=cF l
 | []=>rfl
 | v :: l=>by simp only [List.map_cons,cF,ia,sm l]
theorem kr (e:Eff):iq e.nfE=iq e:=by
 cases e with
 | new b v=>cases b <;> rfl
 | _=>rfl
theorem BK {i:Item} {st:ASt} {e:Eff}:gV i st.nfS e.nfE=gV i st e:=by
 unfold gV
 have:i.o.op.operands.toList.map st.nfS.ev=(i.o.op.operands.toList.map st.ev).map AV.nf:=by
  rw [List.map_map]
  exact List.map_congr_left fun x _=>tF st x
 rw [this,sm,kr,cj]
 rfl
theorem yr:∀ (l:List AV),iX (l.map AV.nf)=iX l
 | []=>rfl
 | v :: l=>by simp only [List.map_cons,iX,nE,yr l]
theorem oW (e:Eff):mQ e.nfE=mQ e:=by cases e <;> rfl
theorem zr (e:Eff):drE e.nfE=drE e:=by cases e <;> rfl
theorem rZ (k:Nat) (e:Eff):uC k e.nfE=uC k e:=by cases e <;> rfl
theorem rl (v:AV):(v.nf.bQ CA.deep).g9=(v.bQ CA.deep).g9:=by
 rcases aJ v with h | ⟨b,h,rfl | rfl⟩
 ·rw [h]
 ·rw [h]; rfl
 ·rw [h]; rfl
theorem xR:∀ (l:List AV),iX (ci CA.deep (l.map AV.nf))=iX (ci CA.deep l)
 | []=>rfl
 | v :: l=>by simp only [List.map_cons,ci,iX,rl,xR l]
theorem qG (e:Eff):nH e.nfE=nH e:=by
 cases e with
 | val v=>exact rl v
 | new b v=>exact cj (.new b v)
 | upd i b v=>exact cj (.upd i b v)
 | gen ps v=>exact cj (.gen ps v)
theorem Cp {i:Item} {st:ASt} {e:Eff}:cg i st.nfS e.nfE=cg i st e:=by
 unfold cg
 simp only [oW,zr,rZ]
 rfl
theorem CC {i:Item} {st:ASt} {e:Eff}:dg i st.nfS e.nfE=dg i st e:=by
 unfold dg
 have hd:∀ d b,iW st.nfS d b=iW st d b:=fun d b=>by
  cases d with
  | none=>rfl
  | some d =>
   have:=tF st (.tmp d)
   simp only [ASt.ev] at this
   simp only [iW,this,nE]
 have hd2:∀ d b,gc st.nfS d b=gc st d b:=fun d b=>by
  cases d with
  | none=>rfl
  | some d =>
   have:=tF st (.tmp d)
   simp only [ASt.ev] at this
   simp only [gc,this,rl]
 simp only [hd,hd2,cj,qG]
 have:i.o.op.operands.toList.map st.nfS.ev=(i.o.op.operands.toList.map st.ev).map AV.nf:=by
  rw [List.map_map]
  exact List.map_congr_left fun x _=>tF st x
 rw [this,yr,xR]
 rfl
theorem okE_nf {i:Item} {st:ASt} {e:Eff} (h:okE i st e=true):okE i st.nfS e.nfE=true:=by
 unfold okE at h ⊢
 rw [Bool.or_eq_true] at h ⊢
 rcases h with h | h
 ·rw [Cp]; exact .inl h
 refine .inr ?_
 rw [Bool.or_eq_true] at h ⊢
 rcases h with h | h
 ·rw [nF,yq,nY,B8,BK,CC]; exact .inl h
 ·exact .inr (Cy h)
theorem wg (hs:Sim w0 I0 st a ov w):Sim w0 I0 st.nfS a ov w:=by
 obtain ⟨g,hs⟩:=hs
 refine ⟨g,hs.below,hs.sub,hs.lt,hs.old,by simp [ASt.nfS,hs.len],hs.defers,fun t v hv=>?_,hs.olen,hs.outs,hs.cells,hs.trees,hs.foot,hs.apart,hs.apartR,hs.res,hs.base,hs.out⟩
 simp only [ASt.nfS,GJ] at hv
 cases hsl:st.slots[t]? with
 | none=>simp [hsl] at hv
 | some u =>
  simp only [hsl,GQ,GF] at hv
  subst hv
  exact El.2 (hs.slots t u hsl)
theorem dY (hs:Sim w0 I0 st.nfS a ov w):Sim w0 I0 st a ov w:=by
 obtain ⟨g,hs⟩:=hs
 refine ⟨g,hs.below,hs.sub,hs.lt,hs.old,by have:=hs.len; simpa [ASt.nfS] using this,hs.defers,fun t v hv=>?_,hs.olen,hs.outs,hs.cells,hs.trees,hs.foot,hs.apart,hs.apartR,hs.res,hs.base,hs.out⟩
 exact El.1 (hs.slots t v.nf (by simp [ASt.nfS,hv]))
theorem oC (i r:Nat) (js:List Nat) (b:Bool) (v:AV):(v.bQ (CA.drop i r js b)).nf=v.nf.bQ (CA.drop i r js b):=by
 rcases aJ v with h | ⟨b,h,rfl | rfl⟩
 ·rw [h]
  cases v with
  | one c =>
   have key:∀ c:CA,c.drop i r js b=c\/c.drop i r js b=.junk:=fun c=>by
    rcases fR i r js b c with ⟨h,_⟩ | h
    ·exact .inl h
    ·exact .inr h
   simp only [AV.bQ]
   rcases key c with h' | h'
   ·rw [h',h]
   ·rw [h']; rfl
  | tv x=>exact h
  | _=>rfl
 ·rfl
 ·rfl
theorem ES (st:ASt) (i r:Nat) (js:List Nat) (b:Bool):(st.au (CA.drop i r js b)).nfS=st.nfS.au (CA.drop i r js b):=by
 simp only [ASt.nfS,ASt.au]
 congr 1
 apply List.ext_getElem?
 intro t
 simp only [GJ,lV]
 cases st.slots[t]? with
 | none=>rfl
 | some v=>simp [oC]
theorem qb (i:Nat) (v:AV):(v.bQ (CA.unM i)).nf=v.nf.bQ (CA.unM i):=by
 cases v with
 | one c =>
  cases c with
  | t x =>
   cases x with
   | lit u=>cases u <;> rfl
   | _=>rfl
  | may j ty =>
   simp only [AV.bQ,CA.unM,AV.nf]
   cases j.beq i <;> rfl
  | _=>rfl
 | tv x =>
  cases x with
  | lit u=>cases u <;> rfl
  | _=>rfl
 | _=>rfl
theorem Fy (st:ASt) (i:Nat):(st.au (CA.unM i)).nfS=st.nfS.au (CA.unM i):=by
 simp only [ASt.au,ASt.nfS]
 congr 1
 induction st.slots with
 | nil=>rfl
 | cons v l ih=>simp only [ci,List.map_cons,qb,ih]
theorem vA {i:Nat} {b:BC} (h:st.bu i b=some st'):st.nfS.bu i b=some st'.nfS:=by
 obtain ⟨h1,h2,rfl⟩:=bo h
 have h2':i.blt st.nfS.boxes.length=true:=by simpa [ASt.nfS] using h2
 simp only [ASt.bu,lN,h1,h2',cond_true,rB]
theorem qm {d:Option Tmp}:∀ {ps:List Prim} {st st':ASt},ae d ps st=some st'->ae d ps st.nfS=some st'.nfS
 | [],st,st',h=>by simp only [ae,GF] at h; subst h; rfl
 | p :: ps, st, st', h => by
  simp only [ae] at h ⊢
  cases h1:p.app st d with
  | none=>simp [h1] at h
  | some s1 =>
   simp only [h1] at h
   have:p.app st.nfS d=some s1.nfS:=by
    cases p with
    | drop i r js b =>
     simp only [Prim.app,GF] at h1 ⊢
     subst h1
     rw [ES]
    | root i r x =>
     simp only [Prim.app,lN] at h1 ⊢
     split at h1
     ·rename_i b hb
      simp only [GF] at h1
      subst h1
      rfl
     ·cases h1
    | frz i r =>
     simp only [Prim.app,lN] at h1 ⊢
     split at h1
     ·rename_i x hx
      split at h1
      ·rename_i b hb
       simp only [GF] at h1
       subst h1
       rfl
      ·cases h1
     ·cases h1
    | unmay i =>
     simp only [Prim.app,GF] at h1 ⊢
     subst h1
     rw [Fy]
    | newB b =>
     cases d with
     | none=>simp [Prim.app] at h1
     | some d =>
      simp only [Prim.app] at h1 ⊢
      rw [wl]
      exact vA h1
    | setB i cs =>
     simp only [Prim.app,lN] at h1 ⊢
     split at h1
     ·simp only [GF] at h1
      subst h1
      rfl
     ·cases h1
   rw [this]
   exact qm h
theorem app_nf {e:Eff} {d:Option Tmp} (h:e.app st d=some st'):e.nfE.app st.nfS d=some st'.nfS:=by
 cases e with
 | val v =>
  simp only [Eff.app,Eff.nfE,GF] at h ⊢
  subst h
  rw [iY]
 | new b v =>
  cases d with
  | none=>simp [Eff.app] at h
  | some d =>
   simp only [Eff.app,Eff.nfE] at h ⊢
   rw [wl]
   split at h
   ·rename_i s1 hs1
    simp only [GF] at h
    subst h
    rw [vA hs1]
    simp only [iY]
   ·cases h
 | upd i b v =>
  simp only [Eff.app,Eff.nfE,GF] at h ⊢
  subst h
  rw [iY,rB]
 | gen ps v =>
  simp only [Eff.app,Eff.nfE] at h ⊢
  split at h
  ·rename_i s1 hs1
   simp only [GF] at h
   subst h
   rw [qm hs1]
   simp only [iY]
  ·cases h
theorem kf {d:Option Tmp} {v:AV} (hs:Sim w0 I0 (st.put d v) a ov w):Sim w0 I0 (st.put d v.nf) a ov w:=by
 apply dY
 have:=wg hs
 rw [iY] at this ⊢
 rwa [uG]
theorem AA {e:Eff} {d:Option Tmp} (h:e.nfE.app st d=some st'):∃ st1,e.app st d=some st1/\∀ w0 I0 a ov w,Sim w0 I0 st1 a ov w->Sim w0 I0 st' a ov w:=by
 cases e with
 | val v =>
  simp only [Eff.app,Eff.nfE,GF] at h ⊢
  subst h
  exact ⟨_,rfl,fun w0 I0 a ov w hs=>kf hs⟩
 | new b v =>
  cases d with
  | none=>simp [Eff.app,Eff.nfE] at h
  | some d =>
   simp only [Eff.app,Eff.nfE] at h ⊢
   split at h
   ·rename_i s1 hs1
    simp only [GF] at h
    subst h
    exact ⟨_,rfl,fun w0 I0 a ov w hs=>kf hs⟩
   ·cases h
 | upd i b v =>
  simp only [Eff.app,Eff.nfE,GF] at h ⊢
  subst h
  exact ⟨_,rfl,fun w0 I0 a ov w hs=>kf hs⟩
 | gen ps v =>
  simp only [Eff.app,Eff.nfE] at h ⊢
  split at h
  ·rename_i s1 hs1
   simp only [GF] at h
   subst h
   exact ⟨_,rfl,fun w0 I0 a ov w hs=>kf hs⟩
  ·cases h
end
end Go.Ab
end
section
namespace Go.Ab
open Go.RowKit
def Prg.All {R:Type} (p:R->Prop):Prg R->Prop
 | .fail=>True
 | .ret e=>p e
 | .tv _ k=>∀ v,(k v).All p
 | .tvs _ k=>∀ v,(k v).All p
 | .rws _ k=>∀ v,(k v).All p
 | .nat _ k=>∀ v,(k v).All p
 | .chk _ k=>k.All p
 | .ite _ t e=>t.All p/\e.All p
 | .call _ _ k=>∀ v,(k v).All p
 | .jmp _ _=>True
theorem Prg.All.hits {R:Type} {C:Cal} {p:R->Prop} {e:R}:∀ {o:Prg R},o.All p->o.hits C e->p e
 | .ret e',h,h'=>by cases h'; exact h
 | .tv _ k,h,⟨v,_,h'⟩=>(h v).hits h'
 | .tvs _ k,h,⟨v,_,h'⟩=>(h v).hits h'
 | .rws _ k,h,⟨v,_,h'⟩=>(h v).hits h'
 | .nat _ k,h,⟨v,_,h'⟩=>(h v).hits h'
 | .chk _ k,h,⟨_,h'⟩=>Prg.All.hits (o:=k) h h'
 | .ite _ t e,h,⟨v,_,.inl ⟨_,h'⟩⟩=>Prg.All.hits (o:=t) h.1 h'
 | .ite _ t e,h,⟨v,_,.inr ⟨_,h'⟩⟩=>Prg.All.hits (o:=e) h.2 h'
 | .call _ _ k,h,⟨v,_,h'⟩=>(h v).hits h'
section
variable {E:Env} {look look':Look} {p:Eff->Prop} {id:Nat}
theorem aK {b:Bool} {x y:Out} (hx:x.All p) (hy:y.All p):(bif b then x else y).All p:=by cases b <;> assumption
theorem lw {q:Way} {x:TV} {k:TV->Out} (h:∀ y,(k y).All p):(qN q x k).All p:=by
 unfold qN
 split
 ·exact h _
 ·exact h
theorem fw {c:CA} {k:TV->Out} (h:∀ y,(k y).All p):(iK look c k).All p:=by
 unfold iK
 split
 ·exact h _
 ·split
  ·exact lw h
  ·exact trivial
 ·split
  ·exact lw fun y z=>h z
  ·exact trivial
 ·exact trivial
theorem nz {v:AV} {k:TV->Out} (h:∀ y,(k y).All p):(sh look v k).All p:=by
 unfold sh
 split
 ·exact fw h
 ·exact h _
 ·exact h _
 ·exact trivial
theorem vb {c:CA} {k:TV->Out} (h:∀ y,(k y).All p):(tT look c k).All p:=by
 unfold tT
 split
 ·exact h _
 ·exact fw fun y=>h _
 ·exact fw fun y=>h _
 ·exact trivial
theorem vJ {k:List TV->Out}:∀ {cs:List CA} {k:List TV->Out},(∀ y,(k y).All p)->(AL look cs k).All p
 | [],k,h=>h _
 | c :: cs,k,h=>vb fun y=>vJ (k:=fun _=>.fail) fun ys=>h _
theorem Bg {v:AV} {k:TV->Out} (h:∀ y,(k y).All p):(tN look v k).All p:=by
 unfold tN
 split
 ·exact vb h
 ·exact h _
 ·exact vJ (k:=fun _=>.fail) fun ys=>h _
 ·exact trivial
 ·exact trivial
 ·exact h _
theorem pl:∀ {vs:List AV} {k:List TV->Out},(∀ y,(k y).All p)->(lends look vs k).All p
 | [],k,h=>h _
 | v :: vs,k,h=>Bg fun y=>pl fun ys=>h _
theorem uX {c:CA} {k:TV->List (Nat × Nat)->Out} (h:∀ y r,(k y r).All p):(rN look c k).All p:=by
 unfold rN
 split
 ·exact h _ _
 ·split
  ·split
   ·exact h _ _
   ·exact fun y=>h _ _
  ·exact trivial
 ·split
  ·split
   ·exact fun y=>h _ _
   ·exact fun z y=>h _ _
  ·exact trivial
 ·exact trivial
theorem vh:∀ {cs:List CA} {k:List TV->List (Nat × Nat)->Out},(∀ y r,(k y r).All p)->(AB look cs k).All p
 | [],k,h=>h _ _
 | c :: cs,k,h=>uX fun y r=>vh fun ys rs=>h _ _
theorem Ce {v:AV} {k:TV->List (Nat × Nat)->Out} (h:∀ y r,(k y r).All p):(t9 look v k).All p:=by
 unfold t9
 split
 ·exact uX h
 ·exact h _ _
 ·exact vh fun ys rs=>h _ _
 ·exact trivial
 ·exact trivial
 ·exact h _ _
theorem pm:∀ {vs:List AV} {k:List TV->List (Nat × Nat)->Out},(∀ y r,(k y r).All p)->(hands look vs k).All p
 | [],k,h=>h _ _
 | v :: vs,k,h=>Ce fun y r=>pm fun ys rs=>h _ _
theorem dK:∀ {cs:List CA} {k:List TV->List Prim->List (Nat × Nat)->Out},(∀ y q r,(k y q r).All p)->(co look cs k).All p
 | [],k,h=>h _ _ _
 | .t x :: l,k,h=>by
  simp only [co]
  exact dK (cs:=l) fun xs ps ts=>h _ _ _
 | .sref i r q :: l, k, h => by
  simp only [co]
  split
  ·split
   ·exact dK (cs:=l) fun xs ps ts=>h _ _ _
   ·exact fun y=>dK (cs:=l) fun xs ps ts=>h _ _ _
  ·exact trivial
 | .swin i r q lo len :: l, k, h => by
  simp only [co]
  split
  ·split
   ·exact fun y=>dK (cs:=l) fun xs ps ts=>h _ _ _
   ·exact fun z y=>dK (cs:=l) fun xs ps ts=>h _ _ _
  ·exact trivial
 | .ptr _ _ :: l,k,h=>trivial
 | .ref _ _ :: l,k,h=>trivial
 | .tptr _ _ _ _ _ :: l,k,h=>trivial
 | .may _ _ :: l,k,h=>trivial
 | .aptr _ _ _ _ :: l,k,h=>trivial
 | .ifp _ _ :: l,k,h=>trivial
 | .fn1 _ _ :: l,k,h=>trivial
 | .psl _ _ :: l,k,h=>trivial
 | .yl _ :: l,k,h=>trivial
 | .undef :: l,k,h=>trivial
 | .junk :: l,k,h=>trivial
theorem dS:∀ {cs:List CA} {k:List TV->List Prim->List (Nat × Nat)->Out},(∀ y q r,(k y q r).All p)->(bU look cs k).All p
 | [],k,h=>h _ _ _
 | .t x :: l,k,h=>by
  simp only [bU]
  exact dS (cs:=l) fun xs ps ts=>h _ _ _
 | .sref i r q :: l, k, h => by
  simp only [bU]
  split
  ·split
   ·exact dS (cs:=l) fun xs ps ts=>h _ _ _
   ·exact fun y=>⟨dS (cs:=l) fun xs ps ts=>h _ _ _,fun x'=>dS (cs:=l) fun xs ps ts=>h _ _ _⟩
  ·exact trivial
 | .swin i r q lo len :: l, k, h => by
  simp only [bU]
  split
  ·split
   ·exact fun y=>dS (cs:=l) fun xs ps ts=>h _ _ _
   ·exact fun z y=>dS (cs:=l) fun xs ps ts=>h _ _ _
  ·exact trivial
 | .ptr _ _ :: l,k,h=>trivial
 | .ref _ _ :: l,k,h=>trivial
 | .tptr _ _ _ _ _ :: l,k,h=>trivial
 | .may _ _ :: l,k,h=>trivial
 | .aptr _ _ _ _ :: l,k,h=>trivial
 | .ifp _ _ :: l,k,h=>trivial
 | .fn1 _ _ :: l,k,h=>trivial
 | .psl _ _ :: l,k,h=>trivial
 | .yl _ :: l,k,h=>trivial
 | .undef :: l,k,h=>trivial
 | .junk :: l,k,h=>trivial
theorem dR {agg:Bool} {n:Nat} {x:AV} {k:List CA->Out} (h:∀ cs,(k cs).All p):(x.aZ agg n k).All p:=by
 unfold AV.aZ
 split
 ·rename_i c; cases c.kept <;> first | exact trivial | exact h _
 ·exact h _
 ·exact h _
 ·exact h _
 ·rename_i cs; cases cs.length.beq n <;> first | exact trivial | exact h _
 ·exact h _
 ·exact trivial
theorem sP {at_:Nat->Option (Nat × Bool × Nat)} {k:List CA->Out} (h:∀ cs,(k cs).All p):∀ (is:List Nat) (vs:List AV) (cs:List CA),(bR at_ is vs cs k).All p
 | [],[],cs=>h cs
 | i :: is, x :: vs, cs => by
  simp only [bR]
  split
  ·refine dR (fun ps=>?_)
   exact aK (sP h is vs _) trivial
  ·exact trivial
 | [],_ :: _,cs=>trivial
 | _ :: _,[],cs=>trivial
theorem eH {v:Option AV} {k:Option Nat->Out} (h:∀ n,(k n).All p):(eY v k).All p:=by
 unfold eY
 split
 ·exact h _
 ·split
  ·exact fun v=>h _
  ·exact trivial
abbrev gK (e:Eff):Prop:=∃ v,e=.val v
abbrev kS (e:Eff):Prop:=∃ b v,e=.new b v
theorem xi {d:TyD} {x:List TV} {off:Nat}:(kG d x off).All gK:=by
 unfold kG
 cases d.kd.isAgg
 ·exact ⟨_,rfl⟩
 ·exact ⟨_,rfl⟩
theorem vp:∀ {vs:List AV} {k:List CA->Out},(∀ cs,(k cs).All p)->(kt vs k).All p
 | [],k,h=>h _
 | v :: vs,k,h=>dR fun cs=>vp fun cs'=>h _
theorem vm {b k:Nat}:∀ {n:Nat},(A6 b k n).All gK
 | 0=>trivial
 | n + 1=>⟨⟨_,rfl⟩,vm⟩
theorem Gw {op:Op} (h:am op=.N) (vs:List AV):(opL E id look op vs).All gK:=by
 cases op with
 | move x=>rcases vs with _ | ⟨v,_ | ⟨v',r⟩⟩ <;> first | exact trivial | exact ⟨_,rfl⟩
 | assign x=>rcases vs with _ | ⟨v,_ | ⟨v',r⟩⟩ <;> first | exact trivial | exact ⟨_,rfl⟩
 | pick c x y =>
  rcases vs with _ | ⟨v,_ | ⟨v',_ | ⟨v'',_ | ⟨v3,r⟩⟩⟩⟩ <;> first | exact trivial | skip
  simp only [opL]
  split <;> first | exact trivial | exact ⟨_,rfl⟩ | exact ⟨⟨_,rfl⟩,⟨_,rfl⟩⟩
 | build t parts =>
  simp only [opL]
  split
  ·refine aK ?_ trivial
   refine sP ?_ _ _ _
   exact fun cs=>⟨_,rfl⟩
  ·exact trivial
 | nilCheck x =>
  rcases vs with _ | ⟨v,_ | ⟨v',r⟩⟩ <;> first | exact trivial | skip
  simp only [opL]
  split <;> first | exact trivial | exact ⟨_,rfl⟩
 | unOp op xt x =>
  rcases vs with _ | ⟨v,_ | ⟨v',r⟩⟩ <;> first | exact trivial | skip
  simp only [opL]
  split
  ·exact ⟨_,rfl⟩
  ·split
   ·exact fun v=>⟨_,rfl⟩
   ·exact trivial
 | fieldAddr t x f =>
  rcases vs with _ | ⟨v,_ | ⟨v',r⟩⟩ <;> first | exact trivial | skip
  simp only [opL]
  split
  ·split
   ·refine aK ?_ trivial
    split <;> first | exact trivial | exact ⟨_,rfl⟩
   ·exact trivial
  ·exact trivial
 | field t x f =>
  rcases vs with _ | ⟨v,_ | ⟨v',r⟩⟩ <;> first | exact trivial | skip
  simp only [opL]
  split
  ·split
   ·unfold wF
    split
    ·split
     ·split <;> first | exact trivial | exact ⟨_,rfl⟩
     ·exact trivial
    ·exact ⟨_,rfl⟩
    ·exact trivial
   ·exact trivial
  ·exact trivial
 | index t x y =>
  rcases vs with _ | ⟨v,_ | ⟨v',_ | ⟨v'',r⟩⟩⟩ <;> first | exact trivial | skip
  simp only [opL]
  split
  ·exact fun v=>⟨_,rfl⟩
  ·unfold rf
   split
   ·split
    ·refine aK ?_ trivial
     split
     ·exact fun k v=>⟨_,rfl⟩
     ·exact trivial
    ·exact trivial
   ·exact trivial
 | extract x j =>
  rcases vs with _ | ⟨v,_ | ⟨v',r⟩⟩ <;> first | exact trivial | skip
  simp only [opL]
  split
  ·split
   ·split <;> first | exact trivial | exact ⟨_,rfl⟩
   ·exact trivial
  ·exact trivial
 | makeFunc fn first cap =>
  cases fn with
  | func f =>
   simp only [opL]
   exact aK (vp fun cs=>⟨_,rfl⟩) trivial
  | _=>exact trivial
 | call c =>
  obtain ⟨callee,args,tys⟩:=c
  cases callee with
  | builtin b=>cases b <;> simp [am] at h
  | value f=>cases f <;> simp [am] at h
  | invoke r m=>simp [am] at h
 | makeInterface t x =>
  rcases vs with _ | ⟨v,_ | ⟨v',r⟩⟩ <;> first | exact trivial | skip
  simp only [opL]
  split
  ·unfold De
   refine aK ?_ trivial
   split
   ·exact ⟨_,rfl⟩
   ·split
    ·exact fun v=>⟨_,rfl⟩
    ·exact trivial
  ·exact trivial
 | typeAssert x xt t ok =>
  rcases vs with _ | ⟨v,_ | ⟨v',r⟩⟩ <;> cases ok <;> first | exact trivial | skip
  simp only [opL]
  split
  ·unfold u9
   refine aK ?_ trivial
   split
   ·exact fun v=>⟨_,rfl⟩
   ·exact trivial
  ·exact trivial
 | _=>simp [am] at h
theorem DM {op:Op} (h:am op=.R) (vs:List AV):(opL E id look op vs).All gK:=by
 cases op with
 | load t x =>
  rcases vs with _ | ⟨v,_ | ⟨v',r⟩⟩ <;> first | exact trivial | skip
  simp only [opL]
  split
  ·unfold AD
   split
   ·refine aK trivial ?_
    split
    ·exact fun v=>⟨_,rfl⟩
    ·exact trivial
   ·split
    ·split
     ·split
      ·exact ⟨_,rfl⟩
      ·exact trivial
     ·exact trivial
    ·exact trivial
   ·exact xi
   ·split
    ·refine lw (fun s e=>?_)
     simp only [Prg.All]
     split
     ·exact ⟨_,rfl⟩
     ·exact trivial
    ·exact trivial
   ·exact trivial
  ·exact trivial
 | convert xt dt x =>
  rcases vs with _ | ⟨v,_ | ⟨v',r⟩⟩ <;> first | exact trivial | skip
  simp only [opL]
  split
  ·unfold Bb
   split
   ·exact trivial
   ·split
    ·exact fun v=>⟨_,rfl⟩
    ·exact trivial
  ·exact trivial
 | binOp op xt x y yt =>
  rcases vs with _ | ⟨v,_ | ⟨v',_ | ⟨v'',r⟩⟩⟩ <;> first | exact trivial | skip
  simp only [opL]
  split
  ·unfold F4
   split
   ·split
    ·refine dR fun cs=>dR fun cs'=>?_
     split
     ·exact fun v=>⟨_,rfl⟩
     ·exact trivial
    ·exact trivial
   ·unfold Fo
    split
    ·exact ⟨_,rfl⟩
    ·exact ⟨_,rfl⟩
    ·exact trivial
   unfold FA
   refine aK (nz fun x=>nz fun y=>fun v=>⟨_,rfl⟩) ?_
   split
   ·exact fun v=>⟨_,rfl⟩
   ·exact trivial
  ·exact trivial
 | slice t x lo hi mx =>
  have sl:∀ {kd:Kd} {sz:Nat} {x:AV} {lo hi:Option AV},(iF look kd sz x lo hi).All gK:=by
   intro kd sz x lo hi
   unfold iF
   split
   ·exact eH fun lo=>eH fun hi=>fun v=>⟨_,rfl⟩
   ·split
    ·exact fw fun s n=>eH fun lo=>eH fun hi=>⟨_,rfl⟩
    ·split
     ·exact fw fun s=>eH fun hi=>⟨_,rfl⟩
     ·exact fw fun s=>eH fun lo=>eH fun hi=>⟨_,rfl⟩
    ·exact trivial
  cases mx with
  | some m=>rcases vs with _ | ⟨v,r⟩ <;> exact trivial
  | none =>
   rcases vs with _ | ⟨v,r⟩
   ·exact trivial
   ·simp only [opL]
    split
    ·split
     ·split <;> first | exact trivial | exact sl
     ·exact trivial
    ·exact trivial
 | indexAddr t x y =>
  rcases vs with _ | ⟨v,_ | ⟨v',_ | ⟨v'',r⟩⟩⟩ <;> first | exact trivial | skip
  simp only [opL]
  split
  ·unfold pz
   split
   ·split
    ·exact fun v=>⟨_,rfl⟩
    ·split
     ·exact fw fun s n k=>⟨_,rfl⟩
     ·exact fw fun s k=>⟨_,rfl⟩
     ·exact aK (fun k=>vm) trivial
     ·exact trivial
   ·exact trivial
  ·unfold rr
   split
   ·split
    ·exact aK (fun k=>⟨_,rfl⟩) trivial
    ·exact trivial
   ·exact trivial
 | call c =>
  obtain ⟨callee,args,tys⟩:=c
  cases callee with
  | builtin b =>
   have mn:∀ {mx:Bool} {x y:AV},(yP mx x y).All gK:=by
    intro mx x y
    unfold yP
    split
    ·exact fun v=>⟨_,rfl⟩
    ·exact trivial
   cases b <;> simp [am] at h
   all_goals simp only [opL]
   all_goals unfold dP
   all_goals split <;> first | exact trivial | exact mn | contradiction | skip
   split
   ·unfold xb
    split
    ·exact ⟨_,rfl⟩
    ·split
     ·exact ⟨_,rfl⟩
     ·exact nz fun s v=>⟨_,rfl⟩
    ·exact nz fun s v=>⟨_,rfl⟩
   ·exact trivial
  | value f=>cases f <;> simp [am] at h
  | invoke r m=>simp [am] at h
 | _=>simp [am] at h
theorem cls_A {op:Op} (h:am op=.A) (vs:List AV):(opL E id look op vs).All kS:=by
 cases op with
 | alloc t =>
  rcases vs with _ | ⟨v,r⟩ <;> first | exact trivial | skip
  simp only [opL]
  split
  ·exact ⟨_,_,rfl⟩
  ·exact trivial
 | box t x =>
  rcases vs with _ | ⟨v,_ | ⟨v',r⟩⟩ <;> first | exact trivial | skip
  simp only [opL]
  split
  ·exact dR (fun cs=>⟨_,_,rfl⟩)
  ·exact trivial
 | makeSlice t x y =>
  rcases vs with _ | ⟨v,_ | ⟨v',_ | ⟨v'',r⟩⟩⟩ <;> first | exact trivial | skip
  simp only [opL]
  split
  ·refine aK ?_ trivial
   exact fun n m=>⟨_,_,rfl⟩
  ·exact trivial
 | call c =>
  obtain ⟨callee,args,tys⟩:=c
  cases callee with
  | builtin b=>cases b <;> simp [am] at h
  | value f=>cases f <;> simp [am] at h
  | invoke r m=>simp [am] at h
 | _=>simp [am] at h
theorem iT {ps:List Prim} {b:BC} {v:AV}:(cA ps b v).plain=true->gK (cA ps b v)\/kS (cA ps b v):=by
 cases ps with
 | nil=>exact fun _=>.inr ⟨_,_,rfl⟩
 | cons q l=>exact fun h=>by cases h
theorem vE {ps:List Prim} {v:AV}:(match ps with | []=>Eff.val v | _=>.gen ps v).plain=true->gK (match ps with | []=>Eff.val v | _=>.gen ps v)\/kS (match ps with | []=>Eff.val v | _=>.gen ps v):=by
 cases ps with
 | nil=>exact fun _=>.inl ⟨_,rfl⟩
 | cons q l=>exact fun h=>by cases h
theorem kO {d:TyD} {x:TV} {k:Out} (h:k.All p):(jq d x k).All p:=by
 unfold jq
 exact aK h h
theorem qq {x:TV} {k:Out} (h:k.All p):∀ (ds:List TyD) (j:Nat),(fU x ds j k).All p
 | [],j=>h
 | d :: ds,j=>kO (qq h ds (j + 1))
theorem yi {ds:List TyD} {v:TV} {ps:List Prim}:(wy id ds v ps).All fun e=>e.plain=true->gK e\/kS e:=by
 have many:∀ ds:List TyD,(Prg.chk (v.isTup ds.length) (fU v ds 0 (bif gE ds then .ret (cA ps (.tree (bn v ds 0)) (.tups (dv id v ds 0 0)))
   else .ret (match ps with | []=>.val (.tups (dv id v ds 0 0)) | _=>.gen ps (.tups (dv id v ds 0 0)))))).All fun e=>e.plain=true->gK e\/kS e:=by
  intro ds
  refine qq ?_ ds 0
  exact aK iT vE
 match ds with
 | []=>exact many []
 | [d] =>
  simp only [wy]
  refine kO ?_
  split
  ·exact aK iT vE
  ·exact trivial
 | d :: d' :: l=>exact many _
theorem Dz {ds:List TyD} {v:TV} {k:AV->Out} {p:Eff->Prop} (h:∀ av,(k av).All p):(EB id ds v k).All p:=by
 have some:∀ (ds:List TyD) (j:Nat) (k:Out),k.All p->(fU v ds j k).All p:=by
  intro ds
  induction ds with
  | nil=>intro j k h; exact h
  | cons d ds ih=>intro j k h; exact kO (ih (j + 1) k h)
 unfold EB
 split
 ·refine kO ?_
  split
  ·exact h _
  ·exact trivial
 ·exact some _ 0 _ (h _)
theorem BY {f:FuncId} {ld:dJ} {vs:List AV}:(oH E id look f ld vs).All fun e=>e.plain=true->gK e\/kS e:=by
 unfold oH
 split
 ·split
  ·refine aK trivial ?_
   exact pm fun xs rs=>dK fun ys qs ts=>aK (fun v=>Dz fun av=>fun h=>by simp [Eff.plain] at h) trivial
  ·exact trivial
 ·exact trivial
theorem BT {f:FuncId} {c:Nat × Nat} {vs:List AV}:(yD look f c vs).All fun e=>e.plain=true->gK e\/kS e:=by
 exact trivial
theorem Cb {f:FuncId} {vs:List AV}:(rU look f vs).All fun e=>e.plain=true->gK e\/kS e:=by
 exact trivial
theorem Dx {f:FuncId} {i:Nat} {vs:List AV}:(Db E id look f i vs).All fun e=>e.plain=true->gK e\/kS e:=by
 exact trivial
theorem cls_B {op:Op} (h:am op=.B) (vs:List AV):(opL E id look op vs).All fun e=>e.plain=true->gK e\/kS e:=by
 cases op with
 | buildSlice t len parts =>
  simp only [opL]
  refine aK ?_ ?_
  ·exact trivial
  unfold iO
  split
  ·refine sP (fun cs=>?_) _ _ _
   refine aK (fun _=>.inr ⟨_,_,rfl⟩) ?_
   refine dS fun ys qs ts=>?_
   exact aK iT trivial
  ·exact trivial
 | call c =>
  obtain ⟨callee,args,tys⟩:=c
  cases callee with
  | builtin b=>cases b <;> simp [am] at h
  | value f =>
   cases f with
   | func f =>
    rcases vs with _ | ⟨v,r⟩
    ·exact trivial
    ·simp only [opL,mL]
     refine aK Cb (aK trivial ?_)
     split
     ·exact BT
     split
     ·exact BY
     ·split
      ·refine aK ?_ ?_
       ·exact pl fun xs=>fun v=>yi
       ·exact pm fun xs rs=>aK (fun v=>yi) trivial
      ·exact trivial
   | tmp t =>
    rcases vs with _ | ⟨v,r⟩
    ·exact trivial
    ·simp only [opL]
     split
     ·exact fun f=>pl fun xs v=>fun _=>.inl ⟨_,rfl⟩
     ·split
      ·exact Dx
      ·exact trivial
   | _=>simp [am] at h
  | invoke r m=>simp [am] at h
 | _=>simp [am] at h
abbrev isUpd (look:Look) (e:Eff):Prop:=∃ i b v,e=.upd i b v/\(look i).isSome=true
theorem C2 {op : Op} (h : am op = .W) (vs : List AV) : (opL E id look op vs).All fun e => e.plain = true → isUpd look e := by
 cases op with
 | store t x y =>
  rcases vs with _ | ⟨v,_ | ⟨v',_ | ⟨v'',r⟩⟩⟩ <;> first | exact trivial | skip
  simp only [opL]
  split
  ·unfold wr
   split
   ·refine aK trivial ?_
    split
    ·rename_i cs xs hrow
     refine dR (fun ps=>?_)
     split
     ·exact fun _=>⟨_,_,_,rfl,by simp [(iU hrow).1]⟩
     ·exact trivial
    ·exact trivial
   ·refine dR (fun ps=>?_)
    split
    ·rename_i cs hl
     exact aK (fun _=>⟨_,_,_,rfl,by simp [hl]⟩) trivial
    ·exact trivial
   ·refine dR (fun ps=>?_)
    split
    ·refine aK trivial (aK ?_ ?_)
     ·refine dK fun ys qs ts=>aK ?_ trivial
      exact lw fun s e=>fun x' hp=>by cases hp
     ·refine dK fun ys qs ts=>?_
      split
      ·refine aK ?_ trivial
       refine lw fun s e=>?_
       simp only [Prg.All]
       intro x'
       split
       ·rename_i b hb
        refine fun _=>⟨_,_,_,rfl,?_⟩
        unfold cb at hb
        split at hb
        ·rename_i hl; simp [hl]
        ·cases hb
       ·exact trivial
      ·exact trivial
    ·exact trivial
   ·exact trivial
  ·exact trivial
 | call c =>
  obtain ⟨callee,args,tys⟩:=c
  cases callee with
  | builtin b=>cases b <;> simp [am] at h
  | value f=>cases f <;> simp [am] at h
  | invoke r m=>simp [am] at h
 | _=>simp [am] at h
theorem x7 {d:TyD} {s:AV} {news:List (List TV)} {ps:List Prim}:(nL id look d s news ps).All fun e=>e.plain=true->gK e\/kS e:=by
 unfold nL
 split
 ·exact aK (fun y=>iT) trivial
 ·split
  ·split
   ·split
    ·exact fun y h=>by cases h
    ·exact fun z y x' h=>by cases h
   ·exact trivial
  ·split
   ·split
    ·exact fun z y h=>by cases h
    ·exact fun z0 z y x' h=>by cases h
   ·exact trivial
  ·exact trivial
theorem Es {d:TyD} {dest:Option Nat} {x:AV} {k:List (List TV)->List Prim->Out} (h:∀ xs ps,(k xs ps).All p):(yJ look d dest x k).All p:=by
 unfold yJ
 split
 ·exact fun xs=>h _ _
 ·split
  ·refine aK ?_ ?_
   ·split
    ·split
     ·split
      ·exact aK trivial (fun xs=>h _ _)
      ·exact fun y=>fun xs=>h _ _
     ·exact trivial
    ·split
     ·split
      ·exact aK trivial (fun y xs=>h _ _)
      ·exact fun z y=>fun xs=>h _ _
     ·exact trivial
    ·exact trivial
   ·exact fw (fun s xs=>h _ _)
  ·exact trivial
theorem cls_P {op:Op} (h:am op=.P) (vs:List AV):(opL E id look op vs).All fun e=>e.plain=true->gK e\/kS e:=by
 cases op with
 | call c =>
  obtain ⟨callee,args,tys⟩:=c
  cases callee with
  | builtin b =>
   cases b <;> simp [am] at h
   simp only [opL]
   unfold dP
   split <;> try (first | exact trivial | contradiction)
   split
   ·refine aK ?_ ?_
    ·unfold nS
     exact aK (Es (fun xs ps=>x7)) trivial
    ·split
     ·exact trivial
     ·exact trivial
   ·exact trivial
  | value f=>cases f <;> simp [am] at h
  | invoke r m=>simp [am] at h
 | _=>simp [am] at h
theorem uI {op:Op} (h:am op=.N\/am op=.A) (vs:List AV):opL E id look op vs=opL E id look' op vs:=by
 cases op <;> first
  | (rcases vs with _ | ⟨a,_ | ⟨b,_ | ⟨c,_ | ⟨d,r⟩⟩⟩⟩ <;> rfl)
  | (simp [am] at h; done)
  | (rename_i fn _ _; cases fn <;> rfl)
  | (rename_i ok; cases ok <;> rcases vs with _ | ⟨a,_ | ⟨b,r⟩⟩ <;> rfl)
  | skip
 all_goals
  rename_i c
  obtain ⟨callee,args,tys⟩:=c
  cases callee with
  | builtin b=>cases b <;> simp [am] at h
  | value f=>cases f <;> simp [am] at h
  | invoke r m=>simp [am] at h
end
end Go.Ab
end

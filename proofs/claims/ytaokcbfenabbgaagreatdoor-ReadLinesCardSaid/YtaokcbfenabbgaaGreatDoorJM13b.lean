import Derived.Test.YtaokcbfenabbgaaGreatDoorJM12b
set_option linter.all false
section
namespace Go.Ab
open Go.RowKit
structure fJ (P:Program) (G:Laid) (E:Env) (C:Cal):Prop where
 ty:∀ t d,E.T t=some d->aR P t d
 call:wt P G E C
section
variable {P:Program} {E:Env} {C:Cal} {w0:Bs} {w w':World} {I0 I R:Nat->Prop} {g g':Gh} {st st':ASt} {a:Act} {ov:List Value} {look:Look} {Q:Exit->Act->World->Prop} {id:Nat}
theorem BD (hE:fJ P w0.G E C) (hlk:∀ i b,look i=some b->st.look i=some b) (hs:aj w0 I0 NoR g st a ov w) {o:Oper} {e:Eff} (hh:(opL E (st.nid o.dst) look o.op (o.op.operands.toList.map st.ev)).hits C e) (ha:e.app st o.dst=some st') :
  Good P w0 I0 ov o st' a w Q:=by
 obtain ⟨dst,op,type,pos,after,guard⟩:=o
 cases op with
 | move x=>exact Dp hs hh ha
 | assign x=>exact zh hs hh ha
 | pick c x y=>exact Dw hs hh ha
 | alloc t=>exact Cu hE.ty hs hh ha
 | box t x=>exact op_box hE.ty hs hh ha
 | build t parts=>exact AL hE.ty hs hh ha
 | makeFunc fn first cap=>exact we hs hh ha
 | buildSlice t len parts =>
  simp only [opL] at hh
  cases hc:E.cold t && !(len.beq 0) with
  | true=>rw [hc] at hh; exact Dd hE.ty hlk hs hh ha
  | false=>rw [hc] at hh; exact sH hE.ty hlk hs hh ha
 | load t x=>exact CL hE.ty hlk hs hh ha
 | store t x y=>exact Bq hE.ty hlk hs hh ha
 | nilCheck x=>exact wc hs hh ha
 | binOp op xt x y yt=>exact op_bin hE.ty hlk hs hh ha
 | unOp op xt x=>exact op_un hs hh ha
 | convert xt dt x=>exact xA hE.ty hlk hs hh ha
 | makeSlice t x y=>exact uQ hE.ty hs hh ha
 | makeInterface t x=>exact op_ifc hE.ty hs hh ha
 | typeAssert x xt t ok=>exact Dg hE.ty hs hh ha
 | slice t x lo hi mx=>exact AN hE.ty hlk hs hh ha
 | fieldAddr t x f=>exact uy hE.ty hs hh ha
 | field t x f=>exact Bu hE.ty hs hh ha
 | indexAddr t x y=>exact uF hE.ty hlk hs hh ha
 | index t x y=>exact Cf hE.ty hs hh ha
 | extract x j=>exact xE hs hh ha
 | call c =>
  obtain ⟨callee,args,tys⟩:=c
  cases callee with
  | builtin b =>
   have hops:(Op.call ⟨.builtin b,args,tys⟩).operands.toList=args.toList:=by simp [Op.operands,Call.operands]
   simp only [hops] at hh
   simp only [opL] at hh
   unfold dm at hh
   split at hh
   ·rename_i x ty hargs htys
    obtain ⟨ox,rfl,hox⟩:=list1 hargs
    have:=arr1 htys
    subst this
    split at hh
    ·rename_i d hT
     rw [<- hox] at hh
     exact xi hlk hs (hE.ty _ _ hT) hh ha
    ·exact hh.elim
   ·rename_i s x ty ty' hargs htys
    obtain ⟨os,ox,rfl,hos,hox⟩:=list2 hargs
    have:=arr2 htys
    subst this
    split at hh
    ·rename_i e1 d hel
     cases hb:Nat.beq ty ty' with
     | false =>
      simp only [hb,cond_false] at hh
      split at hh
      ·rename_i hu
       exact hh.elim
      ·exact hh.elim
     | true =>
      simp only [hb,cond_true] at hh
      have:=(ar _ _).1 hb
      subst this
      rw [<- hos,<- hox] at hh
      exact sB hE.ty hlk hs hel hh ha
    ·exact hh.elim
   ·rename_i s x ty ty' hargs htys
    obtain ⟨os,ox,rfl,hos,hox⟩:=list2 hargs
    have:=arr2 htys
    subst this
    split at hh
    ·rename_i e1 d hel
     cases hb:Nat.beq ty ty' with
     | false=>simp [hb,Prg.hits] at hh
     | true =>
      simp only [hb,cond_true] at hh
      have:=(ar _ _).1 hb
      subst this
      rw [<- hos,<- hox] at hh
      exact wo hE.ty hlk hs hel hh ha
    ·exact hh.elim
   ·rename_i s ty hargs htys
    obtain ⟨os,rfl,hos⟩:=list1 hargs
    have:=arr1 htys
    subst this
    split at hh
    ·rename_i e1 d hel
     exact hh.elim
    ·exact hh.elim
   ·rename_i x y hargs
    obtain ⟨ox,oy,rfl,hox,hoy⟩:=list2 hargs
    rw [<- hox,<- hoy] at hh
    exact qi hs hh ha
   ·rename_i x y hargs
    obtain ⟨ox,oy,rfl,hox,hoy⟩:=list2 hargs
    rw [<- hox,<- hoy] at hh
    exact qi hs hh ha
   ·exact hh.elim
  | value f =>
   cases f with
   | func f =>
    have hops:(Op.call ⟨.value (.func f),args,tys⟩).operands.toList=.func f :: args.toList:=by simp [Op.operands,Call.operands]
    simp only [hops,List.map_cons] at hh
    exact CN hE.call hE.ty hlk hs hh ha
   | tmp t =>
    have hops:(Op.call ⟨.value (.tmp t),args,tys⟩).operands.toList=.tmp t :: args.toList:=by simp [Op.operands,Call.operands]
    simp only [hops,List.map_cons] at hh
    exact op_dyn hE.call hE.ty hlk hs hh ha
   | _=>simp [opL,Prg.hits] at hh
  | invoke r m=>simp [opL,Prg.hits] at hh
 | _=>simp [opL,Prg.hits] at hh
def AV.nf:AV->AV
 | .one (.t (.lit (.bool b)))=>.bl b
 | .tv (.lit (.bool b))=>.bl b
 | v=>v
def Eff.nfE:Eff->Eff
 | .val v=>.val v.nf
 | .new b v=>.new b v.nf
 | .upd i b v=>.upd i b v.nf
 | .gen ps v=>.gen ps v.nf
def ASt.nfS (st:ASt):ASt:=⟨st.slots.map AV.nf,st.boxes,st.out⟩
theorem aH (v:AV):v.nf=v\/∃ b,v.nf=.bl b/\(v=.one (.t (.lit (.bool b)))\/v=.tv (.lit (.bool b))):=by
 unfold AV.nf
 split
 ·exact .inr ⟨_,rfl,.inl rfl⟩
 ·exact .inr ⟨_,rfl,.inr rfl⟩
 ·exact .inl rfl
theorem s6 (v:AV):v.nf.nf=v.nf:=by
 rcases aH v with h | ⟨b,h,_⟩
 ·rw [h,h]
 ·rw [h]; rfl
theorem gj (v:AV):v.nf.tv? = v.tv? := by
 rcases aH v with h | ⟨b,h,rfl | rfl⟩
 ·rw [h]
 ·rfl
 ·rfl
theorem Bg {v:AV} {u:Value}:br w g look v.nf u ↔ br w g look v u:=by
 rcases aH v with h | ⟨b,h,rfl | rfl⟩
 ·rw [h]
 ·rw [h]
  constructor
  ·intro h'
   have:u=.bool b:=h'
   subst this
   exact ⟨.lit _,rfl⟩
  ·intro h'
   exact aL h'.1
 ·rw [h]
  constructor
  ·intro h'
   have:u=.bool b:=h'
   subst this
   exact .lit _
  ·intro h'
   exact aL h'
theorem nr (v:AV):v.nf.gi=v.gi:=by
 rcases aH v with h | ⟨b,h,rfl | rfl⟩
 ·rw [h]
 ·rw [h]; rfl
 ·rw [h]; rfl
theorem bY (e:Eff):dP e.nfE=dP e:=by cases e <;> simp only [Eff.nfE,dP,nr]
theorem ng (e:Eff):e.nfE.plain=e.plain:=by cases e <;> rfl
theorem va (base:Nat) (own:List (List Nat × List Nat)) (e:Eff):e.nfE.pt base own=e.pt base own:=by cases e <;> rfl
theorem wk {S:Type} {agg:Bool} {n:Nat} {v:AV} {k k':List CA->Prg S} {e:S} (hk:∀ cs,(k cs).hits C e->(k' cs).hits C e) (h:(v.aS agg n k).hits C e):(v.aS agg n k').hits C e:=by
 unfold AV.aS at h ⊢
 split at h
 ·rename_i c
  cases hc:c.kept with
  | true=>rw [hc] at h; exact hk _ h
  | false=>rw [hc] at h; exact h.elim
 ·exact ⟨h.1,hk _ h.2⟩
 ·exact hk _ h
 ·exact hk _ h
 ·rename_i cs
  cases hc:cs.length.beq n with
  | true=>rw [hc] at h; exact hk _ h
  | false=>rw [hc] at h; exact h.elim
 ·exact ⟨h.1,hk _ h.2⟩
 ·exact h.elim
theorem ea {S:Type} {agg:Bool} {n:Nat} {v:AV} {k:List CA->Prg S} {e:S} (h:(v.aS agg n k).hits C e):(v.nf.aS agg n k).hits C e:=by
 rcases aH v with h1 | ⟨b,h1,rfl | rfl⟩
 ·rwa [h1]
 ·rw [h1]
  cases agg with
  | false=>exact h
  | true=>exact h.elim
 ·rw [h1]
  cases agg with
  | false=>exact h.2
  | true=>exact (by simp [AV.aS,TV.isAgg,Prg.hits] at h)
theorem km {S:Type} {e:S}:∀ {vs:List AV} {k:List CA->Prg S},(jj vs k).hits C e->(jj (vs.map AV.nf) k).hits C e
 | [],k,h=>h
 | x :: vs, k, h => by
  simp only [jj,List.map_cons] at h ⊢
  refine ea ?_
  unfold AV.aS at h ⊢
  split at h
  ·rename_i c _
   cases hc:c.kept with
   | false=>simp [hc,Prg.hits] at h
   | true=>simp only [hc,cond_true] at h ⊢; exact km h
  ·exact ⟨h.1,km h.2⟩
  ·exact km h
  ·exact km h
  ·rename_i cs' hb; cases hb
  ·rename_i cs' hb; cases hb
  ·exact h.elim
theorem iQ {f:FuncId} {e:Eff}:∀ {vs:List AV} {k:List CA->List CA},(jj vs fun cs=>(.ret (.val (.clo f (k cs))):Out)).hits C e->∃ cs,e=.val (.clo f cs)
 | [],k,h=>⟨_,h.symm⟩
 | x :: vs, k, h => by
  simp only [jj] at h
  unfold AV.aS at h
  split at h
  ·rename_i c _
   cases hc:c.kept with
   | false=>simp [hc,Prg.hits] at h
   | true=>simp only [hc,cond_true] at h; exact iQ (k:=fun cs=>k (_ ++ cs)) h
  ·exact iQ (k:=fun cs=>k (_ ++ cs)) h.2
  ·exact iQ (k:=fun cs=>k (_ ++ cs)) h
  ·exact iQ (k:=fun cs=>k (_ ++ cs)) h
  ·rename_i hb; cases hb
  ·rename_i hb; cases hb
  ·exact h.elim
theorem uL {S:Type} {at_:Nat->Option (Nat × Bool × Nat)} {k:List CA->Prg S} {e:S}:∀ {is:List Nat} {vs:List AV} {cs:List CA},(bK at_ is vs cs k).hits C e->(bK at_ is (vs.map AV.nf) cs k).hits C e
 | [],[],cs,h=>h
 | i :: is, x :: vs, cs, h => by
  simp only [bK,List.map_cons] at h ⊢
  split at h
  ·rename_i off agg n hat
   have key:∀ ps,((bif (off + ps.length).ble cs.length && ps.length.beq n then bK at_ is vs (bF cs off ps) k else .fail):Prg S).hits C e->((bif (off + ps.length).ble cs.length && ps.length.beq n then bK at_ is (vs.map AV.nf) (bF cs off ps) k else .fail):Prg S).hits C e:=by
    intro ps hp
    cases hb:(off + ps.length).ble cs.length && ps.length.beq n with
    | false=>simp [hb,Prg.hits] at hp
    | true=>simp only [hb,cond_true] at hp ⊢; exact uL hp
   refine ea ?_
   unfold AV.aS at h ⊢
   split at h
   ·rename_i c
    cases hc:c.kept with
    | false=>simp [hc,Prg.hits] at h
    | true=>simp only [hc,cond_true] at h ⊢; exact key _ h
   ·exact ⟨h.1,key _ h.2⟩
   ·exact key _ h
   ·exact key _ h
   ·rename_i cs'
    have:=key cs'
    cases hc:cs'.length.beq n with
    | false=>simp [hc,Prg.hits] at h
    | true=>simp only [hc,cond_true] at h this ⊢; exact this h
   ·exact ⟨h.1,key _ h.2⟩
   ·exact h.elim
  ·exact h.elim
 | [],_ :: _,cs,h=>h.elim
 | _ :: _,[],cs,h=>h.elim
theorem yL {S:Type} {v:AV} {k:TV->Prg S}:rh look v.nf k=rh look v k:=by
 rcases aH v with h | ⟨b,h,rfl | rfl⟩
 ·rw [h]
 ·rfl
 ·rfl
theorem A3 {S:Type} {v:AV} {k:TV->Prg S}:qW look v.nf k=qW look v k:=by
 rcases aH v with h | ⟨b,h,rfl | rfl⟩
 ·rw [h]
 ·rfl
 ·rfl
theorem AM {S:Type} {v:AV} {k:TV->List (Nat × Nat)->Prg S}:qC look v.nf k=qC look v k:=by
 rcases aH v with h | ⟨b,h,rfl | rfl⟩
 ·rw [h]
 ·rfl
 ·rfl
theorem qh {S:Type}:∀ {vs:List AV} {k:List TV->Prg S},lends look (vs.map AV.nf) k=lends look vs k
 | [],k=>rfl
 | v :: vs,k=>by simp only [List.map_cons,lends,A3,qh]
theorem qt {S:Type}:∀ {vs:List AV} {k:List TV->List (Nat × Nat)->Prg S},hands look (vs.map AV.nf) k=hands look vs k
 | [],k=>rfl
 | v :: vs,k=>by simp only [List.map_cons,hands,AM,qt]
theorem Bo {E:Env} {id:Nat} {look:Look} {f:FuncId} {ld:dn} (vs:List AV):nA E id look f ld (vs.map AV.nf)=nA E id look f ld vs:=by
 cases vs with
 | nil=>rfl
 | cons v l =>
  rcases aH v with h | ⟨b,h,rfl | rfl⟩
  ·simp only [List.map_cons,h]
   cases v with
   | one c =>
    cases c with
    | ptr i off =>
     cases off with
     | zero=>simp only [nA,qt]
     | succ n=>rfl
    | _=>rfl
   | _=>rfl
  ·simp only [List.map_cons,h]; rfl
  ·simp only [List.map_cons,h]; rfl
theorem B8 {look:Look} {f:FuncId} {c:Nat × Nat} (vs:List AV):vi look f c (vs.map AV.nf)=vi look f c vs:=by
 rfl
theorem B7 {look:Look} {f:FuncId} (vs:List AV):qV look f (vs.map AV.nf)=qV look f vs:=by
 rfl
theorem C9 {E:Env} {id:Nat} {look:Look} {f:FuncId} {i:Nat} (vs:List AV):Cn E id look f i (vs.map AV.nf)=Cn E id look f i vs:=by
 rfl
theorem Df (d:TyD) (t:TypeId) (v:AV):A7 d t v.nf=A7 d t v:=by
 rcases aH v with h | ⟨b,h,rfl | rfl⟩
 ·rw [h]
 ·rfl
 ·rfl
theorem Cj (d:TyD) (t:TypeId) (v:AV):ta d t v.nf=ta d t v:=by
 simp only [ta,gj]
theorem Ae {S:Type} {v:Option AV} {k:Option Nat->Prg S}:eB (v.map AV.nf) k=eB v k:=by
 cases v with
 | none=>rfl
 | some v=>simp only [eB,D6,gj]
theorem tf (v:AV):rq v.nf=rq v:=by
 rcases aH v with h | ⟨b,h,rfl | rfl⟩
 ·rw [h]
 ·rfl
 ·rfl
theorem x9 {S:Type} {d:TyD} {dest:Option Nat} {v:AV} {k:List (List TV)->List Prim->Prg S}:vZ look d dest v.nf k=vZ look d dest v k:=by
 rcases aH v with h | ⟨b,h,rfl | rfl⟩
 ·rw [h]
 ·rfl
 ·rfl
theorem la {kd:Kd} {sz:Nat} {x:AV} {lo hi:Option AV}:gT look kd sz x.nf (lo.map AV.nf) (hi.map AV.nf)=gT look kd sz x lo hi:=by
 simp only [gT,gj,Ae]
 rcases aH x with h | ⟨b,h,rfl | rfl⟩
 ·rw [h]
  cases lo <;> rfl
 ·rfl
 ·rfl
theorem BK (v:AV):th v.nf=th v:=by
 rcases aH v with h | ⟨b,h,rfl | rfl⟩
 ·rw [h]
 ·rfl
 ·rfl
theorem C6 {look:Look} {kd:Kd} (v:AV):vf look kd v.nf=vf look kd v:=by
 rcases aH v with h | ⟨b,h,rfl | rfl⟩
 ·rw [h]
 ·rw [h]; cases kd <;> rfl
 ·rw [h]; cases kd <;> rfl
theorem opL_nf {op : Op} {vs : List AV} {e : Eff} (h : (opL E id look op vs).hits C e) : ∃ e', (opL E id look op (vs.map AV.nf)).hits C e' ∧ e'.nfE = e.nfE := by
 cases op with
 | move x =>
  rcases vs with _ | ⟨v,_ | ⟨v',r⟩⟩ <;> first | exact h.elim | skip
  cases h
  exact ⟨_,rfl,by simp [Eff.nfE,s6]⟩
 | assign x =>
  rcases vs with _ | ⟨v,_ | ⟨v',r⟩⟩ <;> first | exact h.elim | skip
  cases h
  exact ⟨_,rfl,by simp [Eff.nfE,s6]⟩
 | pick c x y =>
  rcases vs with _ | ⟨v,_ | ⟨v',_ | ⟨v'',_ | ⟨v3,r⟩⟩⟩⟩ <;> first | exact h.elim | skip
  simp only [opL] at h
  split at h
  ·rename_i b
   cases h
   refine ⟨_,rfl,?_⟩
   cases b <;> simp [Eff.nfE,s6]
  ·rename_i v
   obtain ⟨b,hb,h⟩:=h
   have hv:v=.lit (.bool b):=by
    unfold asBool at hb
    split at hb
    ·cases hb; rfl
    ·cases hb
   subst hv
   rcases h with ⟨rfl,h⟩ | ⟨rfl,h⟩ <;> (cases h; exact ⟨_,rfl,by simp [Eff.nfE,s6]⟩)
  ·rename_i v
   obtain ⟨b,hb,h⟩:=h
   have hv:v=.lit (.bool b):=by
    unfold asBool at hb
    split at hb
    ·cases hb; rfl
    ·cases hb
   subst hv
   rcases h with ⟨rfl,h⟩ | ⟨rfl,h⟩ <;> (cases h; exact ⟨_,rfl,by simp [Eff.nfE,s6]⟩)
  ·exact h.elim
 | alloc t =>
  rcases vs with _ | ⟨v,r⟩ <;> first | exact h.elim | exact ⟨e,h,rfl⟩
 | box t x =>
  rcases vs with _ | ⟨v,_ | ⟨v',r⟩⟩ <;> first | exact h.elim | skip
  refine ⟨e,?_,rfl⟩
  simp only [opL,List.map_cons,List.map_nil] at h ⊢
  split at h
  ·exact ea h
  ·exact h.elim
 | makeFunc fn first cap =>
  cases fn with
  | func f =>
   have:∃ cs,e=.val (.clo f cs):=by
    simp only [opL] at h
    cases hb:first.size.beq 0 with
    | false=>simp [hb,Prg.hits] at h
    | true =>
     simp only [hb,cond_true] at h
     exact iQ (k:=fun l=>l) h
   obtain ⟨cs,rfl⟩:=this
   refine ⟨_,?_,rfl⟩
   simp only [opL] at h ⊢
   cases hb:first.size.beq 0 with
   | false=>simp [hb,Prg.hits] at h
   | true=>simp only [hb,cond_true] at h ⊢; exact km h
  | _=>exact h.elim
 | build t parts =>
  refine ⟨e,?_,rfl⟩
  simp only [opL] at h ⊢
  split at h
  ·rename_i d hd
   cases hb:j5 E.T d.kd with
   | false=>simp [hb,Prg.hits] at h
   | true=>simp only [hb,cond_true] at h ⊢; exact uL h
  ·exact h.elim
 | buildSlice t len parts =>
  refine ⟨e,?_,rfl⟩
  simp only [opL] at h ⊢
  cases hc:E.cold t && !(len.beq 0) with
  | true =>
   rw [hc] at h
   simp only [cond_true] at h ⊢
   exact h.elim
  | false =>
   rw [hc] at h
   simp only [cond_false] at h ⊢
   unfold gP at h ⊢
   split at h
   ·exact uL h
   ·exact h.elim
 | load t x =>
  rcases vs with _ | ⟨v,_ | ⟨v',r⟩⟩ <;> first | exact h.elim | skip
  refine ⟨e,?_,rfl⟩
  rcases aH v with h1 | ⟨b,h1,rfl | rfl⟩
  ·simpa only [List.map_cons,List.map_nil,h1] using h
  ·simp only [opL] at h; split at h <;> exact h.elim
  ·simp only [opL] at h; split at h <;> exact h.elim
 | store t x y =>
  rcases vs with _ | ⟨v,_ | ⟨v',_ | ⟨v'',r⟩⟩⟩ <;> first | exact h.elim | skip
  refine ⟨e,?_,rfl⟩
  simp only [opL,List.map_cons,List.map_nil] at h ⊢
  split at h
  ·rcases aH v with h1 | ⟨b,h1,rfl | rfl⟩
   ·rw [h1]
    unfold uH at h ⊢
    split at h
    ·rename_i e0 _ _ i0 off0 len0 n0
     cases hk0:e0.kd.isAgg with
     | true=>rw [hk0] at h; exact h.elim
     | false =>
      rw [hk0] at h
      simp only [cond_false] at h ⊢
      split at h
      ·exact ea h
      ·exact h.elim
    ·exact ea h
    ·exact ea h
    ·exact h.elim
   ·exact h.elim
   ·exact h.elim
  ·exact h.elim
 | nilCheck x =>
  rcases vs with _ | ⟨v,_ | ⟨v',r⟩⟩ <;> first | exact h.elim | skip
  refine ⟨e,?_,rfl⟩
  rcases aH v with h1 | ⟨b,h1,rfl | rfl⟩
  ·simpa only [List.map_cons,List.map_nil,h1] using h
  ·exact h.elim
  ·exact h.elim
 | binOp op xt x y yt =>
  rcases vs with _ | ⟨v,_ | ⟨v',_ | ⟨v'',r⟩⟩⟩ <;> first | exact h.elim | skip
  refine ⟨e,?_,rfl⟩
  simp only [opL,List.map_cons,List.map_nil] at h ⊢
  split at h
  ·unfold Dh at h ⊢
   split at h
   ·split at h
    ·exact ea (wk (fun cs h=>ea h) h)
    ·exact h.elim
   ·simp only [C3,BK] at h ⊢
    exact h
   ·simp only [CG,yL,gj] at h ⊢
    exact h
  ·exact h.elim
 | unOp op xt x =>
  rcases vs with _ | ⟨v,_ | ⟨v',r⟩⟩ <;> first | exact h.elim | skip
  rcases aH v with h1 | ⟨b,h1,h2⟩
  ·refine ⟨e,?_,rfl⟩
   simpa only [List.map_cons,List.map_nil,h1] using h
  ·have hv:∃ t,(opL E id look (.unOp op xt x) [v]).hits C e->(Prg.tv (pun op (.lit (.bool b))) vt).hits C e:=⟨(),by rcases h2 with rfl | rfl <;> intro h <;> cases op <;> exact h⟩
   obtain ⟨_,hv⟩:=hv
   obtain ⟨z,hz,hh⟩:=hv h
   cases op with
   | not =>
    simp only [pun,DU] at hz
    subst hz
    cases hh
    refine ⟨.val (.bl !b),?_,rfl⟩
    simp only [List.map_cons,List.map_nil,h1]
    rfl
   | _=>simp [pun] at hz
 | convert xt dt x =>
  rcases vs with _ | ⟨v,_ | ⟨v',r⟩⟩ <;> first | exact h.elim | skip
  refine ⟨e,?_,rfl⟩
  simp only [opL,List.map_cons,List.map_nil,yj,gj,yL] at h ⊢
  exact h
 | makeSlice t x y =>
  rcases vs with _ | ⟨v,_ | ⟨v',_ | ⟨v'',r⟩⟩⟩ <;> first | exact h.elim | skip
  refine ⟨e,?_,rfl⟩
  simp only [opL,List.map_cons,List.map_nil,gj] at h ⊢
  exact h
 | slice t x lo hi mx =>
  refine ⟨e,?_,rfl⟩
  cases mx with
  | some m=>rcases vs with _ | ⟨v,r⟩ <;> exact h.elim
  | none =>
   rcases vs with _ | ⟨v,r⟩
   ·exact h.elim
   ·simp only [opL, List.map_cons] at h ⊢
    split at h
    ·rename_i d hT
     split at h
     ·rename_i sz hsz
      cases lo with
      | none =>
       cases hi with
       | none =>
        rcases r with _ | ⟨l,r⟩
        ·have:=la (look:=look) (kd:=d.kd) (sz:=sz) (x:=v) (lo:=none) (hi:=none)
         simp only [Option.map_none] at this
         simp only [List.map_nil]
         rw [this]; exact h
        ·exact h.elim
       | some hh =>
        rcases r with _ | ⟨l,_ | ⟨l',r⟩⟩
        ·exact h.elim
        ·have:=la (look:=look) (kd:=d.kd) (sz:=sz) (x:=v) (lo:=none) (hi:=some l)
         simp only [Option.map_none,D6] at this
         simp only [List.map_cons,List.map_nil]
         rw [this]; exact h
        ·exact h.elim
      | some ll =>
       cases hi with
       | none =>
        rcases r with _ | ⟨l,_ | ⟨l',r⟩⟩
        ·exact h.elim
        ·have:=la (look:=look) (kd:=d.kd) (sz:=sz) (x:=v) (lo:=some l) (hi:=none)
         simp only [Option.map_none,D6] at this
         simp only [List.map_cons,List.map_nil]
         rw [this]; exact h
        ·exact h.elim
       | some hh =>
        rcases r with _ | ⟨l,_ | ⟨l',_ | ⟨l'',r⟩⟩⟩
        ·exact h.elim
        ·exact h.elim
        ·have:=la (look:=look) (kd:=d.kd) (sz:=sz) (x:=v) (lo:=some l) (hi:=some l')
         simp only [D6] at this
         simp only [List.map_cons,List.map_nil]
         rw [this]; exact h
        ·exact h.elim
     ·exact h.elim
    ·exact h.elim
 | fieldAddr t x f =>
  rcases vs with _ | ⟨v,_ | ⟨v',r⟩⟩ <;> first | exact h.elim | skip
  refine ⟨e,?_,rfl⟩
  rcases aH v with h1 | ⟨b,h1,rfl | rfl⟩
  ·simpa only [List.map_cons,List.map_nil,h1] using h
  ·simp only [opL] at h
   split at h
   ·rename_i hv
    cases hv
    split at h
    ·rename_i n _ _
     cases hb:Nat.blt 0 n <;> simp [hb,CA.add,Prg.hits] at h
    ·exact h.elim
   ·exact h.elim
  ·simp only [opL] at h
   split at h
   ·rename_i hv; cases hv
   ·exact h.elim
 | field t x f =>
  rcases vs with _ | ⟨v,_ | ⟨v',r⟩⟩ <;> first | exact h.elim | skip
  refine ⟨e,?_,rfl⟩
  rcases aH v with h1 | ⟨b,h1,rfl | rfl⟩
  ·simpa only [List.map_cons,List.map_nil,h1] using h
  ·simp only [opL] at h
   split at h
   ·split at h <;> exact h.elim
   ·exact h.elim
  ·simp only [opL] at h
   split at h
   ·split at h
    ·simp [uz,TV.isAgg,Prg.hits] at h
    ·exact h.elim
   ·exact h.elim
 | indexAddr t x y =>
  rcases vs with _ | ⟨v,_ | ⟨v',_ | ⟨v'',r⟩⟩⟩ <;> first | exact h.elim | skip
  refine ⟨e,?_,rfl⟩
  simp only [opL,List.map_cons,List.map_nil] at h ⊢
  split at h
  ·rcases aH v with h1 | ⟨b,h1,rfl | rfl⟩
   ·simp only [h1,oa,gj] at h ⊢; exact h
   ·simp only [oa,gj] at h ⊢; exact h
   ·simp only [oa,gj] at h ⊢; exact h
  ·unfold pK at h ⊢
   rw [gj]
   rcases aH v with h1 | ⟨b,h1,rfl | rfl⟩
   ·rw [h1]; exact h
   ·split at h
    ·split at h <;> first | exact h.elim | (rename_i hx _; cases hx)
    ·exact h.elim
   ·split at h
    ·split at h <;> first | exact h.elim | (rename_i hx _; cases hx)
    ·exact h.elim
 | index t x y =>
  rcases vs with _ | ⟨v,_ | ⟨v',_ | ⟨v'',r⟩⟩⟩ <;> first | exact h.elim | skip
  refine ⟨e,?_,rfl⟩
  simp only [opL,List.map_cons,List.map_nil,gj] at h ⊢
  split at h
  ·exact h
  ·unfold pX at h ⊢
   rw [gj]
   rcases aH v with h1 | ⟨b,h1,rfl | rfl⟩
   ·rw [h1]; exact h
   ·split at h
    ·split at h <;> first | exact h.elim | (rename_i hx _; cases hx)
    ·exact h.elim
   ·split at h
    ·split at h <;> first | exact h.elim | (rename_i hx _; cases hx)
    ·exact h.elim
 | extract x j =>
  rcases vs with _ | ⟨v,_ | ⟨v',r⟩⟩ <;> first | exact h.elim | skip
  refine ⟨e,?_,rfl⟩
  rcases aH v with h1 | ⟨b,h1,rfl | rfl⟩
  ·simpa only [List.map_cons,List.map_nil,h1] using h
  ·exact h.elim
  ·exact h.elim
 | call c =>
  refine ⟨e,?_,rfl⟩
  obtain ⟨callee,args,tys⟩:=c
  cases callee with
  | builtin b =>
   simp only [opL] at h ⊢
   unfold dm at h
   split at h
   ·rename_i x ty htys
    simp only [htys,dm,List.map_cons,List.map_nil]
    split at h
    ·rename_i d hd
     have key:∀ kd,(vf look kd x).hits C e->(vf look kd x.nf).hits C e:=fun kd h=>by rw [C6]; exact h
     exact key _ h
    ·exact h.elim
   ·rename_i s x ty ty' htys
    simp only [htys,dm,List.map_cons,List.map_nil]
    split at h
    ·rename_i _ d hel
     cases hb:Nat.beq ty ty' with
     | false =>
      simp only [hb,cond_false] at h ⊢
      split at h
      ·rename_i hu
       exact h.elim
      ·exact h.elim
     | true =>
      simp only [hb,cond_true] at h ⊢
      unfold mP at h ⊢
      rw [x9,tf]
      rcases aH s with h1 | ⟨b,h1,rfl | rfl⟩
      ·rw [h1]; exact h
      ·exact h
      ·exact h
    ·exact h.elim
   ·rename_i s x ty ty' htys
    simp only [htys,dm,List.map_cons,List.map_nil]
    split at h
    ·rename_i _ d hel
     cases hb:Nat.beq ty ty' with
     | false=>simp [hb,Prg.hits] at h
     | true =>
      simp only [hb,cond_true] at h ⊢
      unfold yS at h ⊢
      rw [x9,tf]
      rcases aH s with h1 | ⟨b,h1,rfl | rfl⟩
      ·rw [h1]; exact h
      ·exact h
      ·exact h
    ·exact h.elim
   ·rename_i s ty htys
    simp only [htys,dm,List.map_cons,List.map_nil]
    split at h
    ·exact h.elim
    ·exact h.elim
   ·simp only [dm,List.map_cons,List.map_nil,wz,gj] at h ⊢
    exact h
   ·simp only [dm,List.map_cons,List.map_nil,wz,gj] at h ⊢
    exact h
   ·exact h.elim
  | value f =>
   cases f with
   | func f =>
    rcases vs with _ | ⟨v,r⟩
    ·exact h.elim
    ·simp only [opL,List.map_cons,lp,qh,qt,Bo,B8,B7] at h ⊢
     exact h
   | tmp t =>
    rcases vs with _ | ⟨v,r⟩
    ·exact h.elim
    ·simp only [opL,List.map_cons,gj,qh,C9] at h ⊢
     rcases aH v with h1 | ⟨b,h1,rfl | rfl⟩
     ·rw [h1]; exact h
     ·exact h
     ·exact h
   | _=>exact h.elim
  | invoke r m=>exact h.elim
 | makeInterface t x =>
  rcases vs with _ | ⟨v,_ | ⟨v',r⟩⟩ <;> first | exact h.elim | skip
  refine ⟨e,?_,rfl⟩
  simp only [opL,List.map_cons,List.map_nil,Df] at h ⊢
  exact h
 | typeAssert x xt t ok =>
  rcases vs with _ | ⟨v,_ | ⟨v',r⟩⟩ <;> cases ok <;> first | exact h.elim | skip
  refine ⟨e,?_,rfl⟩
  simp only [opL,List.map_cons,List.map_nil,Cj] at h ⊢
  exact h
 | _=>exact h.elim
theorem kE (st:ASt):st.nfS.look=st.look:=rfl
theorem mY (st:ASt):st.nfS.base=st.base:=rfl
theorem uJ (st:ASt) (d:Option Tmp):st.nfS.nid d=st.nid d:=by cases d <;> rfl
theorem hU (st:ASt) (d:Option Tmp) (v:AV):(st.put d v).nfS=st.nfS.put d v.nf:=by
 cases d with
 | none=>rfl
 | some d=>simp [ASt.nfS,ASt.put,ai,List.map_set]
theorem qw (st:ASt) (i:Nat) (b:Option BC):(st.ac i b).nfS=st.nfS.ac i b:=rfl
theorem kv (st:ASt) (t:Nat):nth (.one .junk) st.nfS.slots t=(nth (.one .junk) st.slots t).nf:=by
 simp only [ASt.nfS,aV,DY]
 cases st.slots[t]? <;> rfl
theorem zp (ps:List Nat) (st:ASt) (d:Option Nat) (e:Eff):cb ps st.nfS d e.nfE=cb ps st d e:=by
 unfold cb
 congr 1
 funext k
 cases d with
 | none=>rw [mY,bY]
 | some d=>simp only [mY,bY,kv,nr]
theorem zP {o:Item} {st:ASt} {e:Eff} (h:i8 o st e=true):i8 o st.nfS e.nfE=true:=nomatch h
theorem qg (st:ASt) (x:Operand):st.nfS.ev x=(st.ev x).nf:=by
 cases x with
 | tmp t=>exact kv st t
 | const v =>
  cases v with
  | bool b=>rfl
  | _=>first | rfl | (simp only [ASt.ev]; cases Value.oneCell' _ <;> rfl)
 | global g=>rfl
 | func f=>rfl
theorem rA:∀ (l:List AV),cl (l.map AV.nf)=cl l
 | []=>rfl
 | v :: l=>by simp only [List.map_cons,cl,gj,rA l]
theorem jk (e:Eff):gE e.nfE=gE e:=by
 cases e with
 | new b v=>cases b <;> rfl
 | _=>rfl
theorem zo {i:Item} {st:ASt} {e:Eff}:fY i st.nfS e.nfE=fY i st e:=by
 unfold fY
 have:i.o.op.operands.toList.map st.nfS.ev=(i.o.op.operands.toList.map st.ev).map AV.nf:=by
  rw [List.map_map]
  exact List.map_congr_left fun x _=>qg st x
 rw [this,rA,jk,bY]
 rfl
theorem wa:∀ (l:List AV),hM (l.map AV.nf)=hM l
 | []=>rfl
 | v :: l=>by simp only [List.map_cons,hM,nr,wa l]
theorem oD (e:Eff):lN e.nfE=lN e:=by cases e <;> rfl
theorem xw (e:Eff):drE e.nfE=drE e:=by cases e <;> rfl
theorem qO (k:Nat) (e:Eff):s9 k e.nfE=s9 k e:=by cases e <;> rfl
theorem pY (v:AV):(v.nf.bG CA.deep).gi=(v.bG CA.deep).gi:=by
 rcases aH v with h | ⟨b,h,rfl | rfl⟩
 ·rw [h]
 ·rw [h]; rfl
 ·rw [h]; rfl
theorem ww:∀ (l:List AV),hM (b8 CA.deep (l.map AV.nf))=hM (b8 CA.deep l)
 | []=>rfl
 | v :: l=>by simp only [List.map_cons,b8,hM,pY,ww l]
theorem o1 (e:Eff):nx e.nfE=nx e:=by
 cases e with
 | val v=>exact pY v
 | new b v=>exact bY (.new b v)
 | upd i b v=>exact bY (.upd i b v)
 | gen ps v=>exact bY (.gen ps v)
theorem zG {i:Item} {st:ASt} {e:Eff}:b7 i st.nfS e.nfE=b7 i st e:=by
 unfold b7
 simp only [oD,xw,qO]
 rfl
theorem zE {i:Item} {st:ASt} {e:Eff}:cF i st.nfS e.nfE=cF i st e:=by
 unfold cF
 have hd:∀ d b,ig st.nfS d b=ig st d b:=fun d b=>by
  cases d with
  | none=>rfl
  | some d =>
   have:=qg st (.tmp d)
   simp only [ASt.ev] at this
   simp only [ig,this,nr]
 have hd2:∀ d b,fG st.nfS d b=fG st d b:=fun d b=>by
  cases d with
  | none=>rfl
  | some d =>
   have:=qg st (.tmp d)
   simp only [ASt.ev] at this
   simp only [fG,this,pY]
 simp only [hd,hd2,bY,o1]
 have:i.o.op.operands.toList.map st.nfS.ev=(i.o.op.operands.toList.map st.ev).map AV.nf:=by
  rw [List.map_map]
  exact List.map_congr_left fun x _=>qg st x
 rw [this,wa,ww]
 rfl
theorem okE_nf {i:Item} {st:ASt} {e:Eff} (h:okE i st e=true):okE i st.nfS e.nfE=true:=by
 unfold okE at h ⊢
 rw [Bool.or_eq_true] at h ⊢
 rcases h with h | h
 ·rw [zG]; exact .inl h
 refine .inr ?_
 rw [Bool.or_eq_true] at h ⊢
 rcases h with h | h
 ·rw [ng,va,mY,zp,zo,zE]; exact .inl h
 ·exact .inr (zP h)
theorem ur (hs:Sim w0 I0 st a ov w):Sim w0 I0 st.nfS a ov w:=by
 obtain ⟨g,hs⟩:=hs
 refine ⟨g,hs.below,hs.sub,hs.lt,hs.old,by simp [ASt.nfS,hs.len],hs.defers,fun t v hv=>?_,hs.olen,hs.outs,hs.cells,hs.trees,hs.foot,hs.apart,hs.apartR,hs.res,hs.base,hs.out⟩
 simp only [ASt.nfS,DY] at hv
 cases hsl:st.slots[t]? with
 | none=>simp [hsl] at hv
 | some u =>
  simp only [hsl,D6,DU] at hv
  subst hv
  exact Bg.2 (hs.slots t u hsl)
theorem dD (hs:Sim w0 I0 st.nfS a ov w):Sim w0 I0 st a ov w:=by
 obtain ⟨g,hs⟩:=hs
 refine ⟨g,hs.below,hs.sub,hs.lt,hs.old,by have:=hs.len; simpa [ASt.nfS] using this,hs.defers,fun t v hv=>?_,hs.olen,hs.outs,hs.cells,hs.trees,hs.foot,hs.apart,hs.apartR,hs.res,hs.base,hs.out⟩
 exact Bg.1 (hs.slots t v.nf (by simp [ASt.nfS,hv]))
theorem nw (i r:Nat) (js:List Nat) (b:Bool) (v:AV):(v.bG (CA.drop i r js b)).nf=v.nf.bG (CA.drop i r js b):=by
 rcases aH v with h | ⟨b,h,rfl | rfl⟩
 ·rw [h]
  cases v with
  | one c =>
   have key:∀ c:CA,c.drop i r js b=c\/c.drop i r js b=.junk:=fun c=>by
    rcases eX i r js b c with ⟨h,_⟩ | h
    ·exact .inl h
    ·exact .inr h
   simp only [AV.bG]
   rcases key c with h' | h'
   ·rw [h',h]
   ·rw [h']; rfl
  | tv x=>exact h
  | _=>rfl
 ·rfl
 ·rfl
theorem A4 (st:ASt) (i r:Nat) (js:List Nat) (b:Bool):(st.aq (CA.drop i r js b)).nfS=st.nfS.aq (CA.drop i r js b):=by
 simp only [ASt.nfS,ASt.aq]
 congr 1
 apply List.ext_getElem?
 intro t
 simp only [DY,kT]
 cases st.slots[t]? with
 | none=>rfl
 | some v=>simp [nw]
theorem oP (i:Nat) (v:AV):(v.bG (CA.unM i)).nf=v.nf.bG (CA.unM i):=by
 cases v with
 | one c =>
  cases c with
  | t x =>
   cases x with
   | lit u=>cases u <;> rfl
   | _=>rfl
  | may j ty =>
   simp only [AV.bG,CA.unM,AV.nf]
   cases j.beq i <;> rfl
  | _=>rfl
 | tv x =>
  cases x with
  | lit u=>cases u <;> rfl
  | _=>rfl
 | _=>rfl
theorem CH (st:ASt) (i:Nat):(st.aq (CA.unM i)).nfS=st.nfS.aq (CA.unM i):=by
 simp only [ASt.aq,ASt.nfS]
 congr 1
 induction st.slots with
 | nil=>rfl
 | cons v l ih=>simp only [b8,List.map_cons,oP,ih]
theorem tC {i:Nat} {b:BC} (h:st.bi i b=some st'):st.nfS.bi i b=some st'.nfS:=by
 obtain ⟨h1,h2,rfl⟩:=bd h
 have h2':i.blt st.nfS.boxes.length=true:=by simpa [ASt.nfS] using h2
 simp only [ASt.bi,kE,h1,h2',cond_true,qw]
theorem oW {d:Option Tmp}:∀ {ps:List Prim} {st st':ASt},ae d ps st=some st'->ae d ps st.nfS=some st'.nfS
 | [],st,st',h=>by simp only [ae,DU] at h; subst h; rfl
 | p :: ps, st, st', h => by
  simp only [ae] at h ⊢
  cases h1:p.app st d with
  | none=>simp [h1] at h
  | some s1 =>
   simp only [h1] at h
   have:p.app st.nfS d=some s1.nfS:=by
    cases p with
    | drop i r js b =>
     simp only [Prim.app,DU] at h1 ⊢
     subst h1
     rw [A4]
    | root i r x =>
     simp only [Prim.app,kE] at h1 ⊢
     split at h1
     ·rename_i b hb
      simp only [DU] at h1
      subst h1
      rfl
     ·cases h1
    | frz i r =>
     simp only [Prim.app,kE] at h1 ⊢
     split at h1
     ·rename_i x hx
      split at h1
      ·rename_i b hb
       simp only [DU] at h1
       subst h1
       rfl
      ·cases h1
     ·cases h1
    | unmay i =>
     simp only [Prim.app,DU] at h1 ⊢
     subst h1
     rw [CH]
    | newB b =>
     cases d with
     | none=>simp [Prim.app] at h1
     | some d =>
      simp only [Prim.app] at h1 ⊢
      rw [uJ]
      exact tC h1
    | setB i cs =>
     simp only [Prim.app,kE] at h1 ⊢
     split at h1
     ·simp only [DU] at h1
      subst h1
      rfl
     ·cases h1
   rw [this]
   exact oW h
theorem app_nf {e:Eff} {d:Option Tmp} (h:e.app st d=some st'):e.nfE.app st.nfS d=some st'.nfS:=by
 cases e with
 | val v =>
  simp only [Eff.app,Eff.nfE,DU] at h ⊢
  subst h
  rw [hU]
 | new b v =>
  cases d with
  | none=>simp [Eff.app] at h
  | some d =>
   simp only [Eff.app,Eff.nfE] at h ⊢
   rw [uJ]
   split at h
   ·rename_i s1 hs1
    simp only [DU] at h
    subst h
    rw [tC hs1]
    simp only [hU]
   ·cases h
 | upd i b v =>
  simp only [Eff.app,Eff.nfE,DU] at h ⊢
  subst h
  rw [hU,qw]
 | gen ps v =>
  simp only [Eff.app,Eff.nfE] at h ⊢
  split at h
  ·rename_i s1 hs1
   simp only [DU] at h
   subst h
   rw [oW hs1]
   simp only [hU]
  ·cases h
theorem jF {d:Option Tmp} {v:AV} (hs:Sim w0 I0 (st.put d v) a ov w):Sim w0 I0 (st.put d v.nf) a ov w:=by
 apply dD
 have:=ur hs
 rw [hU] at this ⊢
 rwa [s6]
theorem xY {e:Eff} {d:Option Tmp} (h:e.nfE.app st d=some st'):∃ st1,e.app st d=some st1/\∀ w0 I0 a ov w,Sim w0 I0 st1 a ov w->Sim w0 I0 st' a ov w:=by
 cases e with
 | val v =>
  simp only [Eff.app,Eff.nfE,DU] at h ⊢
  subst h
  exact ⟨_,rfl,fun w0 I0 a ov w hs=>jF hs⟩
 | new b v =>
  cases d with
  | none=>simp [Eff.app,Eff.nfE] at h
  | some d =>
   simp only [Eff.app,Eff.nfE] at h ⊢
   split at h
   ·rename_i s1 hs1
    simp only [DU] at h
    subst h
    exact ⟨_,rfl,fun w0 I0 a ov w hs=>jF hs⟩
   ·cases h
 | upd i b v =>
  simp only [Eff.app,Eff.nfE,DU] at h ⊢
  subst h
  exact ⟨_,rfl,fun w0 I0 a ov w hs=>jF hs⟩
 | gen ps v =>
  simp only [Eff.app,Eff.nfE] at h ⊢
  split at h
  ·rename_i s1 hs1
   simp only [DU] at h
   subst h
   exact ⟨_,rfl,fun w0 I0 a ov w hs=>jF hs⟩
  ·cases h
end
end Go.Ab
end
section
namespace Go.Ab
open Go.RowKit
def Prg.All {R:Type} (p:R->Prop):Prg R->Prop
 | .fail=>True
 | .ret e=>p e
 | .tv _ k=>∀ v,(k v).All p
 | .tvs _ k=>∀ v,(k v).All p
 | .rws _ k=>∀ v,(k v).All p
 | .nat _ k=>∀ v,(k v).All p
 | .chk _ k=>k.All p
 | .ite _ t e=>t.All p/\e.All p
 | .call _ _ k=>∀ v,(k v).All p
 | .jmp _ _=>True
theorem Prg.All.hits {R:Type} {C:Cal} {p:R->Prop} {e:R}:∀ {o:Prg R},o.All p->o.hits C e->p e
 | .ret e',h,h'=>by cases h'; exact h
 | .tv _ k,h,⟨v,_,h'⟩=>(h v).hits h'
 | .tvs _ k,h,⟨v,_,h'⟩=>(h v).hits h'
 | .rws _ k,h,⟨v,_,h'⟩=>(h v).hits h'
 | .nat _ k,h,⟨v,_,h'⟩=>(h v).hits h'
 | .chk _ k,h,⟨_,h'⟩=>Prg.All.hits (o:=k) h h'
 | .ite _ t e,h,⟨v,_,.inl ⟨_,h'⟩⟩=>Prg.All.hits (o:=t) h.1 h'
 | .ite _ t e,h,⟨v,_,.inr ⟨_,h'⟩⟩=>Prg.All.hits (o:=e) h.2 h'
 | .call _ _ k,h,⟨v,_,h'⟩=>(h v).hits h'
section
variable {E:Env} {look look':Look} {p:Eff->Prop} {id:Nat}
theorem aI {b:Bool} {x y:Out} (hx:x.All p) (hy:y.All p):(bif b then x else y).All p:=by cases b <;> assumption
theorem ky {q:Way} {x:TV} {k:TV->Out} (h:∀ y,(k y).All p):(pE q x k).All p:=by
 unfold pE
 split
 ·exact h _
 ·exact h
theorem eE {c:CA} {k:TV->Out} (h:∀ y,(k y).All p):(gK look c k).All p:=by
 unfold gK
 split
 ·exact h _
 ·split
  ·exact ky h
  ·exact trivial
 ·split
  ·exact ky fun y z=>h z
  ·exact trivial
 ·exact trivial
theorem nc {v:AV} {k:TV->Out} (h:∀ y,(k y).All p):(rh look v k).All p:=by
 unfold rh
 split
 ·exact eE h
 ·exact h _
 ·exact h _
 ·exact trivial
theorem sQ {c:CA} {k:TV->Out} (h:∀ y,(k y).All p):(rE look c k).All p:=by
 unfold rE
 split
 ·exact h _
 ·exact eE fun y=>h _
 ·exact eE fun y=>h _
 ·exact trivial
theorem tP {k:List TV->Out}:∀ {cs:List CA} {k:List TV->Out},(∀ y,(k y).All p)->(yh look cs k).All p
 | [],k,h=>h _
 | c :: cs,k,h=>sQ fun y=>tP (k:=fun _=>.fail) fun ys=>h _
theorem ze {v:AV} {k:TV->Out} (h:∀ y,(k y).All p):(qW look v k).All p:=by
 unfold qW
 split
 ·exact sQ h
 ·exact h _
 ·exact tP (k:=fun _=>.fail) fun ys=>h _
 ·exact trivial
 ·exact trivial
 ·exact h _
theorem nT:∀ {vs:List AV} {k:List TV->Out},(∀ y,(k y).All p)->(lends look vs k).All p
 | [],k,h=>h _
 | v :: vs,k,h=>ze fun y=>nT fun ys=>h _
theorem tT {c:CA} {k:TV->List (Nat × Nat)->Out} (h:∀ y r,(k y r).All p):(rU look c k).All p:=by
 unfold rU
 split
 ·exact h _ _
 ·split
  ·split
   ·exact h _ _
   ·exact fun y=>h _ _
  ·exact trivial
 ·split
  ·split
   ·exact fun y=>h _ _
   ·exact fun z y=>h _ _
  ·exact trivial
 ·exact trivial
theorem tW:∀ {cs:List CA} {k:List TV->List (Nat × Nat)->Out},(∀ y r,(k y r).All p)->(yT look cs k).All p
 | [],k,h=>h _ _
 | c :: cs,k,h=>tT fun y r=>tW fun ys rs=>h _ _
theorem zQ {v:AV} {k:TV->List (Nat × Nat)->Out} (h:∀ y r,(k y r).All p):(qC look v k).All p:=by
 unfold qC
 split
 ·exact tT h
 ·exact h _ _
 ·exact tW fun ys rs=>h _ _
 ·exact trivial
 ·exact trivial
 ·exact h _ _
theorem nM:∀ {vs:List AV} {k:List TV->List (Nat × Nat)->Out},(∀ y r,(k y r).All p)->(hands look vs k).All p
 | [],k,h=>h _ _
 | v :: vs,k,h=>zQ fun y r=>nM fun ys rs=>h _ _
theorem dk:∀ {cs:List CA} {k:List TV->List Prim->List (Nat × Nat)->Out},(∀ y q r,(k y q r).All p)->(b9 look cs k).All p
 | [],k,h=>h _ _ _
 | .t x :: l,k,h=>by
  simp only [b9]
  exact dk (cs:=l) fun xs ps ts=>h _ _ _
 | .sref i r q :: l, k, h => by
  simp only [b9]
  split
  ·split
   ·exact dk (cs:=l) fun xs ps ts=>h _ _ _
   ·exact fun y=>dk (cs:=l) fun xs ps ts=>h _ _ _
  ·exact trivial
 | .swin i r q lo len :: l, k, h => by
  simp only [b9]
  split
  ·split
   ·exact fun y=>dk (cs:=l) fun xs ps ts=>h _ _ _
   ·exact fun z y=>dk (cs:=l) fun xs ps ts=>h _ _ _
  ·exact trivial
 | .ptr _ _ :: l,k,h=>trivial
 | .ref _ _ :: l,k,h=>trivial
 | .tptr _ _ _ _ _ :: l,k,h=>trivial
 | .may _ _ :: l,k,h=>trivial
 | .aptr _ _ _ _ :: l,k,h=>trivial
 | .ifp _ _ :: l,k,h=>trivial
 | .fn1 _ _ :: l,k,h=>trivial
 | .psl _ _ :: l,k,h=>trivial
 | .yl _ :: l,k,h=>trivial
 | .undef :: l,k,h=>trivial
 | .junk :: l,k,h=>trivial
theorem du:∀ {cs:List CA} {k:List TV->List Prim->List (Nat × Nat)->Out},(∀ y q r,(k y q r).All p)->(bJ look cs k).All p
 | [],k,h=>h _ _ _
 | .t x :: l,k,h=>by
  simp only [bJ]
  exact du (cs:=l) fun xs ps ts=>h _ _ _
 | .sref i r q :: l, k, h => by
  simp only [bJ]
  split
  ·split
   ·exact du (cs:=l) fun xs ps ts=>h _ _ _
   ·exact fun y=>⟨du (cs:=l) fun xs ps ts=>h _ _ _,fun x'=>du (cs:=l) fun xs ps ts=>h _ _ _⟩
  ·exact trivial
 | .swin i r q lo len :: l, k, h => by
  simp only [bJ]
  split
  ·split
   ·exact fun y=>du (cs:=l) fun xs ps ts=>h _ _ _
   ·exact fun z y=>du (cs:=l) fun xs ps ts=>h _ _ _
  ·exact trivial
 | .ptr _ _ :: l,k,h=>trivial
 | .ref _ _ :: l,k,h=>trivial
 | .tptr _ _ _ _ _ :: l,k,h=>trivial
 | .may _ _ :: l,k,h=>trivial
 | .aptr _ _ _ _ :: l,k,h=>trivial
 | .ifp _ _ :: l,k,h=>trivial
 | .fn1 _ _ :: l,k,h=>trivial
 | .psl _ _ :: l,k,h=>trivial
 | .yl _ :: l,k,h=>trivial
 | .undef :: l,k,h=>trivial
 | .junk :: l,k,h=>trivial
theorem dq {agg:Bool} {n:Nat} {x:AV} {k:List CA->Out} (h:∀ cs,(k cs).All p):(x.aS agg n k).All p:=by
 unfold AV.aS
 split
 ·rename_i c; cases c.kept <;> first | exact trivial | exact h _
 ·exact h _
 ·exact h _
 ·exact h _
 ·rename_i cs; cases cs.length.beq n <;> first | exact trivial | exact h _
 ·exact h _
 ·exact trivial
theorem qZ {at_:Nat->Option (Nat × Bool × Nat)} {k:List CA->Out} (h:∀ cs,(k cs).All p):∀ (is:List Nat) (vs:List AV) (cs:List CA),(bK at_ is vs cs k).All p
 | [],[],cs=>h cs
 | i :: is, x :: vs, cs => by
  simp only [bK]
  split
  ·refine dq (fun ps=>?_)
   exact aI (qZ h is vs _) trivial
  ·exact trivial
 | [],_ :: _,cs=>trivial
 | _ :: _,[],cs=>trivial
theorem d7 {v:Option AV} {k:Option Nat->Out} (h:∀ n,(k n).All p):(eB v k).All p:=by
 unfold eB
 split
 ·exact h _
 ·split
  ·exact fun v=>h _
  ·exact trivial
abbrev fo (e:Eff):Prop:=∃ v,e=.val v
abbrev jT (e:Eff):Prop:=∃ b v,e=.new b v
theorem wG {d:TyD} {x:List TV} {off:Nat}:(jp d x off).All fo:=by
 unfold jp
 cases d.kd.isAgg
 ·exact ⟨_,rfl⟩
 ·exact ⟨_,rfl⟩
theorem s7:∀ {vs:List AV} {k:List CA->Out},(∀ cs,(k cs).All p)->(jj vs k).All p
 | [],k,h=>h _
 | v :: vs,k,h=>dq fun cs=>s7 fun cs'=>h _
theorem tV {b k:Nat}:∀ {n:Nat},(yu b k n).All fo
 | 0=>trivial
 | n + 1=>⟨⟨_,rfl⟩,tV⟩
theorem DO {op:Op} (h:ap op=.N) (vs:List AV):(opL E id look op vs).All fo:=by
 cases op with
 | move x=>rcases vs with _ | ⟨v,_ | ⟨v',r⟩⟩ <;> first | exact trivial | exact ⟨_,rfl⟩
 | assign x=>rcases vs with _ | ⟨v,_ | ⟨v',r⟩⟩ <;> first | exact trivial | exact ⟨_,rfl⟩
 | pick c x y =>
  rcases vs with _ | ⟨v,_ | ⟨v',_ | ⟨v'',_ | ⟨v3,r⟩⟩⟩⟩ <;> first | exact trivial | skip
  simp only [opL]
  split <;> first | exact trivial | exact ⟨_,rfl⟩ | exact ⟨⟨_,rfl⟩,⟨_,rfl⟩⟩
 | build t parts =>
  simp only [opL]
  split
  ·refine aI ?_ trivial
   refine qZ ?_ _ _ _
   exact fun cs=>⟨_,rfl⟩
  ·exact trivial
 | nilCheck x =>
  rcases vs with _ | ⟨v,_ | ⟨v',r⟩⟩ <;> first | exact trivial | skip
  simp only [opL]
  split <;> first | exact trivial | exact ⟨_,rfl⟩
 | unOp op xt x =>
  rcases vs with _ | ⟨v,_ | ⟨v',r⟩⟩ <;> first | exact trivial | skip
  simp only [opL]
  split
  ·exact ⟨_,rfl⟩
  ·split
   ·exact fun v=>⟨_,rfl⟩
   ·exact trivial
 | fieldAddr t x f =>
  rcases vs with _ | ⟨v,_ | ⟨v',r⟩⟩ <;> first | exact trivial | skip
  simp only [opL]
  split
  ·split
   ·refine aI ?_ trivial
    split <;> first | exact trivial | exact ⟨_,rfl⟩
   ·exact trivial
  ·exact trivial
 | field t x f =>
  rcases vs with _ | ⟨v,_ | ⟨v',r⟩⟩ <;> first | exact trivial | skip
  simp only [opL]
  split
  ·split
   ·unfold uz
    split
    ·split
     ·split <;> first | exact trivial | exact ⟨_,rfl⟩
     ·exact trivial
    ·exact ⟨_,rfl⟩
    ·exact trivial
   ·exact trivial
  ·exact trivial
 | index t x y =>
  rcases vs with _ | ⟨v,_ | ⟨v',_ | ⟨v'',r⟩⟩⟩ <;> first | exact trivial | skip
  simp only [opL]
  split
  ·exact fun v=>⟨_,rfl⟩
  ·unfold pX
   split
   ·split
    ·refine aI ?_ trivial
     split
     ·exact fun k v=>⟨_,rfl⟩
     ·exact trivial
    ·exact trivial
   ·exact trivial
 | extract x j =>
  rcases vs with _ | ⟨v,_ | ⟨v',r⟩⟩ <;> first | exact trivial | skip
  simp only [opL]
  split
  ·split
   ·split <;> first | exact trivial | exact ⟨_,rfl⟩
   ·exact trivial
  ·exact trivial
 | makeFunc fn first cap =>
  cases fn with
  | func f =>
   simp only [opL]
   exact aI (s7 fun cs=>⟨_,rfl⟩) trivial
  | _=>exact trivial
 | call c =>
  obtain ⟨callee,args,tys⟩:=c
  cases callee with
  | builtin b=>cases b <;> simp [ap] at h
  | value f=>cases f <;> simp [ap] at h
  | invoke r m=>simp [ap] at h
 | makeInterface t x =>
  rcases vs with _ | ⟨v,_ | ⟨v',r⟩⟩ <;> first | exact trivial | skip
  simp only [opL]
  split
  ·unfold A7
   refine aI ?_ trivial
   split
   ·exact ⟨_,rfl⟩
   ·split
    ·exact fun v=>⟨_,rfl⟩
    ·exact trivial
  ·exact trivial
 | typeAssert x xt t ok =>
  rcases vs with _ | ⟨v,_ | ⟨v',r⟩⟩ <;> cases ok <;> first | exact trivial | skip
  simp only [opL]
  split
  ·unfold ta
   refine aI ?_ trivial
   split
   ·exact fun v=>⟨_,rfl⟩
   ·exact trivial
  ·exact trivial
 | _=>simp [ap] at h
theorem AS {op:Op} (h:ap op=.R) (vs:List AV):(opL E id look op vs).All fo:=by
 cases op with
 | load t x =>
  rcases vs with _ | ⟨v,_ | ⟨v',r⟩⟩ <;> first | exact trivial | skip
  simp only [opL]
  split
  ·unfold yk
   split
   ·refine aI trivial ?_
    split
    ·exact fun v=>⟨_,rfl⟩
    ·exact trivial
   ·split
    ·split
     ·split
      ·exact ⟨_,rfl⟩
      ·exact trivial
     ·exact trivial
    ·exact trivial
   ·exact wG
   ·split
    ·refine ky (fun s e=>?_)
     simp only [Prg.All]
     split
     ·exact ⟨_,rfl⟩
     ·exact trivial
    ·exact trivial
   ·exact trivial
  ·exact trivial
 | convert xt dt x =>
  rcases vs with _ | ⟨v,_ | ⟨v',r⟩⟩ <;> first | exact trivial | skip
  simp only [opL]
  split
  ·unfold yj
   split
   ·exact trivial
   ·split
    ·exact fun v=>⟨_,rfl⟩
    ·exact trivial
  ·exact trivial
 | binOp op xt x y yt =>
  rcases vs with _ | ⟨v,_ | ⟨v',_ | ⟨v'',r⟩⟩⟩ <;> first | exact trivial | skip
  simp only [opL]
  split
  ·unfold Dh
   split
   ·split
    ·refine dq fun cs=>dq fun cs'=>?_
     split
     ·exact fun v=>⟨_,rfl⟩
     ·exact trivial
    ·exact trivial
   ·unfold C3
    split
    ·exact ⟨_,rfl⟩
    ·exact ⟨_,rfl⟩
    ·exact trivial
   unfold CG
   refine aI (nc fun x=>nc fun y=>fun v=>⟨_,rfl⟩) ?_
   split
   ·exact fun v=>⟨_,rfl⟩
   ·exact trivial
  ·exact trivial
 | slice t x lo hi mx =>
  have sl:∀ {kd:Kd} {sz:Nat} {x:AV} {lo hi:Option AV},(gT look kd sz x lo hi).All fo:=by
   intro kd sz x lo hi
   unfold gT
   split
   ·exact d7 fun lo=>d7 fun hi=>fun v=>⟨_,rfl⟩
   ·split
    ·exact eE fun s n=>d7 fun lo=>d7 fun hi=>⟨_,rfl⟩
    ·split
     ·exact eE fun s=>d7 fun hi=>⟨_,rfl⟩
     ·exact eE fun s=>d7 fun lo=>d7 fun hi=>⟨_,rfl⟩
    ·exact trivial
  cases mx with
  | some m=>rcases vs with _ | ⟨v,r⟩ <;> exact trivial
  | none =>
   rcases vs with _ | ⟨v,r⟩
   ·exact trivial
   ·simp only [opL]
    split
    ·split
     ·split <;> first | exact trivial | exact sl
     ·exact trivial
    ·exact trivial
 | indexAddr t x y =>
  rcases vs with _ | ⟨v,_ | ⟨v',_ | ⟨v'',r⟩⟩⟩ <;> first | exact trivial | skip
  simp only [opL]
  split
  ·unfold oa
   split
   ·split
    ·exact fun v=>⟨_,rfl⟩
    ·split
     ·exact eE fun s n k=>⟨_,rfl⟩
     ·exact eE fun s k=>⟨_,rfl⟩
     ·exact aI (fun k=>tV) trivial
     ·exact trivial
   ·exact trivial
  ·unfold pK
   split
   ·split
    ·exact aI (fun k=>⟨_,rfl⟩) trivial
    ·exact trivial
   ·exact trivial
 | call c =>
  obtain ⟨callee,args,tys⟩:=c
  cases callee with
  | builtin b =>
   have mn:∀ {mx:Bool} {x y:AV},(wz mx x y).All fo:=by
    intro mx x y
    unfold wz
    split
    ·exact fun v=>⟨_,rfl⟩
    ·exact trivial
   cases b <;> simp [ap] at h
   all_goals simp only [opL]
   all_goals unfold dm
   all_goals split <;> first | exact trivial | exact mn | contradiction | skip
   split
   ·unfold vf
    split
    ·exact ⟨_,rfl⟩
    ·split
     ·exact ⟨_,rfl⟩
     ·exact nc fun s v=>⟨_,rfl⟩
    ·exact nc fun s v=>⟨_,rfl⟩
   ·exact trivial
  | value f=>cases f <;> simp [ap] at h
  | invoke r m=>simp [ap] at h
 | _=>simp [ap] at h
theorem cls_A {op:Op} (h:ap op=.A) (vs:List AV):(opL E id look op vs).All jT:=by
 cases op with
 | alloc t =>
  rcases vs with _ | ⟨v,r⟩ <;> first | exact trivial | skip
  simp only [opL]
  split
  ·exact ⟨_,_,rfl⟩
  ·exact trivial
 | box t x =>
  rcases vs with _ | ⟨v,_ | ⟨v',r⟩⟩ <;> first | exact trivial | skip
  simp only [opL]
  split
  ·exact dq (fun cs=>⟨_,_,rfl⟩)
  ·exact trivial
 | makeSlice t x y =>
  rcases vs with _ | ⟨v,_ | ⟨v',_ | ⟨v'',r⟩⟩⟩ <;> first | exact trivial | skip
  simp only [opL]
  split
  ·refine aI ?_ trivial
   exact fun n m=>⟨_,_,rfl⟩
  ·exact trivial
 | call c =>
  obtain ⟨callee,args,tys⟩:=c
  cases callee with
  | builtin b=>cases b <;> simp [ap] at h
  | value f=>cases f <;> simp [ap] at h
  | invoke r m=>simp [ap] at h
 | _=>simp [ap] at h
theorem ii {ps:List Prim} {b:BC} {v:AV}:(ci ps b v).plain=true->fo (ci ps b v)\/jT (ci ps b v):=by
 cases ps with
 | nil=>exact fun _=>.inr ⟨_,_,rfl⟩
 | cons q l=>exact fun h=>by cases h
theorem uc {ps:List Prim} {v:AV}:(match ps with | []=>Eff.val v | _=>.gen ps v).plain=true->fo (match ps with | []=>Eff.val v | _=>.gen ps v)\/jT (match ps with | []=>Eff.val v | _=>.gen ps v):=by
 cases ps with
 | nil=>exact fun _=>.inl ⟨_,rfl⟩
 | cons q l=>exact fun h=>by cases h
theorem jE {d:TyD} {x:TV} {k:Out} (h:k.All p):(ip d x k).All p:=by
 unfold ip
 exact aI h h
theorem o0 {x:TV} {k:Out} (h:k.All p):∀ (ds:List TyD) (j:Nat),(eZ x ds j k).All p
 | [],j=>h
 | d :: ds,j=>jE (o0 h ds (j + 1))
theorem wR {ds:List TyD} {v:TV} {ps:List Prim}:(ui id ds v ps).All fun e=>e.plain=true->fo e\/jT e:=by
 have many:∀ ds:List TyD,(Prg.chk (v.isTup ds.length) (eZ v ds 0 (bif fK ds then .ret (ci ps (.tree (bc v ds 0)) (.tups (da id v ds 0 0)))
   else .ret (match ps with | []=>.val (.tups (da id v ds 0 0)) | _=>.gen ps (.tups (da id v ds 0 0)))))).All fun e=>e.plain=true->fo e\/jT e:=by
  intro ds
  refine o0 ?_ ds 0
  exact aI ii uc
 match ds with
 | []=>exact many []
 | [d] =>
  simp only [ui]
  refine jE ?_
  split
  ·exact aI ii uc
  ·exact trivial
 | d :: d' :: l=>exact many _
theorem AR {ds:List TyD} {v:TV} {k:AV->Out} {p:Eff->Prop} (h:∀ av,(k av).All p):(A1 id ds v k).All p:=by
 have some:∀ (ds:List TyD) (j:Nat) (k:Out),k.All p->(eZ v ds j k).All p:=by
  intro ds
  induction ds with
  | nil=>intro j k h; exact h
  | cons d ds ih=>intro j k h; exact jE (ih (j + 1) k h)
 unfold A1
 split
 ·refine jE ?_
  split
  ·exact h _
  ·exact trivial
 ·exact some _ 0 _ (h _)
theorem zT {f:FuncId} {ld:dn} {vs:List AV}:(nA E id look f ld vs).All fun e=>e.plain=true->fo e\/jT e:=by
 unfold nA
 split
 ·split
  ·refine aI trivial ?_
   exact nM fun xs rs=>dk fun ys qs ts=>aI (fun v=>AR fun av=>fun h=>by simp [Eff.plain] at h) trivial
  ·exact trivial
 ·exact trivial
theorem Ai {f:FuncId} {c:Nat × Nat} {vs:List AV}:(vi look f c vs).All fun e=>e.plain=true->fo e\/jT e:=by
 exact trivial
theorem zt {f:FuncId} {vs:List AV}:(qV look f vs).All fun e=>e.plain=true->fo e\/jT e:=by
 exact trivial
theorem Cb {f:FuncId} {i:Nat} {vs:List AV}:(Cn E id look f i vs).All fun e=>e.plain=true->fo e\/jT e:=by
 exact trivial
theorem cls_B {op:Op} (h:ap op=.B) (vs:List AV):(opL E id look op vs).All fun e=>e.plain=true->fo e\/jT e:=by
 cases op with
 | buildSlice t len parts =>
  simp only [opL]
  refine aI ?_ ?_
  ·exact trivial
  unfold gP
  split
  ·refine qZ (fun cs=>?_) _ _ _
   refine aI (fun _=>.inr ⟨_,_,rfl⟩) ?_
   refine du fun ys qs ts=>?_
   exact aI ii trivial
  ·exact trivial
 | call c =>
  obtain ⟨callee,args,tys⟩:=c
  cases callee with
  | builtin b=>cases b <;> simp [ap] at h
  | value f =>
   cases f with
   | func f =>
    rcases vs with _ | ⟨v,r⟩
    ·exact trivial
    ·simp only [opL,lp]
     refine aI zt (aI trivial ?_)
     split
     ·exact Ai
     split
     ·exact zT
     ·split
      ·refine aI ?_ ?_
       ·exact nT fun xs=>fun v=>wR
       ·exact nM fun xs rs=>aI (fun v=>wR) trivial
      ·exact trivial
   | tmp t =>
    rcases vs with _ | ⟨v,r⟩
    ·exact trivial
    ·simp only [opL]
     split
     ·exact fun f=>nT fun xs v=>fun _=>.inl ⟨_,rfl⟩
     ·split
      ·exact Cb
      ·exact trivial
   | _=>simp [ap] at h
  | invoke r m=>simp [ap] at h
 | _=>simp [ap] at h
abbrev isUpd (look:Look) (e:Eff):Prop:=∃ i b v,e=.upd i b v/\(look i).isSome=true
theorem BJ {op : Op} (h : ap op = .W) (vs : List AV) : (opL E id look op vs).All fun e => e.plain = true → isUpd look e := by
 cases op with
 | store t x y =>
  rcases vs with _ | ⟨v,_ | ⟨v',_ | ⟨v'',r⟩⟩⟩ <;> first | exact trivial | skip
  simp only [opL]
  split
  ·unfold uH
   split
   ·refine aI trivial ?_
    split
    ·rename_i cs xs hrow
     refine dq (fun ps=>?_)
     split
     ·exact fun _=>⟨_,_,_,rfl,by simp [(ic hrow).1]⟩
     ·exact trivial
    ·exact trivial
   ·refine dq (fun ps=>?_)
    split
    ·rename_i cs hl
     exact aI (fun _=>⟨_,_,_,rfl,by simp [hl]⟩) trivial
    ·exact trivial
   ·refine dq (fun ps=>?_)
    split
    ·refine aI trivial (aI ?_ ?_)
     ·refine dk fun ys qs ts=>aI ?_ trivial
      exact ky fun s e=>fun x' hp=>by cases hp
     ·refine dk fun ys qs ts=>?_
      split
      ·refine aI ?_ trivial
       refine ky fun s e=>?_
       simp only [Prg.All]
       intro x'
       split
       ·rename_i b hb
        refine fun _=>⟨_,_,_,rfl,?_⟩
        unfold bS at hb
        split at hb
        ·rename_i hl; simp [hl]
        ·cases hb
       ·exact trivial
      ·exact trivial
    ·exact trivial
   ·exact trivial
  ·exact trivial
 | call c =>
  obtain ⟨callee,args,tys⟩:=c
  cases callee with
  | builtin b=>cases b <;> simp [ap] at h
  | value f=>cases f <;> simp [ap] at h
  | invoke r m=>simp [ap] at h
 | _=>simp [ap] at h
theorem vd {d:TyD} {s:AV} {news:List (List TV)} {ps:List Prim}:(nl id look d s news ps).All fun e=>e.plain=true->fo e\/jT e:=by
 unfold nl
 split
 ·exact aI (fun y=>ii) trivial
 ·split
  ·split
   ·split
    ·exact fun y h=>by cases h
    ·exact fun z y x' h=>by cases h
   ·exact trivial
  ·split
   ·split
    ·exact fun z y h=>by cases h
    ·exact fun z0 z y x' h=>by cases h
   ·exact trivial
  ·exact trivial
theorem Ax {d:TyD} {dest:Option Nat} {x:AV} {k:List (List TV)->List Prim->Out} (h:∀ xs ps,(k xs ps).All p):(vZ look d dest x k).All p:=by
 unfold vZ
 split
 ·exact fun xs=>h _ _
 ·split
  ·refine aI ?_ ?_
   ·split
    ·split
     ·split
      ·exact aI trivial (fun xs=>h _ _)
      ·exact fun y=>fun xs=>h _ _
     ·exact trivial
    ·split
     ·split
      ·exact aI trivial (fun y xs=>h _ _)
      ·exact fun z y=>fun xs=>h _ _
     ·exact trivial
    ·exact trivial
   ·exact eE (fun s xs=>h _ _)
  ·exact trivial
theorem cls_P {op:Op} (h:ap op=.P) (vs:List AV):(opL E id look op vs).All fun e=>e.plain=true->fo e\/jT e:=by
 cases op with
 | call c =>
  obtain ⟨callee,args,tys⟩:=c
  cases callee with
  | builtin b =>
   cases b <;> simp [ap] at h
   simp only [opL]
   unfold dm
   split <;> try (first | exact trivial | contradiction)
   split
   ·refine aI ?_ ?_
    ·unfold mP
     exact aI (Ax (fun xs ps=>vd)) trivial
    ·split
     ·exact trivial
     ·exact trivial
   ·exact trivial
  | value f=>cases f <;> simp [ap] at h
  | invoke r m=>simp [ap] at h
 | _=>simp [ap] at h
theorem sT {op:Op} (h:ap op=.N\/ap op=.A) (vs:List AV):opL E id look op vs=opL E id look' op vs:=by
 cases op <;> first
  | (rcases vs with _ | ⟨a,_ | ⟨b,_ | ⟨c,_ | ⟨d,r⟩⟩⟩⟩ <;> rfl)
  | (simp [ap] at h; done)
  | (rename_i fn _ _; cases fn <;> rfl)
  | (rename_i ok; cases ok <;> rcases vs with _ | ⟨a,_ | ⟨b,r⟩⟩ <;> rfl)
  | skip
 all_goals
  rename_i c
  obtain ⟨callee,args,tys⟩:=c
  cases callee with
  | builtin b=>cases b <;> simp [ap] at h
  | value f=>cases f <;> simp [ap] at h
  | invoke r m=>simp [ap] at h
end
end Go.Ab
end

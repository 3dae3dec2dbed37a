import Derived.Test.YtljcpjlpggnolaaNM12b
set_option linter.all false
section
namespace Go.Ab
open Go.RowKit
structure io (P:Program) (G:Laid) (E:Env) (C:Cal):Prop where
 ty:∀ t d,E.T t=some d→aP P t d
 call:wY P G E C
section
variable {P:Program} {E:Env} {C:Cal} {w0:Bs} {w w':World} {I0 I R:Nat→Prop} {g g':Gh} {st st':ASt} {a:Act} {ov:List Value} {look:Look} {Q:Exit→Act→World→Prop} {id:Nat}
theorem CQ (hE:io P w0.G E C) (hlk:∀ i b,look i=some b→st.look i=some b) (hs:al w0 I0 NoR g st a ov w) {o:Oper} {e:Eff} (hh:(opL E (st.nid o.dst) look o.op (o.op.operands.toList.map st.ev)).hits C e) (ha:e.app st o.dst=some st') :
  Good P w0 I0 ov o st' a w Q:=by
 obtain ⟨dst,op,type,pos,after,guard⟩:=o
 cases op with
 | move x=>exact EV hs hh ha
 | assign x=>exact BU hs hh ha
 | pick c x y=>exact EU hs hh ha
 | alloc t=>exact D0 hE.ty hs hh ha
 | box t x=>exact op_box hE.ty hs hh ha
 | build t parts=>exact Cn hE.ty hs hh ha
 | makeFunc fn first cap=>exact xw hs hh ha
 | buildSlice t len parts =>
  simp only [opL] at hh
  cases hc:E.cold t && !(len.beq 0) with
  | true=>rw [hc] at hh; exact EH hE.ty hlk hs hh ha
  | false=>rw [hc] at hh; exact ug hE.ty hlk hs hh ha
 | load t x=>exact ED hE.ty hlk hs hh ha
 | store t x y=>exact C6 hE.ty hlk hs hh ha
 | nilCheck x=>exact xg hs hh ha
 | binOp op xt x y yt=>exact op_bin hE.ty hlk hs hh ha
 | unOp op xt x=>exact op_un hs hh ha
 | convert xt dt x=>exact zp hE.ty hlk hs hh ha
 | makeSlice t x y=>exact wF hE.ty hs hh ha
 | makeInterface t x=>exact op_ifc hE.ty hs hh ha
 | typeAssert x xt t ok=>exact ES hE.ty hs hh ha
 | slice t x lo hi mx=>exact Cm hE.ty hlk hs hh ha
 | fieldAddr t x f=>exact wD hE.ty hs hh ha
 | field t x f=>exact Dz hE.ty hs hh ha
 | indexAddr t x y=>exact wK hE.ty hlk hs hh ha
 | index t x y=>exact Cb hE.ty hs hh ha
 | extract x j=>exact zf hs hh ha
 | call c =>
  obtain ⟨callee,args,tys⟩:=c
  cases callee with
  | builtin b =>
   have hops:(Op.call ⟨.builtin b,args,tys⟩).operands.toList=args.toList:=by simp [Op.operands,Call.operands]
   simp only [hops] at hh
   simp only [opL] at hh
   unfold eN at hh
   split at hh
   ·rename_i x ty hargs htys
    obtain ⟨ox,rfl,hox⟩:=list1 hargs
    have:=arr1 htys
    subst this
    split at hh
    ·rename_i d hT
     rw [← hox] at hh
     exact zK hlk hs (hE.ty _ _ hT) hh ha
    ·exact hh.elim
   ·rename_i s x ty ty' hargs htys
    obtain ⟨os,ox,rfl,hos,hox⟩:=list2 hargs
    have:=arr2 htys
    subst this
    split at hh
    ·rename_i e1 d hel
     cases hb:Nat.beq ty ty' with
     | false =>
      simp only [hb,cond_false] at hh
      split at hh
      ·rename_i hu
       rw [← hos,← hox] at hh
       exact rR hE.ty hlk hs hel hu rfl hh ha
      ·exact hh.elim
     | true =>
      simp only [hb,cond_true] at hh
      have:=(aq _ _).1 hb
      subst this
      rw [← hos,← hox] at hh
      exact uj hE.ty hlk hs hel hh ha
    ·exact hh.elim
   ·rename_i s x ty ty' hargs htys
    obtain ⟨os,ox,rfl,hos,hox⟩:=list2 hargs
    have:=arr2 htys
    subst this
    split at hh
    ·rename_i e1 d hel
     cases hb:Nat.beq ty ty' with
     | false=>simp [hb,Prg.hits] at hh
     | true =>
      simp only [hb,cond_true] at hh
      have:=(aq _ _).1 hb
      subst this
      rw [← hos,← hox] at hh
      exact xC hE.ty hlk hs hel hh ha
    ·exact hh.elim
   ·rename_i s ty hargs htys
    obtain ⟨os,rfl,hos⟩:=list1 hargs
    have:=arr1 htys
    subst this
    split at hh
    ·rename_i e1 d hel
     rw [← hos] at hh
     exact wv hE.ty hlk hs hel hh ha
    ·exact hh.elim
   ·rename_i x y hargs
    obtain ⟨ox,oy,rfl,hox,hoy⟩:=list2 hargs
    rw [← hox,← hoy] at hh
    exact sV hs hh ha
   ·rename_i x y hargs
    obtain ⟨ox,oy,rfl,hox,hoy⟩:=list2 hargs
    rw [← hox,← hoy] at hh
    exact sV hs hh ha
   ·exact hh.elim
  | value f =>
   cases f with
   | func f =>
    have hops:(Op.call ⟨.value (.func f),args,tys⟩).operands.toList=.func f :: args.toList:=by simp [Op.operands,Call.operands]
    simp only [hops,List.map_cons] at hh
    exact EW hE.call hE.ty hlk hs hh ha
   | tmp t =>
    have hops:(Op.call ⟨.value (.tmp t),args,tys⟩).operands.toList=.tmp t :: args.toList:=by simp [Op.operands,Call.operands]
    simp only [hops,List.map_cons] at hh
    exact op_dyn hE.call hE.ty hlk hs hh ha
   | _=>simp [opL,Prg.hits] at hh
  | invoke r m=>simp [opL,Prg.hits] at hh
 | _=>simp [opL,Prg.hits] at hh
def AV.nf:AV→AV
 | .one (.t (.lit (.bool b)))=>.bl b
 | .tv (.lit (.bool b))=>.bl b
 | v=>v
def Eff.nfE:Eff→Eff
 | .val v=>.val v.nf
 | .new b v=>.new b v.nf
 | .upd i b v=>.upd i b v.nf
 | .gen ps v=>.gen ps v.nf
def ASt.nfS (st:ASt):ASt:=⟨st.slots.map AV.nf,st.boxes,st.out⟩
theorem aD (v:AV):v.nf=v∨∃ b,v.nf=.bl b∧(v=.one (.t (.lit (.bool b)))∨v=.tv (.lit (.bool b))):=by
 unfold AV.nf
 split
 ·exact .inr ⟨_,rfl,.inl rfl⟩
 ·exact .inr ⟨_,rfl,.inr rfl⟩
 ·exact .inl rfl
theorem zW (v:AV):v.nf.nf=v.nf:=by
 rcases aD v with h | ⟨b,h,_⟩
 ·rw [h,h]
 ·rw [h]; rfl
theorem gT (v:AV):v.nf.tv? = v.tv? := by
 rcases aD v with h | ⟨b,h,rfl | rfl⟩
 ·rw [h]
 ·rfl
 ·rfl
theorem Cq {v:AV} {u:Value}:bM w g look v.nf u ↔ bM w g look v u:=by
 rcases aD v with h | ⟨b,h,rfl | rfl⟩
 ·rw [h]
 ·rw [h]
  constructor
  ·intro h'
   have:u=.bool b:=h'
   subst this
   exact ⟨.lit _,rfl⟩
  ·intro h'
   exact bB h'.1
 ·rw [h]
  constructor
  ·intro h'
   have:u=.bool b:=h'
   subst this
   exact .lit _
  ·intro h'
   exact bB h'
theorem mT (v:AV):v.nf.dX=v.dX:=by
 rcases aD v with h | ⟨b,h,rfl | rfl⟩
 ·rw [h]
 ·rw [h]; rfl
 ·rw [h]; rfl
theorem cm (e:Eff):dB e.nfE=dB e:=by cases e <;> simp only [Eff.nfE,dB,mT]
theorem oS (e:Eff):e.nfE.plain=e.plain:=by cases e <;> rfl
theorem yc (base:Nat) (own:List (List Nat × List Nat)) (e:Eff):e.nfE.nr base own=e.nr base own:=by cases e <;> rfl
theorem xF {S:Type} {agg:Bool} {n:Nat} {v:AV} {k k':List CA→Prg S} {e:S} (hk:∀ cs,(k cs).hits C e→(k' cs).hits C e) (h:(v.aX agg n k).hits C e):(v.aX agg n k').hits C e:=by
 unfold AV.aX at h ⊢
 split at h
 ·rename_i c
  cases hc:c.kept with
  | true=>rw [hc] at h; exact hk _ h
  | false=>rw [hc] at h; exact h.elim
 ·exact ⟨h.1,hk _ h.2⟩
 ·exact hk _ h
 ·exact hk _ h
 ·rename_i cs
  cases hc:cs.length.beq n with
  | true=>rw [hc] at h; exact hk _ h
  | false=>rw [hc] at h; exact h.elim
 ·exact ⟨h.1,hk _ h.2⟩
 ·exact h.elim
theorem fR {S:Type} {agg:Bool} {n:Nat} {v:AV} {k:List CA→Prg S} {e:S} (h:(v.aX agg n k).hits C e):(v.nf.aX agg n k).hits C e:=by
 rcases aD v with h1 | ⟨b,h1,rfl | rfl⟩
 ·rwa [h1]
 ·rw [h1]
  cases agg with
  | false=>exact h
  | true=>exact h.elim
 ·rw [h1]
  cases agg with
  | false=>exact h.2
  | true=>exact (by simp [AV.aX,TV.isAgg,Prg.hits] at h)
theorem lY {S:Type} {e:S}:∀ {vs:List AV} {k:List CA→Prg S},(kT vs k).hits C e→(kT (vs.map AV.nf) k).hits C e
 | [],k,h=>h
 | x :: vs, k, h => by
  simp only [kT,List.map_cons] at h ⊢
  refine fR ?_
  unfold AV.aX at h ⊢
  split at h
  ·rename_i c _
   cases hc:c.kept with
   | false=>simp [hc,Prg.hits] at h
   | true=>simp only [hc,cond_true] at h ⊢; exact lY h
  ·exact ⟨h.1,lY h.2⟩
  ·exact lY h
  ·exact lY h
  ·rename_i cs' hb; cases hb
  ·rename_i cs' hb; cases hb
  ·exact h.elim
theorem jO {f:FuncId} {e:Eff}:∀ {vs:List AV} {k:List CA→List CA},(kT vs fun cs=>(.ret (.val (.clo f (k cs))):Out)).hits C e→∃ cs,e=.val (.clo f cs)
 | [],k,h=>⟨_,h.symm⟩
 | x :: vs, k, h => by
  simp only [kT] at h
  unfold AV.aX at h
  split at h
  ·rename_i c _
   cases hc:c.kept with
   | false=>simp [hc,Prg.hits] at h
   | true=>simp only [hc,cond_true] at h; exact jO (k:=fun cs=>k (_ ++ cs)) h
  ·exact jO (k:=fun cs=>k (_ ++ cs)) h.2
  ·exact jO (k:=fun cs=>k (_ ++ cs)) h
  ·exact jO (k:=fun cs=>k (_ ++ cs)) h
  ·rename_i hb; cases hb
  ·rename_i hb; cases hb
  ·exact h.elim
theorem ry {S:Type} {at_:Nat→Option (Nat × Bool × Nat)} {k:List CA→Prg S} {e:S}:∀ {is:List Nat} {vs:List AV} {cs:List CA},(bT at_ is vs cs k).hits C e→(bT at_ is (vs.map AV.nf) cs k).hits C e
 | [],[],cs,h=>h
 | i :: is, x :: vs, cs, h => by
  simp only [bT,List.map_cons] at h ⊢
  split at h
  ·rename_i off agg n hat
   have key:∀ ps,((bif (off + ps.length).ble cs.length && ps.length.beq n then bT at_ is vs (cb cs off ps) k else .fail):Prg S).hits C e→((bif (off + ps.length).ble cs.length && ps.length.beq n then bT at_ is (vs.map AV.nf) (cb cs off ps) k else .fail):Prg S).hits C e:=by
    intro ps hp
    cases hb:(off + ps.length).ble cs.length && ps.length.beq n with
    | false=>simp [hb,Prg.hits] at hp
    | true=>simp only [hb,cond_true] at hp ⊢; exact ry hp
   refine fR ?_
   unfold AV.aX at h ⊢
   split at h
   ·rename_i c
    cases hc:c.kept with
    | false=>simp [hc,Prg.hits] at h
    | true=>simp only [hc,cond_true] at h ⊢; exact key _ h
   ·exact ⟨h.1,key _ h.2⟩
   ·exact key _ h
   ·exact key _ h
   ·rename_i cs'
    have:=key cs'
    cases hc:cs'.length.beq n with
    | false=>simp [hc,Prg.hits] at h
    | true=>simp only [hc,cond_true] at h this ⊢; exact this h
   ·exact ⟨h.1,key _ h.2⟩
   ·exact h.elim
  ·exact h.elim
 | [],_ :: _,cs,h=>h.elim
 | _ :: _,[],cs,h=>h.elim
theorem wO {S:Type} {v:AV} {k:TV→Prg S}:uq look v.nf k=uq look v k:=by
 rcases aD v with h | ⟨b,h,rfl | rfl⟩
 ·rw [h]
 ·rfl
 ·rfl
theorem DS {S:Type} {v:AV} {k:TV→Prg S}:sL look v.nf k=sL look v k:=by
 rcases aD v with h | ⟨b,h,rfl | rfl⟩
 ·rw [h]
 ·rfl
 ·rfl
theorem CG {S:Type} {v:AV} {k:TV→List (Nat × Nat)→Prg S}:th look v.nf k=th look v k:=by
 rcases aD v with h | ⟨b,h,rfl | rfl⟩
 ·rw [h]
 ·rfl
 ·rfl
theorem jV {S:Type}:∀ {vs:List AV} {k:List TV→Prg S},lends look (vs.map AV.nf) k=lends look vs k
 | [],k=>rfl
 | v :: vs,k=>by simp only [List.map_cons,lends,DS,jV]
theorem tS {S:Type}:∀ {vs:List AV} {k:List TV→List (Nat × Nat)→Prg S},hands look (vs.map AV.nf) k=hands look vs k
 | [],k=>rfl
 | v :: vs,k=>by simp only [List.map_cons,hands,CG,tS]
theorem D8 {E:Env} {id:Nat} {look:Look} {f:FuncId} {ld:fL} (vs:List AV):o0 E id look f ld (vs.map AV.nf)=o0 E id look f ld vs:=by
 cases vs with
 | nil=>rfl
 | cons v l =>
  rcases aD v with h | ⟨b,h,rfl | rfl⟩
  ·simp only [List.map_cons,h]
   cases v with
   | one c =>
    cases c with
    | ptr i off =>
     cases off with
     | zero=>simp only [o0,tS]
     | succ n=>rfl
    | _=>rfl
   | _=>rfl
  ·simp only [List.map_cons,h]; rfl
  ·simp only [List.map_cons,h]; rfl
theorem Dy {look:Look} {f:FuncId} {c:Nat × Nat} (vs:List AV):o6 look f c (vs.map AV.nf)=o6 look f c vs:=by
 cases vs with
 | nil=>rfl
 | cons v l =>
  rcases aD v with h | ⟨b,h,rfl | rfl⟩
  ·simp only [List.map_cons,h]
   cases v with
   | one c =>
    cases c with
    | ptr i off =>
     cases off with
     | zero=>simp only [o6,jV]
     | succ n=>rfl
    | _=>rfl
   | _=>rfl
  ·simp only [List.map_cons,h]; rfl
  ·simp only [List.map_cons,h]; rfl
theorem Ef {look:Look} {f:FuncId} (vs:List AV):md look f (vs.map AV.nf)=md look f vs:=by
 cases vs with
 | nil=>rfl
 | cons v l =>
  rcases aD v with h | ⟨b,h,rfl | rfl⟩
  ·simp only [List.map_cons,h]
   cases v with
   | one c=>cases c <;> simp only [md,jV]
   | _=>rfl
  ·simp only [List.map_cons,h]; rfl
  ·simp only [List.map_cons,h]; rfl
theorem Ek {E:Env} {id:Nat} {look:Look} {f:FuncId} {i:Nat} (vs:List AV):xZ E id look f i (vs.map AV.nf)=xZ E id look f i vs:=by
 simp only [xZ,jV]
theorem E8 (d:TyD) (t:TypeId) (v:AV):DA d t v.nf=DA d t v:=by
 rcases aD v with h | ⟨b,h,rfl | rfl⟩
 ·rw [h]
 ·rfl
 ·rfl
theorem DZ (d:TyD) (t:TypeId) (v:AV):vE d t v.nf=vE d t v:=by
 simp only [vE,gT]
theorem A8 {S:Type} {v:Option AV} {k:Option Nat→Prg S}:gh (v.map AV.nf) k=gh v k:=by
 cases v with
 | none=>rfl
 | some v=>simp only [gh,FR,gT]
theorem uZ (v:AV):sG v.nf=sG v:=by
 rcases aD v with h | ⟨b,h,rfl | rfl⟩
 ·rw [h]
 ·rfl
 ·rfl
theorem Aw {S:Type} {d:TyD} {dest:Option Nat} {v:AV} {k:List (List TV)→List Prim→Prg S}:yo look d dest v.nf k=yo look d dest v k:=by
 rcases aD v with h | ⟨b,h,rfl | rfl⟩
 ·rw [h]
 ·rfl
 ·rfl
theorem mJ {kd:Kd} {sz:Nat} {x:AV} {lo hi:Option AV}:jf look kd sz x.nf (lo.map AV.nf) (hi.map AV.nf)=jf look kd sz x lo hi:=by
 simp only [jf,gT,A8]
 rcases aD x with h | ⟨b,h,rfl | rfl⟩
 ·rw [h]
  cases lo <;> rfl
 ·rfl
 ·rfl
theorem C8 (v:AV):vv v.nf=vv v:=by
 rcases aD v with h | ⟨b,h,rfl | rfl⟩
 ·rw [h]
 ·rfl
 ·rfl
theorem opL_nf {op : Op} {vs : List AV} {e : Eff} (h : (opL E id look op vs).hits C e) : ∃ e', (opL E id look op (vs.map AV.nf)).hits C e' ∧ e'.nfE = e.nfE := by
 cases op with
 | move x =>
  rcases vs with _ | ⟨v,_ | ⟨v',r⟩⟩ <;> first | exact h.elim | skip
  cases h
  exact ⟨_,rfl,by simp [Eff.nfE,zW]⟩
 | assign x =>
  rcases vs with _ | ⟨v,_ | ⟨v',r⟩⟩ <;> first | exact h.elim | skip
  cases h
  exact ⟨_,rfl,by simp [Eff.nfE,zW]⟩
 | pick c x y =>
  rcases vs with _ | ⟨v,_ | ⟨v',_ | ⟨v'',_ | ⟨v3,r⟩⟩⟩⟩ <;> first | exact h.elim | skip
  simp only [opL] at h
  split at h
  ·rename_i b
   cases h
   refine ⟨_,rfl,?_⟩
   cases b <;> simp [Eff.nfE,zW]
  ·exact h.elim
 | alloc t =>
  rcases vs with _ | ⟨v,r⟩ <;> first | exact h.elim | exact ⟨e,h,rfl⟩
 | box t x =>
  rcases vs with _ | ⟨v,_ | ⟨v',r⟩⟩ <;> first | exact h.elim | skip
  refine ⟨e,?_,rfl⟩
  simp only [opL,List.map_cons,List.map_nil] at h ⊢
  split at h
  ·exact fR h
  ·exact h.elim
 | makeFunc fn first cap =>
  cases fn with
  | func f =>
   have:∃ cs,e=.val (.clo f cs):=by
    simp only [opL] at h
    cases hb:first.size.beq 0 with
    | false=>simp [hb,Prg.hits] at h
    | true =>
     simp only [hb,cond_true] at h
     exact jO (k:=fun l=>l) h
   obtain ⟨cs,rfl⟩:=this
   refine ⟨_,?_,rfl⟩
   simp only [opL] at h ⊢
   cases hb:first.size.beq 0 with
   | false=>simp [hb,Prg.hits] at h
   | true=>simp only [hb,cond_true] at h ⊢; exact lY h
  | _=>exact h.elim
 | build t parts =>
  refine ⟨e,?_,rfl⟩
  simp only [opL] at h ⊢
  split at h
  ·rename_i d hd
   cases hb:lH E.T d.kd with
   | false=>simp [hb,Prg.hits] at h
   | true=>simp only [hb,cond_true] at h ⊢; exact ry h
  ·exact h.elim
 | buildSlice t len parts =>
  refine ⟨e,?_,rfl⟩
  simp only [opL] at h ⊢
  cases hc:E.cold t && !(len.beq 0) with
  | true =>
   rw [hc] at h
   simp only [cond_true] at h ⊢
   unfold sO at h ⊢
   split at h
   ·exact ry h
   ·exact h.elim
  | false =>
   rw [hc] at h
   simp only [cond_false] at h ⊢
   unfold jb at h ⊢
   split at h
   ·exact ry h
   ·exact h.elim
 | load t x =>
  rcases vs with _ | ⟨v,_ | ⟨v',r⟩⟩ <;> first | exact h.elim | skip
  refine ⟨e,?_,rfl⟩
  rcases aD v with h1 | ⟨b,h1,rfl | rfl⟩
  ·simpa only [List.map_cons,List.map_nil,h1] using h
  ·simp only [opL] at h; split at h <;> exact h.elim
  ·simp only [opL] at h; split at h <;> exact h.elim
 | store t x y =>
  rcases vs with _ | ⟨v,_ | ⟨v',_ | ⟨v'',r⟩⟩⟩ <;> first | exact h.elim | skip
  refine ⟨e,?_,rfl⟩
  simp only [opL,List.map_cons,List.map_nil] at h ⊢
  split at h
  ·rcases aD v with h1 | ⟨b,h1,rfl | rfl⟩
   ·rw [h1]
    unfold vN at h ⊢
    split at h
    ·rename_i e0 _ _ i0 off0 len0 n0
     cases hk0:e0.kd.isAgg with
     | true=>rw [hk0] at h; exact h.elim
     | false =>
      rw [hk0] at h
      simp only [cond_false] at h ⊢
      split at h
      ·exact fR h
      ·exact h.elim
    ·exact fR h
    ·exact fR h
    ·exact h.elim
   ·exact h.elim
   ·exact h.elim
  ·exact h.elim
 | nilCheck x =>
  rcases vs with _ | ⟨v,_ | ⟨v',r⟩⟩ <;> first | exact h.elim | skip
  refine ⟨e,?_,rfl⟩
  rcases aD v with h1 | ⟨b,h1,rfl | rfl⟩
  ·simpa only [List.map_cons,List.map_nil,h1] using h
  ·exact h.elim
  ·exact h.elim
 | binOp op xt x y yt =>
  rcases vs with _ | ⟨v,_ | ⟨v',_ | ⟨v'',r⟩⟩⟩ <;> first | exact h.elim | skip
  refine ⟨e,?_,rfl⟩
  simp only [opL,List.map_cons,List.map_nil] at h ⊢
  split at h
  ·unfold E2 at h ⊢
   split at h
   ·split at h
    ·exact fR (xF (fun cs h=>fR h) h)
    ·exact h.elim
   ·simp only [EY,C8] at h ⊢
    exact h
   ·simp only [Eo,wO,gT] at h ⊢
    exact h
  ·exact h.elim
 | unOp op xt x =>
  rcases vs with _ | ⟨v,_ | ⟨v',r⟩⟩ <;> first | exact h.elim | skip
  rcases aD v with h1 | ⟨b,h1,h2⟩
  ·refine ⟨e,?_,rfl⟩
   simpa only [List.map_cons,List.map_nil,h1] using h
  ·have hv:∃ t,(opL E id look (.unOp op xt x) [v]).hits C e→(Prg.tv (pun op (.lit (.bool b))) vt).hits C e:=⟨(),by rcases h2 with rfl | rfl <;> intro h <;> cases op <;> exact h⟩
   obtain ⟨_,hv⟩:=hv
   obtain ⟨z,hz,hh⟩:=hv h
   cases op with
   | not =>
    simp only [pun,FG] at hz
    subst hz
    cases hh
    refine ⟨.val (.bl !b),?_,rfl⟩
    simp only [List.map_cons,List.map_nil,h1]
    rfl
   | _=>simp [pun] at hz
 | convert xt dt x =>
  rcases vs with _ | ⟨v,_ | ⟨v',r⟩⟩ <;> first | exact h.elim | skip
  refine ⟨e,?_,rfl⟩
  simp only [opL,List.map_cons,List.map_nil,AI,gT,wO] at h ⊢
  exact h
 | makeSlice t x y =>
  rcases vs with _ | ⟨v,_ | ⟨v',_ | ⟨v'',r⟩⟩⟩ <;> first | exact h.elim | skip
  refine ⟨e,?_,rfl⟩
  simp only [opL,List.map_cons,List.map_nil,gT] at h ⊢
  exact h
 | slice t x lo hi mx =>
  refine ⟨e,?_,rfl⟩
  cases mx with
  | some m=>rcases vs with _ | ⟨v,r⟩ <;> exact h.elim
  | none =>
   rcases vs with _ | ⟨v,r⟩
   ·exact h.elim
   ·simp only [opL, List.map_cons] at h ⊢
    split at h
    ·rename_i d hT
     split at h
     ·rename_i sz hsz
      cases lo with
      | none =>
       cases hi with
       | none =>
        rcases r with _ | ⟨l,r⟩
        ·have:=mJ (look:=look) (kd:=d.kd) (sz:=sz) (x:=v) (lo:=none) (hi:=none)
         simp only [Option.map_none] at this
         simp only [List.map_nil]
         rw [this]; exact h
        ·exact h.elim
       | some hh =>
        rcases r with _ | ⟨l,_ | ⟨l',r⟩⟩
        ·exact h.elim
        ·have:=mJ (look:=look) (kd:=d.kd) (sz:=sz) (x:=v) (lo:=none) (hi:=some l)
         simp only [Option.map_none,FR] at this
         simp only [List.map_cons,List.map_nil]
         rw [this]; exact h
        ·exact h.elim
      | some ll =>
       cases hi with
       | none =>
        rcases r with _ | ⟨l,_ | ⟨l',r⟩⟩
        ·exact h.elim
        ·have:=mJ (look:=look) (kd:=d.kd) (sz:=sz) (x:=v) (lo:=some l) (hi:=none)
         simp only [Option.map_none,FR] at this
         simp only [List.map_cons,List.map_nil]
         rw [this]; exact h
        ·exact h.elim
       | some hh =>
        rcases r with _ | ⟨l,_ | ⟨l',_ | ⟨l'',r⟩⟩⟩
        ·exact h.elim
        ·exact h.elim
        ·have:=mJ (look:=look) (kd:=d.kd) (sz:=sz) (x:=v) (lo:=some l) (hi:=some l')
         simp only [FR] at this
         simp only [List.map_cons,List.map_nil]
         rw [this]; exact h
        ·exact h.elim
     ·exact h.elim
    ·exact h.elim
 | fieldAddr t x f =>
  rcases vs with _ | ⟨v,_ | ⟨v',r⟩⟩ <;> first | exact h.elim | skip
  refine ⟨e,?_,rfl⟩
  rcases aD v with h1 | ⟨b,h1,rfl | rfl⟩
  ·simpa only [List.map_cons,List.map_nil,h1] using h
  ·simp only [opL] at h
   split at h
   ·rename_i hv
    cases hv
    split at h
    ·rename_i n _ _
     cases hb:Nat.blt 0 n <;> simp [hb,CA.add,Prg.hits] at h
    ·exact h.elim
   ·exact h.elim
  ·simp only [opL] at h
   split at h
   ·rename_i hv; cases hv
   ·exact h.elim
 | field t x f =>
  rcases vs with _ | ⟨v,_ | ⟨v',r⟩⟩ <;> first | exact h.elim | skip
  refine ⟨e,?_,rfl⟩
  rcases aD v with h1 | ⟨b,h1,rfl | rfl⟩
  ·simpa only [List.map_cons,List.map_nil,h1] using h
  ·simp only [opL] at h
   split at h
   ·split at h <;> exact h.elim
   ·exact h.elim
  ·simp only [opL] at h
   split at h
   ·split at h
    ·simp [ww,TV.isAgg,Prg.hits] at h
    ·exact h.elim
   ·exact h.elim
 | indexAddr t x y =>
  rcases vs with _ | ⟨v,_ | ⟨v',_ | ⟨v'',r⟩⟩⟩ <;> first | exact h.elim | skip
  refine ⟨e,?_,rfl⟩
  simp only [opL,List.map_cons,List.map_nil] at h ⊢
  split at h
  ·rcases aD v with h1 | ⟨b,h1,rfl | rfl⟩
   ·simp only [h1,qh,gT] at h ⊢; exact h
   ·simp only [qh,gT] at h ⊢; exact h
   ·simp only [qh,gT] at h ⊢; exact h
  ·unfold rn at h ⊢
   rw [gT]
   rcases aD v with h1 | ⟨b,h1,rfl | rfl⟩
   ·rw [h1]; exact h
   ·split at h
    ·split at h <;> first | exact h.elim | (rename_i hx _; cases hx)
    ·exact h.elim
   ·split at h
    ·split at h <;> first | exact h.elim | (rename_i hx _; cases hx)
    ·exact h.elim
 | index t x y =>
  rcases vs with _ | ⟨v,_ | ⟨v',_ | ⟨v'',r⟩⟩⟩ <;> first | exact h.elim | skip
  refine ⟨e,?_,rfl⟩
  simp only [opL,List.map_cons,List.map_nil,gT] at h ⊢
  split at h
  ·exact h
  ·unfold rk at h ⊢
   rw [gT]
   rcases aD v with h1 | ⟨b,h1,rfl | rfl⟩
   ·rw [h1]; exact h
   ·split at h
    ·split at h <;> first | exact h.elim | (rename_i hx _; cases hx)
    ·exact h.elim
   ·split at h
    ·split at h <;> first | exact h.elim | (rename_i hx _; cases hx)
    ·exact h.elim
 | extract x j =>
  rcases vs with _ | ⟨v,_ | ⟨v',r⟩⟩ <;> first | exact h.elim | skip
  refine ⟨e,?_,rfl⟩
  rcases aD v with h1 | ⟨b,h1,rfl | rfl⟩
  ·simpa only [List.map_cons,List.map_nil,h1] using h
  ·exact h.elim
  ·exact h.elim
 | call c =>
  refine ⟨e,?_,rfl⟩
  obtain ⟨callee,args,tys⟩:=c
  cases callee with
  | builtin b =>
   simp only [opL] at h ⊢
   unfold eN at h
   split at h
   ·rename_i x ty htys
    simp only [htys,eN,List.map_cons,List.map_nil]
    split at h
    ·rename_i d hd
     have key:∀ kd,(zN look kd x).hits C e→(zN look kd x.nf).hits C e:=by intro kd; cases kd <;> simp only [zN,wO] <;> exact fun h=>h
     exact key _ h
    ·exact h.elim
   ·rename_i s x ty ty' htys
    simp only [htys,eN,List.map_cons,List.map_nil]
    split at h
    ·rename_i _ d hel
     cases hb:Nat.beq ty ty' with
     | false =>
      simp only [hb,cond_false] at h ⊢
      split at h
      ·rename_i hu
       unfold mb at h ⊢
       rw [gT]
       rcases aD s with h1 | ⟨b,h1,rfl | rfl⟩
       ·rw [h1]; exact h
       ·exact h
       ·exact h
      ·exact h.elim
     | true =>
      simp only [hb,cond_true] at h ⊢
      unfold pd at h ⊢
      rw [Aw,uZ]
      rcases aD s with h1 | ⟨b,h1,rfl | rfl⟩
      ·rw [h1]; exact h
      ·exact h
      ·exact h
    ·exact h.elim
   ·rename_i s x ty ty' htys
    simp only [htys,eN,List.map_cons,List.map_nil]
    split at h
    ·rename_i _ d hel
     cases hb:Nat.beq ty ty' with
     | false=>simp [hb,Prg.hits] at h
     | true =>
      simp only [hb,cond_true] at h ⊢
      unfold zS at h ⊢
      rw [Aw,uZ]
      rcases aD s with h1 | ⟨b,h1,rfl | rfl⟩
      ·rw [h1]; exact h
      ·exact h
      ·exact h
    ·exact h.elim
   ·rename_i s ty htys
    simp only [htys,eN,List.map_cons,List.map_nil]
    split at h
    ·unfold vZ at h ⊢
     rcases aD s with h1 | ⟨b,h1,rfl | rfl⟩
     ·rw [h1]; exact h
     ·exfalso
      revert h
      cases Nat.blt 0 _ <;> exact fun h=>h.elim
     ·exfalso
      revert h
      cases Nat.blt 0 _ <;> exact fun h=>h.elim
    ·exact h.elim
   ·simp only [eN,List.map_cons,List.map_nil,yD,gT] at h ⊢
    exact h
   ·simp only [eN,List.map_cons,List.map_nil,yD,gT] at h ⊢
    exact h
   ·exact h.elim
  | value f =>
   cases f with
   | func f =>
    rcases vs with _ | ⟨v,r⟩
    ·exact h.elim
    ·simp only [opL,List.map_cons,nq,jV,tS,D8,Dy,Ef] at h ⊢
     exact h
   | tmp t =>
    rcases vs with _ | ⟨v,r⟩
    ·exact h.elim
    ·simp only [opL,List.map_cons,gT,jV,Ek] at h ⊢
     rcases aD v with h1 | ⟨b,h1,rfl | rfl⟩
     ·rw [h1]; exact h
     ·exact h
     ·exact h
   | _=>exact h.elim
  | invoke r m=>exact h.elim
 | makeInterface t x =>
  rcases vs with _ | ⟨v,_ | ⟨v',r⟩⟩ <;> first | exact h.elim | skip
  refine ⟨e,?_,rfl⟩
  simp only [opL,List.map_cons,List.map_nil,E8] at h ⊢
  exact h
 | typeAssert x xt t ok =>
  rcases vs with _ | ⟨v,_ | ⟨v',r⟩⟩ <;> cases ok <;> first | exact h.elim | skip
  refine ⟨e,?_,rfl⟩
  simp only [opL,List.map_cons,List.map_nil,DZ] at h ⊢
  exact h
 | _=>exact h.elim
theorem mf (st:ASt):st.nfS.look=st.look:=rfl
theorem ow (st:ASt):st.nfS.base=st.base:=rfl
theorem we (st:ASt) (d:Option Tmp):st.nfS.nid d=st.nid d:=by cases d <;> rfl
theorem jo (st:ASt) (d:Option Tmp) (v:AV):(st.put d v).nfS=st.nfS.put d v.nf:=by
 cases d with
 | none=>rfl
 | some d=>simp [ASt.nfS,ASt.put,ak,List.map_set]
theorem sg (st:ASt) (i:Nat) (b:Option BC):(st.ac i b).nfS=st.nfS.ac i b:=rfl
theorem jZ (st:ASt) (t:Nat):nth (.one .junk) st.nfS.slots t=(nth (.one .junk) st.slots t).nf:=by
 simp only [ASt.nfS,aM,FK]
 cases st.slots[t]? <;> rfl
theorem Bc (ps:List Nat) (st:ASt) (d:Option Nat) (e:Eff):ck ps st.nfS d e.nfE=ck ps st d e:=by
 unfold ck
 congr 1
 funext k
 cases d with
 | none=>rw [ow,cm]
 | some d=>simp only [ow,cm,jZ,mT]
theorem oz (k s:Nat):∀ (l:List AV) (n:Nat),fM k s n (l.map AV.nf)=fM k s n l
 | [],n=>rfl
 | v :: l,n=>by simp only [List.map_cons,fM,mT,oz k s l (n + 1)]
theorem ym {k:Nat} {v:AV} (h:jU k v=true):jU k v.nf=true:=by
 unfold jU at h
 split at h
 ·exact h
 ·cases h
theorem jh {e:Eff} {i:Nat} {y:TV} (h:jQ e=some (i,y)):e=.gen [.drop i 0 [] false,.root i 0 y] (.one (.sref i 0 [])):=by
 unfold jQ at h
 split at h
 ·rename_i i' j y' k
  cases hb:i'.beq j && i'.beq k with
  | false=>rw [hb] at h; cases h
  | true =>
   simp only [hb,cond_true,FG,Prod.mk.injEq] at h
   simp only [FH] at hb
   obtain ⟨rfl,rfl⟩:=h
   rw [← (aq _ _).1 hb.1,← (aq _ _).1 hb.2]
 ·cases h
theorem ng (i:Nat) (y:TV):jQ (.gen [.drop i 0 [] false,.root i 0 y] (.one (.sref i 0 [])))=some (i,y):=by
 simp only [jQ,(aq i i).2 rfl,Bool.and_self,cond_true]
theorem Bx {o:Item} {st:ASt} {e:Eff} (h:db o st e=true):db o st.nfS e.nfE=true:=by
 unfold db at h ⊢
 split at h
 ·rename_i s i y h1 h2
  have:=jh h2
  subst this
  simp only [FH] at h
  simp only [h1,Eff.nfE,AV.nf,ng,FH]
  refine ⟨⟨⟨⟨⟨h.1.1.1.1.1,?_⟩,h.1.1.1.2⟩,?_⟩,h.1.2⟩,h.2⟩
  ·rw [jZ]; exact ym h.1.1.1.1.2
  ·rw [show st.nfS.slots=st.slots.map AV.nf from rfl,oz]; exact h.1.1.2
 ·cases h
theorem sN (st:ASt) (x:Operand):st.nfS.ev x=(st.ev x).nf:=by
 cases x with
 | tmp t=>exact jZ st t
 | const v =>
  cases v with
  | bool b=>rfl
  | _=>first | rfl | (simp only [ASt.ev]; cases Value.oneCell' _ <;> rfl)
 | global g=>rfl
 | func f=>rfl
theorem se:∀ (l:List AV),co (l.map AV.nf)=co l
 | []=>rfl
 | v :: l=>by simp only [List.map_cons,co,gT,se l]
theorem kW (e:Eff):iU e.nfE=iU e:=by
 cases e with
 | new b v=>cases b <;> rfl
 | _=>rfl
theorem BH {i:Item} {st:ASt} {e:Eff}:iz i st.nfS e.nfE=iz i st e:=by
 unfold iz
 have:i.o.op.operands.toList.map st.nfS.ev=(i.o.op.operands.toList.map st.ev).map AV.nf:=by
  rw [List.map_map]
  exact List.map_congr_left fun x _=>sN st x
 rw [this,se,kW,cm]
 rfl
theorem xX:∀ (l:List AV),gp (l.map AV.nf)=gp l
 | []=>rfl
 | v :: l=>by simp only [List.map_cons,gp,mT,xX l]
theorem pS (e:Eff):mo e.nfE=mo e:=by cases e <;> rfl
theorem zG (e:Eff):drE e.nfE=drE e:=by cases e <;> rfl
theorem ss (k:Nat) (e:Eff):uP k e.nfE=uP k e:=by cases e <;> rfl
theorem rx (v:AV):(v.nf.bS CA.deep).dX=(v.bS CA.deep).dX:=by
 rcases aD v with h | ⟨b,h,rfl | rfl⟩
 ·rw [h]
 ·rw [h]; rfl
 ·rw [h]; rfl
theorem xd:∀ (l:List AV),gp (bW CA.deep (l.map AV.nf))=gp (bW CA.deep l)
 | []=>rfl
 | v :: l=>by simp only [List.map_cons,bW,gp,rx,xd l]
theorem qG (e:Eff):oE e.nfE=oE e:=by
 cases e with
 | val v=>exact rx v
 | new b v=>exact cm (.new b v)
 | upd i b v=>exact cm (.upd i b v)
 | gen ps v=>exact cm (.gen ps v)
theorem Bl {i:Item} {st:ASt} {e:Eff}:ct i st.nfS e.nfE=ct i st e:=by
 unfold ct
 simp only [pS,zG,ss]
 rfl
theorem BP {i:Item} {st:ASt} {e:Eff}:dh i st.nfS e.nfE=dh i st e:=by
 unfold dh
 have hd:∀ d b,jq st.nfS d b=jq st d b:=fun d b=>by
  cases d with
  | none=>rfl
  | some d =>
   have:=sN st (.tmp d)
   simp only [ASt.ev] at this
   simp only [jq,this,mT]
 have hd2:∀ d b,g9 st.nfS d b=g9 st d b:=fun d b=>by
  cases d with
  | none=>rfl
  | some d =>
   have:=sN st (.tmp d)
   simp only [ASt.ev] at this
   simp only [g9,this,rx]
 simp only [hd,hd2,cm,qG]
 have:i.o.op.operands.toList.map st.nfS.ev=(i.o.op.operands.toList.map st.ev).map AV.nf:=by
  rw [List.map_map]
  exact List.map_congr_left fun x _=>sN st x
 rw [this,xX,xd]
 rfl
theorem okE_nf {i:Item} {st:ASt} {e:Eff} (h:okE i st e=true):okE i st.nfS e.nfE=true:=by
 unfold okE at h ⊢
 rw [Bool.or_eq_true] at h ⊢
 rcases h with h | h
 ·rw [Bl]; exact .inl h
 refine .inr ?_
 rw [Bool.or_eq_true] at h ⊢
 rcases h with h | h
 ·rw [oS,yc,ow,Bc,BH,BP]; exact .inl h
 ·exact .inr (Bx h)
theorem wm (hs:Sim w0 I0 st a ov w):Sim w0 I0 st.nfS a ov w:=by
 obtain ⟨g,hs⟩:=hs
 refine ⟨g,hs.below,hs.sub,hs.lt,hs.old,by simp [ASt.nfS,hs.len],hs.defers,fun t v hv=>?_,hs.olen,hs.outs,hs.cells,hs.trees,hs.foot,hs.apart,hs.apartR,hs.res,hs.base,hs.out⟩
 simp only [ASt.nfS,FK] at hv
 cases hsl:st.slots[t]? with
 | none=>simp [hsl] at hv
 | some u =>
  simp only [hsl,FR,FG] at hv
  subst hv
  exact Cq.2 (hs.slots t u hsl)
theorem eP (hs:Sim w0 I0 st.nfS a ov w):Sim w0 I0 st a ov w:=by
 obtain ⟨g,hs⟩:=hs
 refine ⟨g,hs.below,hs.sub,hs.lt,hs.old,by have:=hs.len; simpa [ASt.nfS] using this,hs.defers,fun t v hv=>?_,hs.olen,hs.outs,hs.cells,hs.trees,hs.foot,hs.apart,hs.apartR,hs.res,hs.base,hs.out⟩
 exact Cq.1 (hs.slots t v.nf (by simp [ASt.nfS,hv]))
theorem od (i r:Nat) (js:List Nat) (b:Bool) (v:AV):(v.bS (CA.drop i r js b)).nf=v.nf.bS (CA.drop i r js b):=by
 rcases aD v with h | ⟨b,h,rfl | rfl⟩
 ·rw [h]
  cases v with
  | one c =>
   have key:∀ c:CA,c.drop i r js b=c∨c.drop i r js b=.junk:=fun c=>by
    rcases fk i r js b c with ⟨h,_⟩ | h
    ·exact .inl h
    ·exact .inr h
   simp only [AV.bS]
   rcases key c with h' | h'
   ·rw [h',h]
   ·rw [h']; rfl
  | tv x=>exact h
  | _=>rfl
 ·rfl
 ·rfl
theorem Ee (st:ASt) (i r:Nat) (js:List Nat) (b:Bool):(st.au (CA.drop i r js b)).nfS=st.nfS.au (CA.drop i r js b):=by
 simp only [ASt.nfS,ASt.au]
 congr 1
 apply List.ext_getElem?
 intro t
 simp only [FK,mY]
 cases st.slots[t]? with
 | none=>rfl
 | some v=>simp [od]
theorem qL (i:Nat) (v:AV):(v.bS (CA.unM i)).nf=v.nf.bS (CA.unM i):=by
 cases v with
 | one c =>
  cases c with
  | t x =>
   cases x with
   | lit u=>cases u <;> rfl
   | _=>rfl
  | may j ty =>
   simp only [AV.bS,CA.unM,AV.nf]
   cases j.beq i <;> rfl
  | _=>rfl
 | tv x =>
  cases x with
  | lit u=>cases u <;> rfl
  | _=>rfl
 | _=>rfl
theorem E4 (st:ASt) (i:Nat):(st.au (CA.unM i)).nfS=st.nfS.au (CA.unM i):=by
 simp only [ASt.au,ASt.nfS]
 congr 1
 induction st.slots with
 | nil=>rfl
 | cons v l ih=>simp only [bW,List.map_cons,qL,ih]
theorem uJ {i:Nat} {b:BC} (h:st.bz i b=some st'):st.nfS.bz i b=some st'.nfS:=by
 obtain ⟨h1,h2,rfl⟩:=bn h
 have h2':i.blt st.nfS.boxes.length=true:=by simpa [ASt.nfS] using h2
 simp only [ASt.bz,mf,h1,h2',cond_true,sg]
theorem qY {d:Option Tmp}:∀ {ps:List Prim} {st st':ASt},af d ps st=some st'→af d ps st.nfS=some st'.nfS
 | [],st,st',h=>by simp only [af,FG] at h; subst h; rfl
 | p :: ps, st, st', h => by
  simp only [af] at h ⊢
  cases h1:p.app st d with
  | none=>simp [h1] at h
  | some s1 =>
   simp only [h1] at h
   have:p.app st.nfS d=some s1.nfS:=by
    cases p with
    | drop i r js b =>
     simp only [Prim.app,FG] at h1 ⊢
     subst h1
     rw [Ee]
    | root i r x =>
     simp only [Prim.app,mf] at h1 ⊢
     split at h1
     ·rename_i b hb
      simp only [FG] at h1
      subst h1
      rfl
     ·cases h1
    | frz i r =>
     simp only [Prim.app,mf] at h1 ⊢
     split at h1
     ·rename_i x hx
      split at h1
      ·rename_i b hb
       simp only [FG] at h1
       subst h1
       rfl
      ·cases h1
     ·cases h1
    | unmay i =>
     simp only [Prim.app,FG] at h1 ⊢
     subst h1
     rw [E4]
    | newB b =>
     cases d with
     | none=>simp [Prim.app] at h1
     | some d =>
      simp only [Prim.app] at h1 ⊢
      rw [we]
      exact uJ h1
    | setB i cs =>
     simp only [Prim.app,mf] at h1 ⊢
     split at h1
     ·simp only [FG] at h1
      subst h1
      rfl
     ·cases h1
   rw [this]
   exact qY h
theorem app_nf {e:Eff} {d:Option Tmp} (h:e.app st d=some st'):e.nfE.app st.nfS d=some st'.nfS:=by
 cases e with
 | val v =>
  simp only [Eff.app,Eff.nfE,FG] at h ⊢
  subst h
  rw [jo]
 | new b v =>
  cases d with
  | none=>simp [Eff.app] at h
  | some d =>
   simp only [Eff.app,Eff.nfE] at h ⊢
   rw [we]
   split at h
   ·rename_i s1 hs1
    simp only [FG] at h
    subst h
    rw [uJ hs1]
    simp only [jo]
   ·cases h
 | upd i b v =>
  simp only [Eff.app,Eff.nfE,FG] at h ⊢
  subst h
  rw [jo,sg]
 | gen ps v =>
  simp only [Eff.app,Eff.nfE] at h ⊢
  split at h
  ·rename_i s1 hs1
   simp only [FG] at h
   subst h
   rw [qY hs1]
   simp only [jo]
  ·cases h
theorem li {d:Option Tmp} {v:AV} (hs:Sim w0 I0 (st.put d v) a ov w):Sim w0 I0 (st.put d v.nf) a ov w:=by
 apply eP
 have:=wm hs
 rw [jo] at this ⊢
 rwa [zW]
theorem zU {e:Eff} {d:Option Tmp} (h:e.nfE.app st d=some st'):∃ st1,e.app st d=some st1∧∀ w0 I0 a ov w,Sim w0 I0 st1 a ov w→Sim w0 I0 st' a ov w:=by
 cases e with
 | val v =>
  simp only [Eff.app,Eff.nfE,FG] at h ⊢
  subst h
  exact ⟨_,rfl,fun w0 I0 a ov w hs=>li hs⟩
 | new b v =>
  cases d with
  | none=>simp [Eff.app,Eff.nfE] at h
  | some d =>
   simp only [Eff.app,Eff.nfE] at h ⊢
   split at h
   ·rename_i s1 hs1
    simp only [FG] at h
    subst h
    exact ⟨_,rfl,fun w0 I0 a ov w hs=>li hs⟩
   ·cases h
 | upd i b v =>
  simp only [Eff.app,Eff.nfE,FG] at h ⊢
  subst h
  exact ⟨_,rfl,fun w0 I0 a ov w hs=>li hs⟩
 | gen ps v =>
  simp only [Eff.app,Eff.nfE] at h ⊢
  split at h
  ·rename_i s1 hs1
   simp only [FG] at h
   subst h
   exact ⟨_,rfl,fun w0 I0 a ov w hs=>li hs⟩
  ·cases h
end
end Go.Ab
end
section
namespace Go.Ab
open Go.RowKit
def Prg.All {R:Type} (p:R→Prop):Prg R→Prop
 | .fail=>True
 | .ret e=>p e
 | .tv _ k=>∀ v,(k v).All p
 | .tvs _ k=>∀ v,(k v).All p
 | .rws _ k=>∀ v,(k v).All p
 | .nat _ k=>∀ v,(k v).All p
 | .chk _ k=>k.All p
 | .ite _ t e=>t.All p∧e.All p
 | .call _ _ k=>∀ v,(k v).All p
 | .jmp _ _=>True
theorem Prg.All.hits {R:Type} {C:Cal} {p:R→Prop} {e:R}:∀ {o:Prg R},o.All p→o.hits C e→p e
 | .ret e',h,h'=>by cases h'; exact h
 | .tv _ k,h,⟨v,_,h'⟩=>(h v).hits h'
 | .tvs _ k,h,⟨v,_,h'⟩=>(h v).hits h'
 | .rws _ k,h,⟨v,_,h'⟩=>(h v).hits h'
 | .nat _ k,h,⟨v,_,h'⟩=>(h v).hits h'
 | .chk _ k,h,⟨_,h'⟩=>Prg.All.hits (o:=k) h h'
 | .ite _ t e,h,⟨v,_,.inl ⟨_,h'⟩⟩=>Prg.All.hits (o:=t) h.1 h'
 | .ite _ t e,h,⟨v,_,.inr ⟨_,h'⟩⟩=>Prg.All.hits (o:=e) h.2 h'
 | .call _ _ k,h,⟨v,_,h'⟩=>(h v).hits h'
section
variable {E:Env} {look look':Look} {p:Eff→Prop} {id:Nat}
theorem aF {b:Bool} {x y:Out} (hx:x.All p) (hy:y.All p):(bif b then x else y).All p:=by cases b <;> assumption
theorem i6 {q:Way} {x:TV} {k:TV→Out} (h:∀ y,(k y).All p):(nI q x k).All p:=by
 unfold nI
 split
 ·exact h _
 ·exact h
theorem gk {c:CA} {k:TV→Out} (h:∀ y,(k y).All p):(i7 look c k).All p:=by
 unfold i7
 split
 ·exact h _
 ·split
  ·exact i6 h
  ·exact trivial
 ·split
  ·exact i6 fun y z=>h z
  ·exact trivial
 ·exact trivial
theorem oJ {v:AV} {k:TV→Out} (h:∀ y,(k y).All p):(uq look v k).All p:=by
 unfold uq
 split
 ·exact gk h
 ·exact h _
 ·exact h _
 ·exact trivial
theorem uQ {c:CA} {k:TV→Out} (h:∀ y,(k y).All p):(uc look c k).All p:=by
 unfold uc
 split
 ·exact h _
 ·exact gk fun y=>h _
 ·exact gk fun y=>h _
 ·exact trivial
theorem vD {k:List TV→Out}:∀ {cs:List CA} {k:List TV→Out},(∀ y,(k y).All p)→(Ap look cs k).All p
 | [],k,h=>h _
 | c :: cs,k,h=>uQ fun y=>vD (k:=fun _=>.fail) fun ys=>h _
theorem BT {v:AV} {k:TV→Out} (h:∀ y,(k y).All p):(sL look v k).All p:=by
 unfold sL
 split
 ·exact uQ h
 ·exact h _
 ·exact vD (k:=fun _=>.fail) fun ys=>h _
 ·exact trivial
 ·exact trivial
 ·exact h _
theorem gF:∀ {vs:List AV} {k:List TV→Out},(∀ y,(k y).All p)→(lends look vs k).All p
 | [],k,h=>h _
 | v :: vs,k,h=>BT fun y=>gF fun ys=>h _
theorem uB {c:CA} {k:TV→List (Nat × Nat)→Out} (h:∀ y r,(k y r).All p):(tI look c k).All p:=by
 unfold tI
 split
 ·exact h _ _
 ·split
  ·split
   ·exact h _ _
   ·exact fun y=>h _ _
  ·exact trivial
 ·split
  ·split
   ·exact fun y=>h _ _
   ·exact fun z y=>h _ _
  ·exact trivial
 ·exact trivial
theorem ux:∀ {cs:List CA} {k:List TV→List (Nat × Nat)→Out},(∀ y r,(k y r).All p)→(AC look cs k).All p
 | [],k,h=>h _ _
 | c :: cs,k,h=>uB fun y r=>ux fun ys rs=>h _ _
theorem BM {v:AV} {k:TV→List (Nat × Nat)→Out} (h:∀ y r,(k y r).All p):(th look v k).All p:=by
 unfold th
 split
 ·exact uB h
 ·exact h _ _
 ·exact ux fun ys rs=>h _ _
 ·exact trivial
 ·exact trivial
 ·exact h _ _
theorem pQ:∀ {vs:List AV} {k:List TV→List (Nat × Nat)→Out},(∀ y r,(k y r).All p)→(hands look vs k).All p
 | [],k,h=>h _ _
 | v :: vs,k,h=>BM fun y r=>pQ fun ys rs=>h _ _
theorem em:∀ {cs:List CA} {k:List TV→List Prim→List (Nat × Nat)→Out},(∀ y q r,(k y q r).All p)→(cF look cs k).All p
 | [],k,h=>h _ _ _
 | .t x :: l,k,h=>by
  simp only [cF]
  exact em (cs:=l) fun xs ps ts=>h _ _ _
 | .sref i r q :: l, k, h => by
  simp only [cF]
  split
  ·split
   ·exact em (cs:=l) fun xs ps ts=>h _ _ _
   ·exact fun y=>em (cs:=l) fun xs ps ts=>h _ _ _
  ·exact trivial
 | .swin i r q lo len :: l, k, h => by
  simp only [cF]
  split
  ·split
   ·exact fun y=>em (cs:=l) fun xs ps ts=>h _ _ _
   ·exact fun z y=>em (cs:=l) fun xs ps ts=>h _ _ _
  ·exact trivial
 | .ptr _ _ :: l,k,h=>trivial
 | .ref _ _ :: l,k,h=>trivial
 | .tptr _ _ _ _ _ :: l,k,h=>trivial
 | .may _ _ :: l,k,h=>trivial
 | .aptr _ _ _ _ :: l,k,h=>trivial
 | .ifp _ _ :: l,k,h=>trivial
 | .fn1 _ _ :: l,k,h=>trivial
 | .yl _ :: l,k,h=>trivial
 | .undef :: l,k,h=>trivial
 | .junk :: l,k,h=>trivial
theorem eD:∀ {cs:List CA} {k:List TV→List Prim→List (Nat × Nat)→Out},(∀ y q r,(k y q r).All p)→(cg look cs k).All p
 | [],k,h=>h _ _ _
 | .t x :: l,k,h=>by
  simp only [cg]
  exact eD (cs:=l) fun xs ps ts=>h _ _ _
 | .sref i r q :: l, k, h => by
  simp only [cg]
  split
  ·split
   ·exact eD (cs:=l) fun xs ps ts=>h _ _ _
   ·exact fun y=>⟨eD (cs:=l) fun xs ps ts=>h _ _ _,fun x'=>eD (cs:=l) fun xs ps ts=>h _ _ _⟩
  ·exact trivial
 | .swin i r q lo len :: l, k, h => by
  simp only [cg]
  split
  ·split
   ·exact fun y=>eD (cs:=l) fun xs ps ts=>h _ _ _
   ·exact fun z y=>eD (cs:=l) fun xs ps ts=>h _ _ _
  ·exact trivial
 | .ptr _ _ :: l,k,h=>trivial
 | .ref _ _ :: l,k,h=>trivial
 | .tptr _ _ _ _ _ :: l,k,h=>trivial
 | .may _ _ :: l,k,h=>trivial
 | .aptr _ _ _ _ :: l,k,h=>trivial
 | .ifp _ _ :: l,k,h=>trivial
 | .fn1 _ _ :: l,k,h=>trivial
 | .yl _ :: l,k,h=>trivial
 | .undef :: l,k,h=>trivial
 | .junk :: l,k,h=>trivial
theorem eK {agg:Bool} {n:Nat} {x:AV} {k:List CA→Out} (h:∀ cs,(k cs).All p):(x.aX agg n k).All p:=by
 unfold AV.aX
 split
 ·rename_i c; cases c.kept <;> first | exact trivial | exact h _
 ·exact h _
 ·exact h _
 ·exact h _
 ·rename_i cs; cases cs.length.beq n <;> first | exact trivial | exact h _
 ·exact h _
 ·exact trivial
theorem pc {at_:Nat→Option (Nat × Bool × Nat)} {k:List CA→Out} (h:∀ cs,(k cs).All p):∀ (is:List Nat) (vs:List AV) (cs:List CA),(bT at_ is vs cs k).All p
 | [],[],cs=>h cs
 | i :: is, x :: vs, cs => by
  simp only [bT]
  split
  ·refine eK (fun ps=>?_)
   exact aF (pc h is vs _) trivial
  ·exact trivial
 | [],_ :: _,cs=>trivial
 | _ :: _,[],cs=>trivial
theorem fF {v:Option AV} {k:Option Nat→Out} (h:∀ n,(k n).All p):(gh v k).All p:=by
 unfold gh
 split
 ·exact h _
 ·split
  ·exact fun v=>h _
  ·exact trivial
abbrev dl (e:Eff):Prop:=∃ v,e=.val v
abbrev dp (e:Eff):Prop:=∃ b v,e=.new b v
theorem yr {d:TyD} {x:List TV} {off:Nat}:(kB d x off).All dl:=by
 unfold kB
 cases d.kd.isAgg
 ·exact ⟨_,rfl⟩
 ·exact ⟨_,rfl⟩
theorem vH:∀ {vs:List AV} {k:List CA→Out},(∀ cs,(k cs).All p)→(kT vs k).All p
 | [],k,h=>h _
 | v :: vs,k,h=>eK fun cs=>vH fun cs'=>h _
theorem Fk {op:Op} (h:ap op=.N) (vs:List AV):(opL E id look op vs).All dl:=by
 cases op with
 | move x=>rcases vs with _ | ⟨v,_ | ⟨v',r⟩⟩ <;> first | exact trivial | exact ⟨_,rfl⟩
 | assign x=>rcases vs with _ | ⟨v,_ | ⟨v',r⟩⟩ <;> first | exact trivial | exact ⟨_,rfl⟩
 | pick c x y =>
  rcases vs with _ | ⟨v,_ | ⟨v',_ | ⟨v'',_ | ⟨v3,r⟩⟩⟩⟩ <;> first | exact trivial | skip
  simp only [opL]
  split <;> first | exact trivial | exact ⟨_,rfl⟩
 | build t parts =>
  simp only [opL]
  split
  ·refine aF ?_ trivial
   refine pc ?_ _ _ _
   exact fun cs=>⟨_,rfl⟩
  ·exact trivial
 | nilCheck x =>
  rcases vs with _ | ⟨v,_ | ⟨v',r⟩⟩ <;> first | exact trivial | skip
  simp only [opL]
  split <;> first | exact trivial | exact ⟨_,rfl⟩
 | unOp op xt x =>
  rcases vs with _ | ⟨v,_ | ⟨v',r⟩⟩ <;> first | exact trivial | skip
  simp only [opL]
  split
  ·exact ⟨_,rfl⟩
  ·split
   ·exact fun v=>⟨_,rfl⟩
   ·exact trivial
 | fieldAddr t x f =>
  rcases vs with _ | ⟨v,_ | ⟨v',r⟩⟩ <;> first | exact trivial | skip
  simp only [opL]
  split
  ·split
   ·refine aF ?_ trivial
    split <;> first | exact trivial | exact ⟨_,rfl⟩
   ·exact trivial
  ·exact trivial
 | field t x f =>
  rcases vs with _ | ⟨v,_ | ⟨v',r⟩⟩ <;> first | exact trivial | skip
  simp only [opL]
  split
  ·split
   ·unfold ww
    split
    ·split
     ·split <;> first | exact trivial | exact ⟨_,rfl⟩
     ·exact trivial
    ·exact ⟨_,rfl⟩
    ·exact trivial
   ·exact trivial
  ·exact trivial
 | index t x y =>
  rcases vs with _ | ⟨v,_ | ⟨v',_ | ⟨v'',r⟩⟩⟩ <;> first | exact trivial | skip
  simp only [opL]
  split
  ·exact fun v=>⟨_,rfl⟩
  ·unfold rk
   split
   ·split
    ·refine aF ?_ trivial
     split
     ·exact fun k v=>⟨_,rfl⟩
     ·exact trivial
    ·exact trivial
   ·exact trivial
 | extract x j =>
  rcases vs with _ | ⟨v,_ | ⟨v',r⟩⟩ <;> first | exact trivial | skip
  simp only [opL]
  split
  ·split
   ·split <;> first | exact trivial | exact ⟨_,rfl⟩
   ·exact trivial
  ·exact trivial
 | makeFunc fn first cap =>
  cases fn with
  | func f =>
   simp only [opL]
   exact aF (vH fun cs=>⟨_,rfl⟩) trivial
  | _=>exact trivial
 | call c =>
  obtain ⟨callee,args,tys⟩:=c
  cases callee with
  | builtin b=>cases b <;> simp [ap] at h
  | value f=>cases f <;> simp [ap] at h
  | invoke r m=>simp [ap] at h
 | makeInterface t x =>
  rcases vs with _ | ⟨v,_ | ⟨v',r⟩⟩ <;> first | exact trivial | skip
  simp only [opL]
  split
  ·unfold DA
   refine aF ?_ trivial
   split
   ·exact ⟨_,rfl⟩
   ·split
    ·exact fun v=>⟨_,rfl⟩
    ·exact trivial
  ·exact trivial
 | typeAssert x xt t ok =>
  rcases vs with _ | ⟨v,_ | ⟨v',r⟩⟩ <;> cases ok <;> first | exact trivial | skip
  simp only [opL]
  split
  ·unfold vE
   refine aF ?_ trivial
   split
   ·exact fun v=>⟨_,rfl⟩
   ·exact trivial
  ·exact trivial
 | _=>simp [ap] at h
theorem DO {op:Op} (h:ap op=.R) (vs:List AV):(opL E id look op vs).All dl:=by
 cases op with
 | load t x =>
  rcases vs with _ | ⟨v,_ | ⟨v',r⟩⟩ <;> first | exact trivial | skip
  simp only [opL]
  split
  ·unfold Ae
   split
   ·refine aF trivial ?_
    split
    ·exact fun v=>⟨_,rfl⟩
    ·exact trivial
   ·split
    ·split
     ·split
      ·exact ⟨_,rfl⟩
      ·exact trivial
     ·exact trivial
    ·exact trivial
   ·exact yr
   ·split
    ·refine i6 (fun s e=>?_)
     simp only [Prg.All]
     split
     ·exact ⟨_,rfl⟩
     ·exact trivial
    ·exact trivial
   ·exact trivial
  ·exact trivial
 | convert xt dt x =>
  rcases vs with _ | ⟨v,_ | ⟨v',r⟩⟩ <;> first | exact trivial | skip
  simp only [opL]
  split
  ·unfold AI
   split
   ·split
    ·exact aF (oJ fun y=>fun rows=>fun v=>⟨_,rfl⟩) trivial
    ·exact trivial
   ·split
    ·exact fun v=>⟨_,rfl⟩
    ·exact trivial
  ·exact trivial
 | binOp op xt x y yt =>
  rcases vs with _ | ⟨v,_ | ⟨v',_ | ⟨v'',r⟩⟩⟩ <;> first | exact trivial | skip
  simp only [opL]
  split
  ·unfold E2
   split
   ·split
    ·refine eK fun cs=>eK fun cs'=>?_
     split
     ·exact fun v=>⟨_,rfl⟩
     ·exact trivial
    ·exact trivial
   ·unfold EY
    split
    ·exact ⟨_,rfl⟩
    ·exact ⟨_,rfl⟩
    ·exact trivial
   unfold Eo
   refine aF (oJ fun x=>oJ fun y=>fun v=>⟨_,rfl⟩) ?_
   split
   ·exact fun v=>⟨_,rfl⟩
   ·exact trivial
  ·exact trivial
 | slice t x lo hi mx =>
  have sl:∀ {kd:Kd} {sz:Nat} {x:AV} {lo hi:Option AV},(jf look kd sz x lo hi).All dl:=by
   intro kd sz x lo hi
   unfold jf
   split
   ·exact fF fun lo=>fF fun hi=>fun v=>⟨_,rfl⟩
   ·split
    ·exact gk fun s n=>fF fun lo=>fF fun hi=>⟨_,rfl⟩
    ·split
     ·exact gk fun s=>fF fun hi=>⟨_,rfl⟩
     ·exact gk fun s=>fF fun lo=>fF fun hi=>⟨_,rfl⟩
    ·exact trivial
  cases mx with
  | some m=>rcases vs with _ | ⟨v,r⟩ <;> exact trivial
  | none =>
   rcases vs with _ | ⟨v,r⟩
   ·exact trivial
   ·simp only [opL]
    split
    ·split
     ·split <;> first | exact trivial | exact sl
     ·exact trivial
    ·exact trivial
 | indexAddr t x y =>
  rcases vs with _ | ⟨v,_ | ⟨v',_ | ⟨v'',r⟩⟩⟩ <;> first | exact trivial | skip
  simp only [opL]
  split
  ·unfold qh
   split
   ·split
    ·exact fun v=>⟨_,rfl⟩
    ·split
     ·exact gk fun s n k=>⟨_,rfl⟩
     ·exact gk fun s k=>⟨_,rfl⟩
     ·exact trivial
   ·exact trivial
  ·unfold rn
   split
   ·split
    ·exact aF (fun k=>⟨_,rfl⟩) trivial
    ·exact trivial
   ·exact trivial
 | call c =>
  obtain ⟨callee,args,tys⟩:=c
  cases callee with
  | builtin b =>
   have mn:∀ {mx:Bool} {x y:AV},(yD mx x y).All dl:=by
    intro mx x y
    unfold yD
    split
    ·exact fun v=>⟨_,rfl⟩
    ·exact trivial
   cases b <;> simp [ap] at h
   all_goals simp only [opL]
   all_goals unfold eN
   all_goals split <;> first | exact trivial | exact mn | contradiction | skip
   split
   ·unfold zN
    split
    ·exact ⟨_,rfl⟩
    ·exact oJ fun s v=>⟨_,rfl⟩
   ·exact trivial
  | value f=>cases f <;> simp [ap] at h
  | invoke r m=>simp [ap] at h
 | _=>simp [ap] at h
theorem cls_A {op:Op} (h:ap op=.A) (vs:List AV):(opL E id look op vs).All dp:=by
 cases op with
 | alloc t =>
  rcases vs with _ | ⟨v,r⟩ <;> first | exact trivial | skip
  simp only [opL]
  split
  ·exact ⟨_,_,rfl⟩
  ·exact trivial
 | box t x =>
  rcases vs with _ | ⟨v,_ | ⟨v',r⟩⟩ <;> first | exact trivial | skip
  simp only [opL]
  split
  ·exact eK (fun cs=>⟨_,_,rfl⟩)
  ·exact trivial
 | makeSlice t x y =>
  rcases vs with _ | ⟨v,_ | ⟨v',_ | ⟨v'',r⟩⟩⟩ <;> first | exact trivial | skip
  simp only [opL]
  split
  ·refine aF ?_ trivial
   exact fun n m=>⟨_,_,rfl⟩
  ·exact trivial
 | call c =>
  obtain ⟨callee,args,tys⟩:=c
  cases callee with
  | builtin b=>cases b <;> simp [ap] at h
  | value f=>cases f <;> simp [ap] at h
  | invoke r m=>simp [ap] at h
 | _=>simp [ap] at h
theorem jB {ps:List Prim} {b:BC} {v:AV}:(cO ps b v).plain=true→dl (cO ps b v)∨dp (cO ps b v):=by
 cases ps with
 | nil=>exact fun _=>.inr ⟨_,_,rfl⟩
 | cons q l=>exact fun h=>by cases h
theorem uR {ps:List Prim} {v:AV}:(match ps with | []=>Eff.val v | _=>.gen ps v).plain=true→dl (match ps with | []=>Eff.val v | _=>.gen ps v)∨dp (match ps with | []=>Eff.val v | _=>.gen ps v):=by
 cases ps with
 | nil=>exact fun _=>.inl ⟨_,rfl⟩
 | cons q l=>exact fun h=>by cases h
theorem lh {d:TyD} {x:TV} {k:Out} (h:k.All p):(jI d x k).All p:=by
 unfold jI
 exact aF h h
theorem qz {x:TV} {k:Out} (h:k.All p):∀ (ds:List TyD) (j:Nat),(gQ x ds j k).All p
 | [],j=>h
 | d :: ds,j=>lh (qz h ds (j + 1))
theorem sR {ds:List TyD} {v:TV} {ps:List Prim}:(ui id ds v ps).All fun e=>e.plain=true→dl e∨dp e:=by
 have many:∀ ds:List TyD,(Prg.chk (v.isTup ds.length) (gQ v ds 0 (bif ij ds then .ret (cO ps (.tree (bo v ds 0)) (.tups (dV id v ds 0 0)))
   else .ret (match ps with | []=>.val (.tups (dV id v ds 0 0)) | _=>.gen ps (.tups (dV id v ds 0 0)))))).All fun e=>e.plain=true→dl e∨dp e:=by
  intro ds
  refine qz ?_ ds 0
  exact aF jB uR
 match ds with
 | []=>exact many []
 | [d] =>
  simp only [ui]
  refine lh ?_
  split
  ·exact aF jB uR
  ·exact trivial
 | d :: d' :: l=>exact many _
theorem D9 {ds:List TyD} {v:TV} {k:AV→Out} {p:Eff→Prop} (h:∀ av,(k av).All p):(Eb id ds v k).All p:=by
 have some:∀ (ds:List TyD) (j:Nat) (k:Out),k.All p→(gQ v ds j k).All p:=by
  intro ds
  induction ds with
  | nil=>intro j k h; exact h
  | cons d ds ih=>intro j k h; exact lh (ih (j + 1) k h)
 unfold Eb
 split
 ·refine lh ?_
  split
  ·exact h _
  ·exact trivial
 ·exact some _ 0 _ (h _)
theorem BG {f:FuncId} {ld:fL} {vs:List AV}:(o0 E id look f ld vs).All fun e=>e.plain=true→dl e∨dp e:=by
 unfold o0
 split
 ·split
  ·refine aF trivial ?_
   exact pQ fun xs rs=>em fun ys qs ts=>aF (fun v=>D9 fun av=>fun h=>by simp [Eff.plain] at h) trivial
  ·exact trivial
 ·exact trivial
theorem BX {f:FuncId} {c:Nat × Nat} {vs:List AV}:(o6 look f c vs).All fun e=>e.plain=true→dl e∨dp e:=by
 unfold o6
 split
 ·split
  ·split
   ·exact aF (gF fun xs=>fun v=>fun _=>.inl ⟨_,rfl⟩) trivial
   ·exact trivial
  ·exact trivial
 ·exact trivial
theorem uT {p:Eff→Prop} {q:Way} {x y:TV} {k:TV→Out} (h:∀ y,(k y).All p):(yz q x y k).All p:=by
 unfold yz
 split
 ·exact h _
 ·exact fun v=>h _
theorem Bq {f:FuncId} {vs:List AV}:(md look f vs).All fun e=>e.plain=true→dl e∨dp e:=by
 unfold md
 split
 ·split
  ·exact i6 fun z=>gF fun xs=>fun v=>fun y=>uT fun x'=>fun h=>by cases h
  ·exact trivial
 ·split
  ·exact i6 fun z=>fun z1=>gF fun xs=>fun v=>fun y=>uT fun x'=>fun h=>by cases h
  ·exact trivial
 ·exact trivial
theorem Cf {f:FuncId} {i:Nat} {vs:List AV}:(xZ E id look f i vs).All fun e=>e.plain=true→dl e∨dp e:=by
 unfold xZ
 refine aF ?_ trivial
 split
 ·split
  ·exact gF fun xs=>fun v=>sR
  ·exact trivial
 ·exact trivial
theorem cls_B {op:Op} (h:ap op=.B) (vs:List AV):(opL E id look op vs).All fun e=>e.plain=true→dl e∨dp e:=by
 cases op with
 | buildSlice t len parts =>
  simp only [opL]
  refine aF ?_ ?_
  ·unfold sO
   split
   ·refine pc (fun cs=>?_) _ _ _
    split
    ·exact aF (fun _=>.inr ⟨_,_,rfl⟩) trivial
    ·exact trivial
   ·exact trivial
  unfold jb
  split
  ·refine pc (fun cs=>?_) _ _ _
   refine eD fun ys qs ts=>?_
   exact aF jB trivial
  ·exact trivial
 | call c =>
  obtain ⟨callee,args,tys⟩:=c
  cases callee with
  | builtin b=>cases b <;> simp [ap] at h
  | value f =>
   cases f with
   | func f =>
    rcases vs with _ | ⟨v,r⟩
    ·exact trivial
    ·simp only [opL,nq]
     refine aF Bq (aF trivial ?_)
     split
     ·exact BX
     split
     ·exact BG
     ·split
      ·refine aF ?_ ?_
       ·exact gF fun xs=>fun v=>sR
       ·exact pQ fun xs rs=>aF (fun v=>sR) trivial
      ·exact trivial
   | tmp t =>
    rcases vs with _ | ⟨v,r⟩
    ·exact trivial
    ·simp only [opL]
     split
     ·exact fun f=>gF fun xs v=>fun _=>.inl ⟨_,rfl⟩
     ·split
      ·exact Cf
      ·exact trivial
   | _=>simp [ap] at h
  | invoke r m=>simp [ap] at h
 | _=>simp [ap] at h
abbrev isUpd (look:Look) (e:Eff):Prop:=∃ i b v,e=.upd i b v∧(look i).isSome=true
theorem CU {op : Op} (h : ap op = .W) (vs : List AV) : (opL E id look op vs).All fun e => e.plain = true → isUpd look e := by
 cases op with
 | store t x y =>
  rcases vs with _ | ⟨v,_ | ⟨v',_ | ⟨v'',r⟩⟩⟩ <;> first | exact trivial | skip
  simp only [opL]
  split
  ·unfold vN
   split
   ·refine aF trivial ?_
    split
    ·rename_i cs xs hrow
     refine eK (fun ps=>?_)
     split
     ·exact fun _=>⟨_,_,_,rfl,by simp [(jt hrow).1]⟩
     ·exact trivial
    ·exact trivial
   ·refine eK (fun ps=>?_)
    split
    ·rename_i cs hl
     exact aF (fun _=>⟨_,_,_,rfl,by simp [hl]⟩) trivial
    ·exact trivial
   ·refine eK (fun ps=>?_)
    split
    ·refine aF trivial (aF ?_ ?_)
     ·refine em fun ys qs ts=>aF ?_ trivial
      exact i6 fun s e=>fun x' hp=>by cases hp
     ·refine em fun ys qs ts=>?_
      split
      ·refine aF ?_ trivial
       refine i6 fun s e=>?_
       simp only [Prg.All]
       intro x'
       split
       ·rename_i b hb
        refine fun _=>⟨_,_,_,rfl,?_⟩
        unfold cf at hb
        split at hb
        ·rename_i hl; simp [hl]
        ·cases hb
       ·exact trivial
      ·exact trivial
    ·exact trivial
   ·exact trivial
  ·exact trivial
 | call c =>
  obtain ⟨callee,args,tys⟩:=c
  cases callee with
  | builtin b=>cases b <;> simp [ap] at h
  | value f=>cases f <;> simp [ap] at h
  | invoke r m=>simp [ap] at h
 | _=>simp [ap] at h
theorem qW {d:TyD} {s:AV} {news:List (List TV)} {ps:List Prim}:(mZ id look d s news ps).All fun e=>e.plain=true→dl e∨dp e:=by
 unfold mZ
 split
 ·exact aF (fun y=>jB) trivial
 ·split
  ·split
   ·split
    ·exact fun y h=>by cases h
    ·exact fun z y x' h=>by cases h
   ·exact trivial
  ·split
   ·split
    ·exact fun z y h=>by cases h
    ·exact fun z0 z y x' h=>by cases h
   ·exact trivial
  ·exact trivial
theorem Do {d:TyD} {dest:Option Nat} {x:AV} {k:List (List TV)→List Prim→Out} (h:∀ xs ps,(k xs ps).All p):(yo look d dest x k).All p:=by
 unfold yo
 split
 ·exact fun xs=>h _ _
 ·split
  ·refine aF ?_ ?_
   ·split
    ·split
     ·split
      ·exact aF trivial (fun xs=>h _ _)
      ·exact fun y=>fun xs=>h _ _
     ·exact trivial
    ·split
     ·split
      ·exact aF trivial (fun y xs=>h _ _)
      ·exact fun z y=>fun xs=>h _ _
     ·exact trivial
    ·exact trivial
   ·exact gk (fun s xs=>h _ _)
  ·exact trivial
theorem cls_P {op:Op} (h:ap op=.P) (vs:List AV):(opL E id look op vs).All fun e=>e.plain=true→dl e∨dp e:=by
 cases op with
 | call c =>
  obtain ⟨callee,args,tys⟩:=c
  cases callee with
  | builtin b =>
   cases b <;> simp [ap] at h
   simp only [opL]
   unfold eN
   split <;> try (first | exact trivial | contradiction)
   split
   ·refine aF ?_ ?_
    ·unfold pd
     exact aF (Do (fun xs ps=>qW)) trivial
    ·split
     ·unfold mb
      refine aF ?_ trivial
      split
      ·exact fun news=>qW
      ·exact trivial
     ·exact trivial
   ·exact trivial
  | value f=>cases f <;> simp [ap] at h
  | invoke r m=>simp [ap] at h
 | _=>simp [ap] at h
theorem vb {op:Op} (h:ap op=.N∨ap op=.A) (vs:List AV):opL E id look op vs=opL E id look' op vs:=by
 cases op <;> first
  | (rcases vs with _ | ⟨a,_ | ⟨b,_ | ⟨c,_ | ⟨d,r⟩⟩⟩⟩ <;> rfl)
  | (simp [ap] at h; done)
  | (rename_i fn _ _; cases fn <;> rfl)
  | (rename_i ok; cases ok <;> rcases vs with _ | ⟨a,_ | ⟨b,r⟩⟩ <;> rfl)
  | skip
 all_goals
  rename_i c
  obtain ⟨callee,args,tys⟩:=c
  cases callee with
  | builtin b=>cases b <;> simp [ap] at h
  | value f=>cases f <;> simp [ap] at h
  | invoke r m=>simp [ap] at h
end
end Go.Ab
end

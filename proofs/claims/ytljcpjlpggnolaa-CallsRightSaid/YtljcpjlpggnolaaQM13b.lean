import Derived.Test.YtljcpjlpggnolaaQM12b
set_option linter.all false
section
namespace Go.Ab
open Go.RowKit
structure g9 (P:Program) (G:Laid) (E:Env) (C:Cal):Prop where
 ty:∀ t d,E.T t=some d→aS P t d
 call:zi P G E C
section
variable {P:Program} {E:Env} {C:Cal} {w0:Bs} {w w':World} {I0 I R:Nat→Prop} {g g':Gh} {st st':ASt} {a:Act} {ov:List Value} {look:Look} {Q:Exit→Act→World→Prop} {id:Nat}
theorem Ds (hE:g9 P w0.G E C) (hlk:∀ i b,look i=some b→st.look i=some b) (hs:al w0 I0 NoR g st a ov w) {o:Oper} {e:Eff} (hh:(opL E (st.nid o.dst) look o.op (o.op.operands.toList.map st.ev)).hits C e) (ha:e.app st o.dst=some st') :
  Good P w0 I0 ov o st' a w Q:=by
 obtain ⟨dst,op,type,pos,after,guard⟩:=o
 cases op with
 | move x=>exact FN hs hh ha
 | assign x=>exact Cv hs hh ha
 | pick c x y=>exact Fu hs hh ha
 | alloc t=>exact D6 hE.ty hs hh ha
 | box t x=>exact op_box hE.ty hs hh ha
 | build t parts=>exact DG hE.ty hs hh ha
 | makeFunc fn first cap=>exact yE hs hh ha
 | buildSlice t len parts =>
  simp only [opL] at hh
  cases hc:E.cold t && !(len.beq 0) with
  | true=>rw [hc] at hh; exact E6 hE.ty hlk hs hh ha
  | false=>rw [hc] at hh; exact uz hE.ty hlk hs hh ha
 | load t x=>exact FF hE.ty hlk hs hh ha
 | store t x y=>exact DZ hE.ty hlk hs hh ha
 | nilCheck x=>exact yh hs hh ha
 | binOp op xt x y yt=>exact op_bin hE.ty hlk hs hh ha
 | unOp op xt x=>exact op_un hs hh ha
 | convert xt dt x=>exact zV hE.ty hlk hs hh ha
 | makeSlice t x y=>exact wT hE.ty hs hh ha
 | makeInterface t x=>exact op_ifc hE.ty hs hh ha
 | typeAssert x xt t ok=>exact Fb hE.ty hs hh ha
 | slice t x lo hi mx=>exact Ef hE.ty hlk hs hh ha
 | fieldAddr t x f=>exact xj hE.ty hs hh ha
 | field t x f=>exact EG hE.ty hs hh ha
 | indexAddr t x y=>exact wS hE.ty hlk hs hh ha
 | index t x y=>exact DU hE.ty hs hh ha
 | extract x j=>exact Ae hs hh ha
 | call c =>
  obtain ⟨callee,args,tys⟩:=c
  cases callee with
  | builtin b =>
   have hops:(Op.call ⟨.builtin b,args,tys⟩).operands.toList=args.toList:=by simp [Op.operands,Call.operands]
   simp only [hops] at hh
   simp only [opL] at hh
   unfold eF at hh
   split at hh
   ·rename_i x ty hargs htys
    obtain ⟨ox,rfl,hox⟩:=list1 hargs
    have:=arr1 htys
    subst this
    split at hh
    ·rename_i d hT
     rw [← hox] at hh
     exact zA hlk hs (hE.ty _ _ hT) hh ha
    ·exact hh.elim
   ·rename_i s x ty ty' hargs htys
    obtain ⟨os,ox,rfl,hos,hox⟩:=list2 hargs
    have:=arr2 htys
    subst this
    split at hh
    ·rename_i e1 d hel
     cases hb:Nat.beq ty ty' with
     | false =>
      simp only [hb,cond_false] at hh
      split at hh
      ·rename_i hu
       rw [← hos,← hox] at hh
       exact sR hE.ty hlk hs hel hu rfl hh ha
      ·exact hh.elim
     | true =>
      simp only [hb,cond_true] at hh
      have:=(aq _ _).1 hb
      subst this
      rw [← hos,← hox] at hh
      exact uB hE.ty hlk hs hel hh ha
    ·exact hh.elim
   ·rename_i s x ty ty' hargs htys
    obtain ⟨os,ox,rfl,hos,hox⟩:=list2 hargs
    have:=arr2 htys
    subst this
    split at hh
    ·rename_i e1 d hel
     cases hb:Nat.beq ty ty' with
     | false=>simp [hb,Prg.hits] at hh
     | true =>
      simp only [hb,cond_true] at hh
      have:=(aq _ _).1 hb
      subst this
      rw [← hos,← hox] at hh
      exact xM hE.ty hlk hs hel hh ha
    ·exact hh.elim
   ·rename_i s ty hargs htys
    obtain ⟨os,rfl,hos⟩:=list1 hargs
    have:=arr1 htys
    subst this
    split at hh
    ·rename_i e1 d hel
     rw [← hos] at hh
     exact xe hE.ty hlk hs hel hh ha
    ·exact hh.elim
   ·rename_i x y hargs
    obtain ⟨ox,oy,rfl,hox,hoy⟩:=list2 hargs
    rw [← hox,← hoy] at hh
    exact tP hs hh ha
   ·rename_i x y hargs
    obtain ⟨ox,oy,rfl,hox,hoy⟩:=list2 hargs
    rw [← hox,← hoy] at hh
    exact tP hs hh ha
   ·exact hh.elim
  | value f =>
   cases f with
   | func f =>
    have hops:(Op.call ⟨.value (.func f),args,tys⟩).operands.toList=.func f :: args.toList:=by simp [Op.operands,Call.operands]
    simp only [hops,List.map_cons] at hh
    exact FC hE.call hE.ty hlk hs hh ha
   | tmp t =>
    have hops:(Op.call ⟨.value (.tmp t),args,tys⟩).operands.toList=.tmp t :: args.toList:=by simp [Op.operands,Call.operands]
    simp only [hops,List.map_cons] at hh
    exact op_dyn hE.call hE.ty hlk hs hh ha
   | _=>simp [opL,Prg.hits] at hh
  | invoke r m=>simp [opL,Prg.hits] at hh
 | _=>simp [opL,Prg.hits] at hh
def AV.nf:AV→AV
 | .one (.t (.lit (.bool b)))=>.bl b
 | .tv (.lit (.bool b))=>.bl b
 | v=>v
def Eff.nfE:Eff→Eff
 | .val v=>.val v.nf
 | .new b v=>.new b v.nf
 | .upd i b v=>.upd i b v.nf
 | .gen ps v=>.gen ps v.nf
def ASt.nfS (st:ASt):ASt:=⟨st.slots.map AV.nf,st.boxes,st.out⟩
theorem aC (v:AV):v.nf=v∨∃ b,v.nf=.bl b∧(v=.one (.t (.lit (.bool b)))∨v=.tv (.lit (.bool b))):=by
 unfold AV.nf
 split
 ·exact .inr ⟨_,rfl,.inl rfl⟩
 ·exact .inr ⟨_,rfl,.inr rfl⟩
 ·exact .inl rfl
theorem Bq (v:AV):v.nf.nf=v.nf:=by
 rcases aC v with h | ⟨b,h,_⟩
 ·rw [h,h]
 ·rw [h]; rfl
theorem ig (v:AV):v.nf.tv? = v.tv? := by
 rcases aC v with h | ⟨b,h,rfl | rfl⟩
 ·rw [h]
 ·rfl
 ·rfl
theorem Dy {v:AV} {u:Value}:bM w g look v.nf u ↔ bM w g look v u:=by
 rcases aC v with h | ⟨b,h,rfl | rfl⟩
 ·rw [h]
 ·rw [h]
  constructor
  ·intro h'
   have:u=.bool b:=h'
   subst this
   exact ⟨.lit _,rfl⟩
  ·intro h'
   exact bB h'.1
 ·rw [h]
  constructor
  ·intro h'
   have:u=.bool b:=h'
   subst this
   exact .lit _
  ·intro h'
   exact bB h'
theorem mW (v:AV):v.nf.ea=v.ea:=by
 rcases aC v with h | ⟨b,h,rfl | rfl⟩
 ·rw [h]
 ·rw [h]; rfl
 ·rw [h]; rfl
theorem cn (e:Eff):dE e.nfE=dE e:=by cases e <;> simp only [Eff.nfE,dE,mW]
theorem oQ (e:Eff):e.nfE.plain=e.plain:=by cases e <;> rfl
theorem xY (base:Nat) (own:List (List Nat × List Nat)) (e:Eff):e.nfE.nF base own=e.nF base own:=by cases e <;> rfl
theorem ye {S:Type} {agg:Bool} {n:Nat} {v:AV} {k k':List CA→Prg S} {e:S} (hk:∀ cs,(k cs).hits C e→(k' cs).hits C e) (h:(v.aZ agg n k).hits C e):(v.aZ agg n k').hits C e:=by
 unfold AV.aZ at h ⊢
 split at h
 ·rename_i c
  cases hc:c.kept with
  | true=>rw [hc] at h; exact hk _ h
  | false=>rw [hc] at h; exact h.elim
 ·exact ⟨h.1,hk _ h.2⟩
 ·exact hk _ h
 ·exact hk _ h
 ·rename_i cs
  cases hc:cs.length.beq n with
  | true=>rw [hc] at h; exact hk _ h
  | false=>rw [hc] at h; exact h.elim
 ·exact ⟨h.1,hk _ h.2⟩
 ·exact h.elim
theorem fS {S:Type} {agg:Bool} {n:Nat} {v:AV} {k:List CA→Prg S} {e:S} (h:(v.aZ agg n k).hits C e):(v.nf.aZ agg n k).hits C e:=by
 rcases aC v with h1 | ⟨b,h1,rfl | rfl⟩
 ·rwa [h1]
 ·rw [h1]
  cases agg with
  | false=>exact h
  | true=>exact h.elim
 ·rw [h1]
  cases agg with
  | false=>exact h.2
  | true=>exact (by simp [AV.aZ,TV.isAgg,Prg.hits] at h)
theorem mz {S:Type} {e:S}:∀ {vs:List AV} {k:List CA→Prg S},(lC vs k).hits C e→(lC (vs.map AV.nf) k).hits C e
 | [],k,h=>h
 | x :: vs, k, h => by
  simp only [lC,List.map_cons] at h ⊢
  refine fS ?_
  unfold AV.aZ at h ⊢
  split at h
  ·rename_i c _
   cases hc:c.kept with
   | false=>simp [hc,Prg.hits] at h
   | true=>simp only [hc,cond_true] at h ⊢; exact mz h
  ·exact ⟨h.1,mz h.2⟩
  ·exact mz h
  ·exact mz h
  ·rename_i cs' hb; cases hb
  ·rename_i cs' hb; cases hb
  ·exact h.elim
theorem kr {f:FuncId} {e:Eff}:∀ {vs:List AV} {k:List CA→List CA},(lC vs fun cs=>(.ret (.val (.clo f (k cs))):Out)).hits C e→∃ cs,e=.val (.clo f cs)
 | [],k,h=>⟨_,h.symm⟩
 | x :: vs, k, h => by
  simp only [lC] at h
  unfold AV.aZ at h
  split at h
  ·rename_i c _
   cases hc:c.kept with
   | false=>simp [hc,Prg.hits] at h
   | true=>simp only [hc,cond_true] at h; exact kr (k:=fun cs=>k (_ ++ cs)) h
  ·exact kr (k:=fun cs=>k (_ ++ cs)) h.2
  ·exact kr (k:=fun cs=>k (_ ++ cs)) h
  ·exact kr (k:=fun cs=>k (_ ++ cs)) h
  ·rename_i hb; cases hb
  ·rename_i hb; cases hb
  ·exact h.elim
theorem rI {S:Type} {at_:Nat→Option (Nat × Bool × Nat)} {k:List CA→Prg S} {e:S}:∀ {is:List Nat} {vs:List AV} {cs:List CA},(bW at_ is vs cs k).hits C e→(bW at_ is (vs.map AV.nf) cs k).hits C e
 | [],[],cs,h=>h
 | i :: is, x :: vs, cs, h => by
  simp only [bW,List.map_cons] at h ⊢
  split at h
  ·rename_i off agg n hat
   have key:∀ ps,((bif (off + ps.length).ble cs.length && ps.length.beq n then bW at_ is vs (ce cs off ps) k else .fail):Prg S).hits C e→((bif (off + ps.length).ble cs.length && ps.length.beq n then bW at_ is (vs.map AV.nf) (ce cs off ps) k else .fail):Prg S).hits C e:=by
    intro ps hp
    cases hb:(off + ps.length).ble cs.length && ps.length.beq n with
    | false=>simp [hb,Prg.hits] at hp
    | true=>simp only [hb,cond_true] at hp ⊢; exact rI hp
   refine fS ?_
   unfold AV.aZ at h ⊢
   split at h
   ·rename_i c
    cases hc:c.kept with
    | false=>simp [hc,Prg.hits] at h
    | true=>simp only [hc,cond_true] at h ⊢; exact key _ h
   ·exact ⟨h.1,key _ h.2⟩
   ·exact key _ h
   ·exact key _ h
   ·rename_i cs'
    have:=key cs'
    cases hc:cs'.length.beq n with
    | false=>simp [hc,Prg.hits] at h
    | true=>simp only [hc,cond_true] at h this ⊢; exact this h
   ·exact ⟨h.1,key _ h.2⟩
   ·exact h.elim
  ·exact h.elim
 | [],_ :: _,cs,h=>h.elim
 | _ :: _,[],cs,h=>h.elim
theorem w9 {S:Type} {v:AV} {k:TV→Prg S}:uC look v.nf k=uC look v k:=by
 rcases aC v with h | ⟨b,h,rfl | rfl⟩
 ·rw [h]
 ·rfl
 ·rfl
theorem Do {S:Type} {v:AV} {k:TV→Prg S}:tQ look v.nf k=tQ look v k:=by
 rcases aC v with h | ⟨b,h,rfl | rfl⟩
 ·rw [h]
 ·rfl
 ·rfl
theorem DN {S:Type} {v:AV} {k:TV→List (Nat × Nat)→Prg S}:sd look v.nf k=sd look v k:=by
 rcases aC v with h | ⟨b,h,rfl | rfl⟩
 ·rw [h]
 ·rfl
 ·rfl
theorem ko {S:Type}:∀ {vs:List AV} {k:List TV→Prg S},lends look (vs.map AV.nf) k=lends look vs k
 | [],k=>rfl
 | v :: vs,k=>by simp only [List.map_cons,lends,Do,ko]
theorem sg {S:Type}:∀ {vs:List AV} {k:List TV→List (Nat × Nat)→Prg S},hands look (vs.map AV.nf) k=hands look vs k
 | [],k=>rfl
 | v :: vs,k=>by simp only [List.map_cons,hands,DN,sg]
theorem C1 {E:Env} {id:Nat} {look:Look} {f:FuncId} {ld:fO} (vs:List AV):pl E id look f ld (vs.map AV.nf)=pl E id look f ld vs:=by
 cases vs with
 | nil=>rfl
 | cons v l =>
  rcases aC v with h | ⟨b,h,rfl | rfl⟩
  ·simp only [List.map_cons,h]
   cases v with
   | one c =>
    cases c with
    | ptr i off =>
     cases off with
     | zero=>simp only [pl,sg]
     | succ n=>rfl
    | _=>rfl
   | _=>rfl
  ·simp only [List.map_cons,h]; rfl
  ·simp only [List.map_cons,h]; rfl
theorem D4 {look:Look} {f:FuncId} {c:Nat × Nat} (vs:List AV):oA look f c (vs.map AV.nf)=oA look f c vs:=by
 cases vs with
 | nil=>rfl
 | cons v l =>
  rcases aC v with h | ⟨b,h,rfl | rfl⟩
  ·simp only [List.map_cons,h]
   cases v with
   | one c =>
    cases c with
    | ptr i off =>
     cases off with
     | zero=>simp only [oA,ko]
     | succ n=>rfl
    | _=>rfl
   | _=>rfl
  ·simp only [List.map_cons,h]; rfl
  ·simp only [List.map_cons,h]; rfl
theorem Eo {look:Look} {f:FuncId} (vs:List AV):lS look f (vs.map AV.nf)=lS look f vs:=by
 cases vs with
 | nil=>rfl
 | cons v l =>
  rcases aC v with h | ⟨b,h,rfl | rfl⟩
  ·simp only [List.map_cons,h]
   cases v with
   | one c=>cases c <;> simp only [lS,ko]
   | _=>rfl
  ·simp only [List.map_cons,h]; rfl
  ·simp only [List.map_cons,h]; rfl
theorem FH {E:Env} {id:Nat} {look:Look} {f:FuncId} {i:Nat} (vs:List AV):yw E id look f i (vs.map AV.nf)=yw E id look f i vs:=by
 simp only [yw,ko]
theorem Fs (d:TyD) (t:TypeId) (v:AV):Dg d t v.nf=Dg d t v:=by
 rcases aC v with h | ⟨b,h,rfl | rfl⟩
 ·rw [h]
 ·rfl
 ·rfl
theorem Dr (d:TyD) (t:TypeId) (v:AV):vF d t v.nf=vF d t v:=by
 simp only [vF,ig]
theorem BR {S:Type} {v:Option AV} {k:Option Nat→Prg S}:gr (v.map AV.nf) k=gr v k:=by
 cases v with
 | none=>rfl
 | some v=>simp only [gr,GH,ig]
theorem uM (v:AV):ud v.nf=ud v:=by
 rcases aC v with h | ⟨b,h,rfl | rfl⟩
 ·rw [h]
 ·rfl
 ·rfl
theorem Br {S:Type} {d:TyD} {dest:Option Nat} {v:AV} {k:List (List TV)→List Prim→Prg S}:yD look d dest v.nf k=yD look d dest v k:=by
 rcases aC v with h | ⟨b,h,rfl | rfl⟩
 ·rw [h]
 ·rfl
 ·rfl
theorem np {kd:Kd} {sz:Nat} {x:AV} {lo hi:Option AV}:jr look kd sz x.nf (lo.map AV.nf) (hi.map AV.nf)=jr look kd sz x lo hi:=by
 simp only [jr,ig,BR]
 rcases aC x with h | ⟨b,h,rfl | rfl⟩
 ·rw [h]
  cases lo <;> rfl
 ·rfl
 ·rfl
theorem Ey (v:AV):vh v.nf=vh v:=by
 rcases aC v with h | ⟨b,h,rfl | rfl⟩
 ·rw [h]
 ·rfl
 ·rfl
theorem opL_nf {op : Op} {vs : List AV} {e : Eff} (h : (opL E id look op vs).hits C e) : ∃ e', (opL E id look op (vs.map AV.nf)).hits C e' ∧ e'.nfE = e.nfE := by
 cases op with
 | move x =>
  rcases vs with _ | ⟨v,_ | ⟨v',r⟩⟩ <;> first | exact h.elim | skip
  cases h
  exact ⟨_,rfl,by simp [Eff.nfE,Bq]⟩
 | assign x =>
  rcases vs with _ | ⟨v,_ | ⟨v',r⟩⟩ <;> first | exact h.elim | skip
  cases h
  exact ⟨_,rfl,by simp [Eff.nfE,Bq]⟩
 | pick c x y =>
  rcases vs with _ | ⟨v,_ | ⟨v',_ | ⟨v'',_ | ⟨v3,r⟩⟩⟩⟩ <;> first | exact h.elim | skip
  simp only [opL] at h
  split at h
  ·rename_i b
   cases h
   refine ⟨_,rfl,?_⟩
   cases b <;> simp [Eff.nfE,Bq]
  ·exact h.elim
 | alloc t =>
  rcases vs with _ | ⟨v,r⟩ <;> first | exact h.elim | exact ⟨e,h,rfl⟩
 | box t x =>
  rcases vs with _ | ⟨v,_ | ⟨v',r⟩⟩ <;> first | exact h.elim | skip
  refine ⟨e,?_,rfl⟩
  simp only [opL,List.map_cons,List.map_nil] at h ⊢
  split at h
  ·exact fS h
  ·exact h.elim
 | makeFunc fn first cap =>
  cases fn with
  | func f =>
   have:∃ cs,e=.val (.clo f cs):=by
    simp only [opL] at h
    cases hb:first.size.beq 0 with
    | false=>simp [hb,Prg.hits] at h
    | true =>
     simp only [hb,cond_true] at h
     exact kr (k:=fun l=>l) h
   obtain ⟨cs,rfl⟩:=this
   refine ⟨_,?_,rfl⟩
   simp only [opL] at h ⊢
   cases hb:first.size.beq 0 with
   | false=>simp [hb,Prg.hits] at h
   | true=>simp only [hb,cond_true] at h ⊢; exact mz h
  | _=>exact h.elim
 | build t parts =>
  refine ⟨e,?_,rfl⟩
  simp only [opL] at h ⊢
  split at h
  ·rename_i d hd
   cases hb:mf E.T d.kd with
   | false=>simp [hb,Prg.hits] at h
   | true=>simp only [hb,cond_true] at h ⊢; exact rI h
  ·exact h.elim
 | buildSlice t len parts =>
  refine ⟨e,?_,rfl⟩
  simp only [opL] at h ⊢
  cases hc:E.cold t && !(len.beq 0) with
  | true =>
   rw [hc] at h
   simp only [cond_true] at h ⊢
   unfold ub at h ⊢
   split at h
   ·exact rI h
   ·exact h.elim
  | false =>
   rw [hc] at h
   simp only [cond_false] at h ⊢
   unfold jw at h ⊢
   split at h
   ·exact rI h
   ·exact h.elim
 | load t x =>
  rcases vs with _ | ⟨v,_ | ⟨v',r⟩⟩ <;> first | exact h.elim | skip
  refine ⟨e,?_,rfl⟩
  rcases aC v with h1 | ⟨b,h1,rfl | rfl⟩
  ·simpa only [List.map_cons,List.map_nil,h1] using h
  ·simp only [opL] at h; split at h <;> exact h.elim
  ·simp only [opL] at h; split at h <;> exact h.elim
 | store t x y =>
  rcases vs with _ | ⟨v,_ | ⟨v',_ | ⟨v'',r⟩⟩⟩ <;> first | exact h.elim | skip
  refine ⟨e,?_,rfl⟩
  simp only [opL,List.map_cons,List.map_nil] at h ⊢
  split at h
  ·rcases aC v with h1 | ⟨b,h1,rfl | rfl⟩
   ·rw [h1]
    unfold wB at h ⊢
    split at h
    ·rename_i e0 _ _ i0 off0 len0 n0
     cases hk0:e0.kd.isAgg with
     | true=>rw [hk0] at h; exact h.elim
     | false =>
      rw [hk0] at h
      simp only [cond_false] at h ⊢
      split at h
      ·exact fS h
      ·exact h.elim
    ·exact fS h
    ·exact fS h
    ·exact h.elim
   ·exact h.elim
   ·exact h.elim
  ·exact h.elim
 | nilCheck x =>
  rcases vs with _ | ⟨v,_ | ⟨v',r⟩⟩ <;> first | exact h.elim | skip
  refine ⟨e,?_,rfl⟩
  rcases aC v with h1 | ⟨b,h1,rfl | rfl⟩
  ·simpa only [List.map_cons,List.map_nil,h1] using h
  ·exact h.elim
  ·exact h.elim
 | binOp op xt x y yt =>
  rcases vs with _ | ⟨v,_ | ⟨v',_ | ⟨v'',r⟩⟩⟩ <;> first | exact h.elim | skip
  refine ⟨e,?_,rfl⟩
  simp only [opL,List.map_cons,List.map_nil] at h ⊢
  split at h
  ·unfold FQ at h ⊢
   split at h
   ·split at h
    ·exact fS (ye (fun cs h=>fS h) h)
    ·exact h.elim
   ·simp only [FS,Ey] at h ⊢
    exact h
   ·simp only [Fk,w9,ig] at h ⊢
    exact h
  ·exact h.elim
 | unOp op xt x =>
  rcases vs with _ | ⟨v,_ | ⟨v',r⟩⟩ <;> first | exact h.elim | skip
  rcases aC v with h1 | ⟨b,h1,h2⟩
  ·refine ⟨e,?_,rfl⟩
   simpa only [List.map_cons,List.map_nil,h1] using h
  ·have hv:∃ t,(opL E id look (.unOp op xt x) [v]).hits C e→(Prg.tv (pun op (.lit (.bool b))) vt).hits C e:=⟨(),by rcases h2 with rfl | rfl <;> intro h <;> cases op <;> exact h⟩
   obtain ⟨_,hv⟩:=hv
   obtain ⟨z,hz,hh⟩:=hv h
   cases op with
   | not =>
    simp only [pun,Gw] at hz
    subst hz
    cases hh
    refine ⟨.val (.bl !b),?_,rfl⟩
    simp only [List.map_cons,List.map_nil,h1]
    rfl
   | _=>simp [pun] at hz
 | convert xt dt x =>
  rcases vs with _ | ⟨v,_ | ⟨v',r⟩⟩ <;> first | exact h.elim | skip
  refine ⟨e,?_,rfl⟩
  simp only [opL,List.map_cons,List.map_nil,Bj,ig,w9] at h ⊢
  exact h
 | makeSlice t x y =>
  rcases vs with _ | ⟨v,_ | ⟨v',_ | ⟨v'',r⟩⟩⟩ <;> first | exact h.elim | skip
  refine ⟨e,?_,rfl⟩
  simp only [opL,List.map_cons,List.map_nil,ig] at h ⊢
  exact h
 | slice t x lo hi mx =>
  refine ⟨e,?_,rfl⟩
  cases mx with
  | some m=>rcases vs with _ | ⟨v,r⟩ <;> exact h.elim
  | none =>
   rcases vs with _ | ⟨v,r⟩
   ·exact h.elim
   ·simp only [opL, List.map_cons] at h ⊢
    split at h
    ·rename_i d hT
     split at h
     ·rename_i sz hsz
      cases lo with
      | none =>
       cases hi with
       | none =>
        rcases r with _ | ⟨l,r⟩
        ·have:=np (look:=look) (kd:=d.kd) (sz:=sz) (x:=v) (lo:=none) (hi:=none)
         simp only [Option.map_none] at this
         simp only [List.map_nil]
         rw [this]; exact h
        ·exact h.elim
       | some hh =>
        rcases r with _ | ⟨l,_ | ⟨l',r⟩⟩
        ·exact h.elim
        ·have:=np (look:=look) (kd:=d.kd) (sz:=sz) (x:=v) (lo:=none) (hi:=some l)
         simp only [Option.map_none,GH] at this
         simp only [List.map_cons,List.map_nil]
         rw [this]; exact h
        ·exact h.elim
      | some ll =>
       cases hi with
       | none =>
        rcases r with _ | ⟨l,_ | ⟨l',r⟩⟩
        ·exact h.elim
        ·have:=np (look:=look) (kd:=d.kd) (sz:=sz) (x:=v) (lo:=some l) (hi:=none)
         simp only [Option.map_none,GH] at this
         simp only [List.map_cons,List.map_nil]
         rw [this]; exact h
        ·exact h.elim
       | some hh =>
        rcases r with _ | ⟨l,_ | ⟨l',_ | ⟨l'',r⟩⟩⟩
        ·exact h.elim
        ·exact h.elim
        ·have:=np (look:=look) (kd:=d.kd) (sz:=sz) (x:=v) (lo:=some l) (hi:=some l')
         simp only [GH] at this
         simp only [List.map_cons,List.map_nil]
         rw [this]; exact h
        ·exact h.elim
     ·exact h.elim
    ·exact h.elim
 | fieldAddr t x f =>
  rcases vs with _ | ⟨v,_ | ⟨v',r⟩⟩ <;> first | exact h.elim | skip
  refine ⟨e,?_,rfl⟩
  rcases aC v with h1 | ⟨b,h1,rfl | rfl⟩
  ·simpa only [List.map_cons,List.map_nil,h1] using h
  ·simp only [opL] at h
   split at h
   ·rename_i hv
    cases hv
    split at h
    ·rename_i n _ _
     cases hb:Nat.blt 0 n <;> simp [hb,CA.add,Prg.hits] at h
    ·exact h.elim
   ·exact h.elim
  ·simp only [opL] at h
   split at h
   ·rename_i hv; cases hv
   ·exact h.elim
 | field t x f =>
  rcases vs with _ | ⟨v,_ | ⟨v',r⟩⟩ <;> first | exact h.elim | skip
  refine ⟨e,?_,rfl⟩
  rcases aC v with h1 | ⟨b,h1,rfl | rfl⟩
  ·simpa only [List.map_cons,List.map_nil,h1] using h
  ·simp only [opL] at h
   split at h
   ·split at h <;> exact h.elim
   ·exact h.elim
  ·simp only [opL] at h
   split at h
   ·split at h
    ·simp [wL,TV.isAgg,Prg.hits] at h
    ·exact h.elim
   ·exact h.elim
 | indexAddr t x y =>
  rcases vs with _ | ⟨v,_ | ⟨v',_ | ⟨v'',r⟩⟩⟩ <;> first | exact h.elim | skip
  refine ⟨e,?_,rfl⟩
  simp only [opL,List.map_cons,List.map_nil] at h ⊢
  split at h
  ·rcases aC v with h1 | ⟨b,h1,rfl | rfl⟩
   ·simp only [h1,pV,ig] at h ⊢; exact h
   ·simp only [pV,ig] at h ⊢; exact h
   ·simp only [pV,ig] at h ⊢; exact h
  ·unfold rP at h ⊢
   rw [ig]
   rcases aC v with h1 | ⟨b,h1,rfl | rfl⟩
   ·rw [h1]; exact h
   ·split at h
    ·split at h <;> first | exact h.elim | (rename_i hx _; cases hx)
    ·exact h.elim
   ·split at h
    ·split at h <;> first | exact h.elim | (rename_i hx _; cases hx)
    ·exact h.elim
 | index t x y =>
  rcases vs with _ | ⟨v,_ | ⟨v',_ | ⟨v'',r⟩⟩⟩ <;> first | exact h.elim | skip
  refine ⟨e,?_,rfl⟩
  simp only [opL,List.map_cons,List.map_nil,ig] at h ⊢
  split at h
  ·exact h
  ·unfold rB at h ⊢
   rw [ig]
   rcases aC v with h1 | ⟨b,h1,rfl | rfl⟩
   ·rw [h1]; exact h
   ·split at h
    ·split at h <;> first | exact h.elim | (rename_i hx _; cases hx)
    ·exact h.elim
   ·split at h
    ·split at h <;> first | exact h.elim | (rename_i hx _; cases hx)
    ·exact h.elim
 | extract x j =>
  rcases vs with _ | ⟨v,_ | ⟨v',r⟩⟩ <;> first | exact h.elim | skip
  refine ⟨e,?_,rfl⟩
  rcases aC v with h1 | ⟨b,h1,rfl | rfl⟩
  ·simpa only [List.map_cons,List.map_nil,h1] using h
  ·exact h.elim
  ·exact h.elim
 | call c =>
  refine ⟨e,?_,rfl⟩
  obtain ⟨callee,args,tys⟩:=c
  cases callee with
  | builtin b =>
   simp only [opL] at h ⊢
   unfold eF at h
   split at h
   ·rename_i x ty htys
    simp only [htys,eF,List.map_cons,List.map_nil]
    split at h
    ·rename_i d hd
     have key:∀ kd,(zO look kd x).hits C e→(zO look kd x.nf).hits C e:=by intro kd; cases kd <;> simp only [zO,w9] <;> exact fun h=>h
     exact key _ h
    ·exact h.elim
   ·rename_i s x ty ty' htys
    simp only [htys,eF,List.map_cons,List.map_nil]
    split at h
    ·rename_i _ d hel
     cases hb:Nat.beq ty ty' with
     | false =>
      simp only [hb,cond_false] at h ⊢
      split at h
      ·rename_i hu
       unfold mq at h ⊢
       rw [ig]
       rcases aC s with h1 | ⟨b,h1,rfl | rfl⟩
       ·rw [h1]; exact h
       ·exact h
       ·exact h
      ·exact h.elim
     | true =>
      simp only [hb,cond_true] at h ⊢
      unfold oT at h ⊢
      rw [Br,uM]
      rcases aC s with h1 | ⟨b,h1,rfl | rfl⟩
      ·rw [h1]; exact h
      ·exact h
      ·exact h
    ·exact h.elim
   ·rename_i s x ty ty' htys
    simp only [htys,eF,List.map_cons,List.map_nil]
    split at h
    ·rename_i _ d hel
     cases hb:Nat.beq ty ty' with
     | false=>simp [hb,Prg.hits] at h
     | true =>
      simp only [hb,cond_true] at h ⊢
      unfold Bx at h ⊢
      rw [Br,uM]
      rcases aC s with h1 | ⟨b,h1,rfl | rfl⟩
      ·rw [h1]; exact h
      ·exact h
      ·exact h
    ·exact h.elim
   ·rename_i s ty htys
    simp only [htys,eF,List.map_cons,List.map_nil]
    split at h
    ·unfold xa at h ⊢
     rcases aC s with h1 | ⟨b,h1,rfl | rfl⟩
     ·rw [h1]; exact h
     ·exfalso
      revert h
      cases Nat.blt 0 _ <;> exact fun h=>h.elim
     ·exfalso
      revert h
      cases Nat.blt 0 _ <;> exact fun h=>h.elim
    ·exact h.elim
   ·simp only [eF,List.map_cons,List.map_nil,zh,ig] at h ⊢
    exact h
   ·simp only [eF,List.map_cons,List.map_nil,zh,ig] at h ⊢
    exact h
   ·exact h.elim
  | value f =>
   cases f with
   | func f =>
    rcases vs with _ | ⟨v,r⟩
    ·exact h.elim
    ·simp only [opL,List.map_cons,nr,ko,sg,C1,D4,Eo] at h ⊢
     exact h
   | tmp t =>
    rcases vs with _ | ⟨v,r⟩
    ·exact h.elim
    ·simp only [opL,List.map_cons,ig,ko,FH] at h ⊢
     rcases aC v with h1 | ⟨b,h1,rfl | rfl⟩
     ·rw [h1]; exact h
     ·exact h
     ·exact h
   | _=>exact h.elim
  | invoke r m=>exact h.elim
 | makeInterface t x =>
  rcases vs with _ | ⟨v,_ | ⟨v',r⟩⟩ <;> first | exact h.elim | skip
  refine ⟨e,?_,rfl⟩
  simp only [opL,List.map_cons,List.map_nil,Fs] at h ⊢
  exact h
 | typeAssert x xt t ok =>
  rcases vs with _ | ⟨v,_ | ⟨v',r⟩⟩ <;> cases ok <;> first | exact h.elim | skip
  refine ⟨e,?_,rfl⟩
  simp only [opL,List.map_cons,List.map_nil,Dr] at h ⊢
  exact h
 | _=>exact h.elim
theorem mH (st:ASt):st.nfS.look=st.look:=rfl
theorem oE (st:ASt):st.nfS.base=st.base:=rfl
theorem wY (st:ASt) (d:Option Tmp):st.nfS.nid d=st.nid d:=by cases d <;> rfl
theorem jA (st:ASt) (d:Option Tmp) (v:AV):(st.put d v).nfS=st.nfS.put d v.nf:=by
 cases d with
 | none=>rfl
 | some d=>simp [ASt.nfS,ASt.put,ak,List.map_set]
theorem sr (st:ASt) (i:Nat) (b:Option BC):(st.ac i b).nfS=st.nfS.ac i b:=rfl
theorem ke (st:ASt) (t:Nat):nth (.one .junk) st.nfS.slots t=(nth (.one .junk) st.slots t).nf:=by
 simp only [ASt.nfS,aO,GA]
 cases st.slots[t]? <;> rfl
theorem Cp (ps:List Nat) (st:ASt) (d:Option Nat) (e:Eff):cq ps st.nfS d e.nfE=cq ps st d e:=by
 unfold cq
 congr 1
 funext k
 cases d with
 | none=>rw [oE,cn]
 | some d=>simp only [oE,cn,ke,mW]
theorem ph (k s:Nat):∀ (l:List AV) (n:Nat),fT k s n (l.map AV.nf)=fT k s n l
 | [],n=>rfl
 | v :: l,n=>by simp only [List.map_cons,fT,mW,ph k s l (n + 1)]
theorem xI {k:Nat} {v:AV} (h:j0 k v=true):j0 k v.nf=true:=by
 unfold j0 at h
 split at h
 ·exact h
 ·cases h
theorem ji {e:Eff} {i:Nat} {y:TV} (h:ka e=some (i,y)):e=.gen [.drop i 0 [] false,.root i 0 y] (.one (.sref i 0 [])):=by
 unfold ka at h
 split at h
 ·rename_i i' j y' k
  cases hb:i'.beq j && i'.beq k with
  | false=>rw [hb] at h; cases h
  | true =>
   simp only [hb,cond_true,Gw,Prod.mk.injEq] at h
   simp only [Gx] at hb
   obtain ⟨rfl,rfl⟩:=h
   rw [← (aq _ _).1 hb.1,← (aq _ _).1 hb.2]
 ·cases h
theorem nA (i:Nat) (y:TV):ka (.gen [.drop i 0 [] false,.root i 0 y] (.one (.sref i 0 [])))=some (i,y):=by
 simp only [ka,(aq i i).2 rfl,Bool.and_self,cond_true]
theorem Cj {o:Item} {st:ASt} {e:Eff} (h:db o st e=true):db o st.nfS e.nfE=true:=by
 unfold db at h ⊢
 split at h
 ·rename_i s i y h1 h2
  have:=ji h2
  subst this
  simp only [Gx] at h
  simp only [h1,Eff.nfE,AV.nf,nA,Gx]
  refine ⟨⟨⟨⟨⟨h.1.1.1.1.1,?_⟩,h.1.1.1.2⟩,?_⟩,h.1.2⟩,h.2⟩
  ·rw [ke]; exact xI h.1.1.1.1.2
  ·rw [show st.nfS.slots=st.slots.map AV.nf from rfl,ph]; exact h.1.1.2
 ·cases h
theorem th (st:ASt) (x:Operand):st.nfS.ev x=(st.ev x).nf:=by
 cases x with
 | tmp t=>exact ke st t
 | const v =>
  cases v with
  | bool b=>rfl
  | _=>first | rfl | (simp only [ASt.ev]; cases Value.oneCell' _ <;> rfl)
 | global g=>rfl
 | func f=>rfl
theorem sF:∀ (l:List AV),cB (l.map AV.nf)=cB l
 | []=>rfl
 | v :: l=>by simp only [List.map_cons,cB,ig,sF l]
theorem lg (e:Eff):i8 e.nfE=i8 e:=by
 cases e with
 | new b v=>cases b <;> rfl
 | _=>rfl
theorem BS {i:Item} {st:ASt} {e:Eff}:iB i st.nfS e.nfE=iB i st e:=by
 unfold iB
 have:i.o.op.operands.toList.map st.nfS.ev=(i.o.op.operands.toList.map st.ev).map AV.nf:=by
  rw [List.map_map]
  exact List.map_congr_left fun x _=>th st x
 rw [this,sF,lg,cn]
 rfl
theorem yJ:∀ (l:List AV),gA (l.map AV.nf)=gA l
 | []=>rfl
 | v :: l=>by simp only [List.map_cons,gA,mW,yJ l]
theorem qy (e:Eff):mm e.nfE=mm e:=by cases e <;> rfl
theorem Aa (e:Eff):drE e.nfE=drE e:=by cases e <;> rfl
theorem rZ (k:Nat) (e:Eff):uL k e.nfE=uL k e:=by cases e <;> rfl
theorem rV (v:AV):(v.nf.bU CA.deep).ea=(v.bU CA.deep).ea:=by
 rcases aC v with h | ⟨b,h,rfl | rfl⟩
 ·rw [h]
 ·rw [h]; rfl
 ·rw [h]; rfl
theorem zc:∀ (l:List AV),gA (bZ CA.deep (l.map AV.nf))=gA (bZ CA.deep l)
 | []=>rfl
 | v :: l=>by simp only [List.map_cons,bZ,gA,rV,zc l]
theorem q0 (e:Eff):oG e.nfE=oG e:=by
 cases e with
 | val v=>exact rV v
 | new b v=>exact cn (.new b v)
 | upd i b v=>exact cn (.upd i b v)
 | gen ps v=>exact cn (.gen ps v)
theorem BJ {i:Item} {st:ASt} {e:Eff}:ct i st.nfS e.nfE=ct i st e:=by
 unfold ct
 simp only [qy,Aa,rZ]
 rfl
theorem Ck {i:Item} {st:ASt} {e:Eff}:da i st.nfS e.nfE=da i st e:=by
 unfold da
 have hd:∀ d b,jC st.nfS d b=jC st d b:=fun d b=>by
  cases d with
  | none=>rfl
  | some d =>
   have:=th st (.tmp d)
   simp only [ASt.ev] at this
   simp only [jC,this,mW]
 have hd2:∀ d b,im st.nfS d b=im st d b:=fun d b=>by
  cases d with
  | none=>rfl
  | some d =>
   have:=th st (.tmp d)
   simp only [ASt.ev] at this
   simp only [im,this,rV]
 simp only [hd,hd2,cn,q0]
 have:i.o.op.operands.toList.map st.nfS.ev=(i.o.op.operands.toList.map st.ev).map AV.nf:=by
  rw [List.map_map]
  exact List.map_congr_left fun x _=>th st x
 rw [this,yJ,zc]
 rfl
theorem okE_nf {i:Item} {st:ASt} {e:Eff} (h:okE i st e=true):okE i st.nfS e.nfE=true:=by
 unfold okE at h ⊢
 rw [Bool.or_eq_true] at h ⊢
 rcases h with h | h
 ·rw [BJ]; exact .inl h
 refine .inr ?_
 rw [Bool.or_eq_true] at h ⊢
 rcases h with h | h
 ·rw [oQ,xY,oE,Cp,BS,Ck]; exact .inl h
 ·exact .inr (Cj h)
theorem xb (hs:Sim w0 I0 st a ov w):Sim w0 I0 st.nfS a ov w:=by
 obtain ⟨g,hs⟩:=hs
 refine ⟨g,hs.below,hs.sub,hs.lt,hs.old,by simp [ASt.nfS,hs.len],hs.defers,fun t v hv=>?_,hs.olen,hs.outs,hs.cells,hs.trees,hs.foot,hs.apart,hs.apartR,hs.res,hs.base,hs.out⟩
 simp only [ASt.nfS,GA] at hv
 cases hsl:st.slots[t]? with
 | none=>simp [hsl] at hv
 | some u =>
  simp only [hsl,GH,Gw] at hv
  subst hv
  exact Dy.2 (hs.slots t u hsl)
theorem eW (hs:Sim w0 I0 st.nfS a ov w):Sim w0 I0 st a ov w:=by
 obtain ⟨g,hs⟩:=hs
 refine ⟨g,hs.below,hs.sub,hs.lt,hs.old,by have:=hs.len; simpa [ASt.nfS] using this,hs.defers,fun t v hv=>?_,hs.olen,hs.outs,hs.cells,hs.trees,hs.foot,hs.apart,hs.apartR,hs.res,hs.base,hs.out⟩
 exact Dy.1 (hs.slots t v.nf (by simp [ASt.nfS,hv]))
theorem pi (i r:Nat) (js:List Nat) (b:Bool) (v:AV):(v.bU (CA.drop i r js b)).nf=v.nf.bU (CA.drop i r js b):=by
 rcases aC v with h | ⟨b,h,rfl | rfl⟩
 ·rw [h]
  cases v with
  | one c =>
   have key:∀ c:CA,c.drop i r js b=c∨c.drop i r js b=.junk:=fun c=>by
    rcases fu i r js b c with ⟨h,_⟩ | h
    ·exact .inl h
    ·exact .inr h
   simp only [AV.bU]
   rcases key c with h' | h'
   ·rw [h',h]
   ·rw [h']; rfl
  | tv x=>exact h
  | _=>rfl
 ·rfl
 ·rfl
theorem ER (st:ASt) (i r:Nat) (js:List Nat) (b:Bool):(st.au (CA.drop i r js b)).nfS=st.nfS.au (CA.drop i r js b):=by
 simp only [ASt.nfS,ASt.au]
 congr 1
 apply List.ext_getElem?
 intro t
 simp only [GA,mP]
 cases st.slots[t]? with
 | none=>rfl
 | some v=>simp [pi]
theorem qR (i:Nat) (v:AV):(v.bU (CA.unM i)).nf=v.nf.bU (CA.unM i):=by
 cases v with
 | one c =>
  cases c with
  | t x =>
   cases x with
   | lit u=>cases u <;> rfl
   | _=>rfl
  | may j ty =>
   simp only [AV.bU,CA.unM,AV.nf]
   cases j.beq i <;> rfl
  | _=>rfl
 | tv x =>
  cases x with
  | lit u=>cases u <;> rfl
  | _=>rfl
 | _=>rfl
theorem Fv (st:ASt) (i:Nat):(st.au (CA.unM i)).nfS=st.nfS.au (CA.unM i):=by
 simp only [ASt.au,ASt.nfS]
 congr 1
 induction st.slots with
 | nil=>rfl
 | cons v l ih=>simp only [bZ,List.map_cons,qR,ih]
theorem vU {i:Nat} {b:BC} (h:st.bz i b=some st'):st.nfS.bz i b=some st'.nfS:=by
 obtain ⟨h1,h2,rfl⟩:=bo h
 have h2':i.blt st.nfS.boxes.length=true:=by simpa [ASt.nfS] using h2
 simp only [ASt.bz,mH,h1,h2',cond_true,sr]
theorem re {d:Option Tmp}:∀ {ps:List Prim} {st st':ASt},ag d ps st=some st'→ag d ps st.nfS=some st'.nfS
 | [],st,st',h=>by simp only [ag,Gw] at h; subst h; rfl
 | p :: ps, st, st', h => by
  simp only [ag] at h ⊢
  cases h1:p.app st d with
  | none=>simp [h1] at h
  | some s1 =>
   simp only [h1] at h
   have:p.app st.nfS d=some s1.nfS:=by
    cases p with
    | drop i r js b =>
     simp only [Prim.app,Gw] at h1 ⊢
     subst h1
     rw [ER]
    | root i r x =>
     simp only [Prim.app,mH] at h1 ⊢
     split at h1
     ·rename_i b hb
      simp only [Gw] at h1
      subst h1
      rfl
     ·cases h1
    | frz i r =>
     simp only [Prim.app,mH] at h1 ⊢
     split at h1
     ·rename_i x hx
      split at h1
      ·rename_i b hb
       simp only [Gw] at h1
       subst h1
       rfl
      ·cases h1
     ·cases h1
    | unmay i =>
     simp only [Prim.app,Gw] at h1 ⊢
     subst h1
     rw [Fv]
    | newB b =>
     cases d with
     | none=>simp [Prim.app] at h1
     | some d =>
      simp only [Prim.app] at h1 ⊢
      rw [wY]
      exact vU h1
    | setB i cs =>
     simp only [Prim.app,mH] at h1 ⊢
     split at h1
     ·simp only [Gw] at h1
      subst h1
      rfl
     ·cases h1
   rw [this]
   exact re h
theorem app_nf {e:Eff} {d:Option Tmp} (h:e.app st d=some st'):e.nfE.app st.nfS d=some st'.nfS:=by
 cases e with
 | val v =>
  simp only [Eff.app,Eff.nfE,Gw] at h ⊢
  subst h
  rw [jA]
 | new b v =>
  cases d with
  | none=>simp [Eff.app] at h
  | some d =>
   simp only [Eff.app,Eff.nfE] at h ⊢
   rw [wY]
   split at h
   ·rename_i s1 hs1
    simp only [Gw] at h
    subst h
    rw [vU hs1]
    simp only [jA]
   ·cases h
 | upd i b v =>
  simp only [Eff.app,Eff.nfE,Gw] at h ⊢
  subst h
  rw [jA,sr]
 | gen ps v =>
  simp only [Eff.app,Eff.nfE] at h ⊢
  split at h
  ·rename_i s1 hs1
   simp only [Gw] at h
   subst h
   rw [re hs1]
   simp only [jA]
  ·cases h
theorem kE {d:Option Tmp} {v:AV} (hs:Sim w0 I0 (st.put d v) a ov w):Sim w0 I0 (st.put d v.nf) a ov w:=by
 apply eW
 have:=xb hs
 rw [jA] at this ⊢
 rwa [Bq]
theorem AO {e:Eff} {d:Option Tmp} (h:e.nfE.app st d=some st'):∃ st1,e.app st d=some st1∧∀ w0 I0 a ov w,Sim w0 I0 st1 a ov w→Sim w0 I0 st' a ov w:=by
 cases e with
 | val v =>
  simp only [Eff.app,Eff.nfE,Gw] at h ⊢
  subst h
  exact ⟨_,rfl,fun w0 I0 a ov w hs=>kE hs⟩
 | new b v =>
  cases d with
  | none=>simp [Eff.app,Eff.nfE] at h
  | some d =>
   simp only [Eff.app,Eff.nfE] at h ⊢
   split at h
   ·rename_i s1 hs1
    simp only [Gw] at h
    subst h
    exact ⟨_,rfl,fun w0 I0 a ov w hs=>kE hs⟩
   ·cases h
 | upd i b v =>
  simp only [Eff.app,Eff.nfE,Gw] at h ⊢
  subst h
  exact ⟨_,rfl,fun w0 I0 a ov w hs=>kE hs⟩
 | gen ps v =>
  simp only [Eff.app,Eff.nfE] at h ⊢
  split at h
  ·rename_i s1 hs1
   simp only [Gw] at h
   subst h
   exact ⟨_,rfl,fun w0 I0 a ov w hs=>kE hs⟩
  ·cases h
end
end Go.Ab
end
section
namespace Go.Ab
open Go.RowKit
def Prg.All {R:Type} (p:R→Prop):Prg R→Prop
 | .fail=>True
 | .ret e=>p e
 | .tv _ k=>∀ v,(k v).All p
 | .tvs _ k=>∀ v,(k v).All p
 | .rws _ k=>∀ v,(k v).All p
 | .nat _ k=>∀ v,(k v).All p
 | .chk _ k=>k.All p
 | .ite _ t e=>t.All p∧e.All p
 | .call _ _ k=>∀ v,(k v).All p
 | .jmp _ _=>True
theorem Prg.All.hits {R:Type} {C:Cal} {p:R→Prop} {e:R}:∀ {o:Prg R},o.All p→o.hits C e→p e
 | .ret e',h,h'=>by cases h'; exact h
 | .tv _ k,h,⟨v,_,h'⟩=>(h v).hits h'
 | .tvs _ k,h,⟨v,_,h'⟩=>(h v).hits h'
 | .rws _ k,h,⟨v,_,h'⟩=>(h v).hits h'
 | .nat _ k,h,⟨v,_,h'⟩=>(h v).hits h'
 | .chk _ k,h,⟨_,h'⟩=>Prg.All.hits (o:=k) h h'
 | .ite _ t e,h,⟨v,_,.inl ⟨_,h'⟩⟩=>Prg.All.hits (o:=t) h.1 h'
 | .ite _ t e,h,⟨v,_,.inr ⟨_,h'⟩⟩=>Prg.All.hits (o:=e) h.2 h'
 | .call _ _ k,h,⟨v,_,h'⟩=>(h v).hits h'
section
variable {E:Env} {look look':Look} {p:Eff→Prop} {id:Nat}
theorem aE {b:Bool} {x y:Out} (hx:x.All p) (hy:y.All p):(bif b then x else y).All p:=by cases b <;> assumption
theorem jh {q:Way} {x:TV} {k:TV→Out} (h:∀ y,(k y).All p):(ol q x k).All p:=by
 unfold ol
 split
 ·exact h _
 ·exact h
theorem gf {c:CA} {k:TV→Out} (h:∀ y,(k y).All p):(jm look c k).All p:=by
 unfold jm
 split
 ·exact h _
 ·split
  ·exact jh h
  ·exact trivial
 ·split
  ·exact jh fun y z=>h z
  ·exact trivial
 ·exact trivial
theorem pp {v:AV} {k:TV→Out} (h:∀ y,(k y).All p):(uC look v k).All p:=by
 unfold uC
 split
 ·exact gf h
 ·exact h _
 ·exact h _
 ·exact trivial
theorem uW {c:CA} {k:TV→Out} (h:∀ y,(k y).All p):(ua look c k).All p:=by
 unfold ua
 split
 ·exact h _
 ·exact gf fun y=>h _
 ·exact gf fun y=>h _
 ·exact trivial
theorem vG {k:List TV→Out}:∀ {cs:List CA} {k:List TV→Out},(∀ y,(k y).All p)→(AE look cs k).All p
 | [],k,h=>h _
 | c :: cs,k,h=>uW fun y=>vG (k:=fun _=>.fail) fun ys=>h _
theorem B4 {v:AV} {k:TV→Out} (h:∀ y,(k y).All p):(tQ look v k).All p:=by
 unfold tQ
 split
 ·exact uW h
 ·exact h _
 ·exact vG (k:=fun _=>.fail) fun ys=>h _
 ·exact trivial
 ·exact trivial
 ·exact h _
theorem gC:∀ {vs:List AV} {k:List TV→Out},(∀ y,(k y).All p)→(lends look vs k).All p
 | [],k,h=>h _
 | v :: vs,k,h=>B4 fun y=>gC fun ys=>h _
theorem vY {c:CA} {k:TV→List (Nat × Nat)→Out} (h:∀ y r,(k y r).All p):(tr look c k).All p:=by
 unfold tr
 split
 ·exact h _ _
 ·split
  ·split
   ·exact h _ _
   ·exact fun y=>h _ _
  ·exact trivial
 ·split
  ·split
   ·exact fun y=>h _ _
   ·exact fun z y=>h _ _
  ·exact trivial
 ·exact trivial
theorem vd:∀ {cs:List CA} {k:List TV→List (Nat × Nat)→Out},(∀ y r,(k y r).All p)→(BA look cs k).All p
 | [],k,h=>h _ _
 | c :: cs,k,h=>vY fun y r=>vd fun ys rs=>h _ _
theorem Ca {v:AV} {k:TV→List (Nat × Nat)→Out} (h:∀ y r,(k y r).All p):(sd look v k).All p:=by
 unfold sd
 split
 ·exact vY h
 ·exact h _ _
 ·exact vd fun ys rs=>h _ _
 ·exact trivial
 ·exact trivial
 ·exact h _ _
theorem pN:∀ {vs:List AV} {k:List TV→List (Nat × Nat)→Out},(∀ y r,(k y r).All p)→(hands look vs k).All p
 | [],k,h=>h _ _
 | v :: vs,k,h=>Ca fun y r=>pN fun ys rs=>h _ _
theorem eH:∀ {cs:List CA} {k:List TV→List Prim→List (Nat × Nat)→Out},(∀ y q r,(k y q r).All p)→(cI look cs k).All p
 | [],k,h=>h _ _ _
 | .t x :: l,k,h=>by
  simp only [cI]
  exact eH (cs:=l) fun xs ps ts=>h _ _ _
 | .sref i r q :: l, k, h => by
  simp only [cI]
  split
  ·split
   ·exact eH (cs:=l) fun xs ps ts=>h _ _ _
   ·exact fun y=>eH (cs:=l) fun xs ps ts=>h _ _ _
  ·exact trivial
 | .swin i r q lo len :: l, k, h => by
  simp only [cI]
  split
  ·split
   ·exact fun y=>eH (cs:=l) fun xs ps ts=>h _ _ _
   ·exact fun z y=>eH (cs:=l) fun xs ps ts=>h _ _ _
  ·exact trivial
 | .ptr _ _ :: l,k,h=>trivial
 | .ref _ _ :: l,k,h=>trivial
 | .tptr _ _ _ _ _ :: l,k,h=>trivial
 | .may _ _ :: l,k,h=>trivial
 | .aptr _ _ _ _ :: l,k,h=>trivial
 | .ifp _ _ :: l,k,h=>trivial
 | .fn1 _ _ :: l,k,h=>trivial
 | .yl _ :: l,k,h=>trivial
 | .undef :: l,k,h=>trivial
 | .junk :: l,k,h=>trivial
theorem eN:∀ {cs:List CA} {k:List TV→List Prim→List (Nat × Nat)→Out},(∀ y q r,(k y q r).All p)→(ck look cs k).All p
 | [],k,h=>h _ _ _
 | .t x :: l,k,h=>by
  simp only [ck]
  exact eN (cs:=l) fun xs ps ts=>h _ _ _
 | .sref i r q :: l, k, h => by
  simp only [ck]
  split
  ·split
   ·exact eN (cs:=l) fun xs ps ts=>h _ _ _
   ·exact fun y=>⟨eN (cs:=l) fun xs ps ts=>h _ _ _,fun x'=>eN (cs:=l) fun xs ps ts=>h _ _ _⟩
  ·exact trivial
 | .swin i r q lo len :: l, k, h => by
  simp only [ck]
  split
  ·split
   ·exact fun y=>eN (cs:=l) fun xs ps ts=>h _ _ _
   ·exact fun z y=>eN (cs:=l) fun xs ps ts=>h _ _ _
  ·exact trivial
 | .ptr _ _ :: l,k,h=>trivial
 | .ref _ _ :: l,k,h=>trivial
 | .tptr _ _ _ _ _ :: l,k,h=>trivial
 | .may _ _ :: l,k,h=>trivial
 | .aptr _ _ _ _ :: l,k,h=>trivial
 | .ifp _ _ :: l,k,h=>trivial
 | .fn1 _ _ :: l,k,h=>trivial
 | .yl _ :: l,k,h=>trivial
 | .undef :: l,k,h=>trivial
 | .junk :: l,k,h=>trivial
theorem er {agg:Bool} {n:Nat} {x:AV} {k:List CA→Out} (h:∀ cs,(k cs).All p):(x.aZ agg n k).All p:=by
 unfold AV.aZ
 split
 ·rename_i c; cases c.kept <;> first | exact trivial | exact h _
 ·exact h _
 ·exact h _
 ·exact h _
 ·rename_i cs; cases cs.length.beq n <;> first | exact trivial | exact h _
 ·exact h _
 ·exact trivial
theorem oN {at_:Nat→Option (Nat × Bool × Nat)} {k:List CA→Out} (h:∀ cs,(k cs).All p):∀ (is:List Nat) (vs:List AV) (cs:List CA),(bW at_ is vs cs k).All p
 | [],[],cs=>h cs
 | i :: is, x :: vs, cs => by
  simp only [bW]
  split
  ·refine er (fun ps=>?_)
   exact aE (oN h is vs _) trivial
  ·exact trivial
 | [],_ :: _,cs=>trivial
 | _ :: _,[],cs=>trivial
theorem fG {v:Option AV} {k:Option Nat→Out} (h:∀ n,(k n).All p):(gr v k).All p:=by
 unfold gr
 split
 ·exact h _
 ·split
  ·exact fun v=>h _
  ·exact trivial
abbrev dz (e:Eff):Prop:=∃ v,e=.val v
abbrev dw (e:Eff):Prop:=∃ b v,e=.new b v
theorem yk {d:TyD} {x:List TV} {off:Nat}:(kF d x off).All dz:=by
 unfold kF
 cases d.kd.isAgg
 ·exact ⟨_,rfl⟩
 ·exact ⟨_,rfl⟩
theorem vW:∀ {vs:List AV} {k:List CA→Out},(∀ cs,(k cs).All p)→(lC vs k).All p
 | [],k,h=>h _
 | v :: vs,k,h=>er fun cs=>vW fun cs'=>h _
theorem Gb {op:Op} (h:ap op=.N) (vs:List AV):(opL E id look op vs).All dz:=by
 cases op with
 | move x=>rcases vs with _ | ⟨v,_ | ⟨v',r⟩⟩ <;> first | exact trivial | exact ⟨_,rfl⟩
 | assign x=>rcases vs with _ | ⟨v,_ | ⟨v',r⟩⟩ <;> first | exact trivial | exact ⟨_,rfl⟩
 | pick c x y =>
  rcases vs with _ | ⟨v,_ | ⟨v',_ | ⟨v'',_ | ⟨v3,r⟩⟩⟩⟩ <;> first | exact trivial | skip
  simp only [opL]
  split <;> first | exact trivial | exact ⟨_,rfl⟩
 | build t parts =>
  simp only [opL]
  split
  ·refine aE ?_ trivial
   refine oN ?_ _ _ _
   exact fun cs=>⟨_,rfl⟩
  ·exact trivial
 | nilCheck x =>
  rcases vs with _ | ⟨v,_ | ⟨v',r⟩⟩ <;> first | exact trivial | skip
  simp only [opL]
  split <;> first | exact trivial | exact ⟨_,rfl⟩
 | unOp op xt x =>
  rcases vs with _ | ⟨v,_ | ⟨v',r⟩⟩ <;> first | exact trivial | skip
  simp only [opL]
  split
  ·exact ⟨_,rfl⟩
  ·split
   ·exact fun v=>⟨_,rfl⟩
   ·exact trivial
 | fieldAddr t x f =>
  rcases vs with _ | ⟨v,_ | ⟨v',r⟩⟩ <;> first | exact trivial | skip
  simp only [opL]
  split
  ·split
   ·refine aE ?_ trivial
    split <;> first | exact trivial | exact ⟨_,rfl⟩
   ·exact trivial
  ·exact trivial
 | field t x f =>
  rcases vs with _ | ⟨v,_ | ⟨v',r⟩⟩ <;> first | exact trivial | skip
  simp only [opL]
  split
  ·split
   ·unfold wL
    split
    ·split
     ·split <;> first | exact trivial | exact ⟨_,rfl⟩
     ·exact trivial
    ·exact ⟨_,rfl⟩
    ·exact trivial
   ·exact trivial
  ·exact trivial
 | index t x y =>
  rcases vs with _ | ⟨v,_ | ⟨v',_ | ⟨v'',r⟩⟩⟩ <;> first | exact trivial | skip
  simp only [opL]
  split
  ·exact fun v=>⟨_,rfl⟩
  ·unfold rB
   split
   ·split
    ·refine aE ?_ trivial
     split
     ·exact fun k v=>⟨_,rfl⟩
     ·exact trivial
    ·exact trivial
   ·exact trivial
 | extract x j =>
  rcases vs with _ | ⟨v,_ | ⟨v',r⟩⟩ <;> first | exact trivial | skip
  simp only [opL]
  split
  ·split
   ·split <;> first | exact trivial | exact ⟨_,rfl⟩
   ·exact trivial
  ·exact trivial
 | makeFunc fn first cap =>
  cases fn with
  | func f =>
   simp only [opL]
   exact aE (vW fun cs=>⟨_,rfl⟩) trivial
  | _=>exact trivial
 | call c =>
  obtain ⟨callee,args,tys⟩:=c
  cases callee with
  | builtin b=>cases b <;> simp [ap] at h
  | value f=>cases f <;> simp [ap] at h
  | invoke r m=>simp [ap] at h
 | makeInterface t x =>
  rcases vs with _ | ⟨v,_ | ⟨v',r⟩⟩ <;> first | exact trivial | skip
  simp only [opL]
  split
  ·unfold Dg
   refine aE ?_ trivial
   split
   ·exact ⟨_,rfl⟩
   ·split
    ·exact fun v=>⟨_,rfl⟩
    ·exact trivial
  ·exact trivial
 | typeAssert x xt t ok =>
  rcases vs with _ | ⟨v,_ | ⟨v',r⟩⟩ <;> cases ok <;> first | exact trivial | skip
  simp only [opL]
  split
  ·unfold vF
   refine aE ?_ trivial
   split
   ·exact fun v=>⟨_,rfl⟩
   ·exact trivial
  ·exact trivial
 | _=>simp [ap] at h
theorem D9 {op:Op} (h:ap op=.R) (vs:List AV):(opL E id look op vs).All dz:=by
 cases op with
 | load t x =>
  rcases vs with _ | ⟨v,_ | ⟨v',r⟩⟩ <;> first | exact trivial | skip
  simp only [opL]
  split
  ·unfold Bb
   split
   ·refine aE trivial ?_
    split
    ·exact fun v=>⟨_,rfl⟩
    ·exact trivial
   ·split
    ·split
     ·split
      ·exact ⟨_,rfl⟩
      ·exact trivial
     ·exact trivial
    ·exact trivial
   ·exact yk
   ·split
    ·refine jh (fun s e=>?_)
     simp only [Prg.All]
     split
     ·exact ⟨_,rfl⟩
     ·exact trivial
    ·exact trivial
   ·exact trivial
  ·exact trivial
 | convert xt dt x =>
  rcases vs with _ | ⟨v,_ | ⟨v',r⟩⟩ <;> first | exact trivial | skip
  simp only [opL]
  split
  ·unfold Bj
   split
   ·split
    ·exact aE (pp fun y=>fun rows=>fun v=>⟨_,rfl⟩) trivial
    ·exact trivial
   ·split
    ·exact fun v=>⟨_,rfl⟩
    ·exact trivial
  ·exact trivial
 | binOp op xt x y yt =>
  rcases vs with _ | ⟨v,_ | ⟨v',_ | ⟨v'',r⟩⟩⟩ <;> first | exact trivial | skip
  simp only [opL]
  split
  ·unfold FQ
   split
   ·split
    ·refine er fun cs=>er fun cs'=>?_
     split
     ·exact fun v=>⟨_,rfl⟩
     ·exact trivial
    ·exact trivial
   ·unfold FS
    split
    ·exact ⟨_,rfl⟩
    ·exact ⟨_,rfl⟩
    ·exact trivial
   unfold Fk
   refine aE (pp fun x=>pp fun y=>fun v=>⟨_,rfl⟩) ?_
   split
   ·exact fun v=>⟨_,rfl⟩
   ·exact trivial
  ·exact trivial
 | slice t x lo hi mx =>
  have sl:∀ {kd:Kd} {sz:Nat} {x:AV} {lo hi:Option AV},(jr look kd sz x lo hi).All dz:=by
   intro kd sz x lo hi
   unfold jr
   split
   ·exact fG fun lo=>fG fun hi=>fun v=>⟨_,rfl⟩
   ·split
    ·exact gf fun s n=>fG fun lo=>fG fun hi=>⟨_,rfl⟩
    ·split
     ·exact gf fun s=>fG fun hi=>⟨_,rfl⟩
     ·exact gf fun s=>fG fun lo=>fG fun hi=>⟨_,rfl⟩
    ·exact trivial
  cases mx with
  | some m=>rcases vs with _ | ⟨v,r⟩ <;> exact trivial
  | none =>
   rcases vs with _ | ⟨v,r⟩
   ·exact trivial
   ·simp only [opL]
    split
    ·split
     ·split <;> first | exact trivial | exact sl
     ·exact trivial
    ·exact trivial
 | indexAddr t x y =>
  rcases vs with _ | ⟨v,_ | ⟨v',_ | ⟨v'',r⟩⟩⟩ <;> first | exact trivial | skip
  simp only [opL]
  split
  ·unfold pV
   split
   ·split
    ·exact fun v=>⟨_,rfl⟩
    ·split
     ·exact gf fun s n k=>⟨_,rfl⟩
     ·exact gf fun s k=>⟨_,rfl⟩
     ·exact trivial
   ·exact trivial
  ·unfold rP
   split
   ·split
    ·exact aE (fun k=>⟨_,rfl⟩) trivial
    ·exact trivial
   ·exact trivial
 | call c =>
  obtain ⟨callee,args,tys⟩:=c
  cases callee with
  | builtin b =>
   have mn:∀ {mx:Bool} {x y:AV},(zh mx x y).All dz:=by
    intro mx x y
    unfold zh
    split
    ·exact fun v=>⟨_,rfl⟩
    ·exact trivial
   cases b <;> simp [ap] at h
   all_goals simp only [opL]
   all_goals unfold eF
   all_goals split <;> first | exact trivial | exact mn | contradiction | skip
   split
   ·unfold zO
    split
    ·exact ⟨_,rfl⟩
    ·exact pp fun s v=>⟨_,rfl⟩
   ·exact trivial
  | value f=>cases f <;> simp [ap] at h
  | invoke r m=>simp [ap] at h
 | _=>simp [ap] at h
theorem cls_A {op:Op} (h:ap op=.A) (vs:List AV):(opL E id look op vs).All dw:=by
 cases op with
 | alloc t =>
  rcases vs with _ | ⟨v,r⟩ <;> first | exact trivial | skip
  simp only [opL]
  split
  ·exact ⟨_,_,rfl⟩
  ·exact trivial
 | box t x =>
  rcases vs with _ | ⟨v,_ | ⟨v',r⟩⟩ <;> first | exact trivial | skip
  simp only [opL]
  split
  ·exact er (fun cs=>⟨_,_,rfl⟩)
  ·exact trivial
 | makeSlice t x y =>
  rcases vs with _ | ⟨v,_ | ⟨v',_ | ⟨v'',r⟩⟩⟩ <;> first | exact trivial | skip
  simp only [opL]
  split
  ·refine aE ?_ trivial
   exact fun n m=>⟨_,_,rfl⟩
  ·exact trivial
 | call c =>
  obtain ⟨callee,args,tys⟩:=c
  cases callee with
  | builtin b=>cases b <;> simp [ap] at h
  | value f=>cases f <;> simp [ap] at h
  | invoke r m=>simp [ap] at h
 | _=>simp [ap] at h
theorem jD {ps:List Prim} {b:BC} {v:AV}:(cR ps b v).plain=true→dz (cR ps b v)∨dw (cR ps b v):=by
 cases ps with
 | nil=>exact fun _=>.inr ⟨_,_,rfl⟩
 | cons q l=>exact fun h=>by cases h
theorem vl {ps:List Prim} {v:AV}:(match ps with | []=>Eff.val v | _=>.gen ps v).plain=true→dz (match ps with | []=>Eff.val v | _=>.gen ps v)∨dw (match ps with | []=>Eff.val v | _=>.gen ps v):=by
 cases ps with
 | nil=>exact fun _=>.inl ⟨_,rfl⟩
 | cons q l=>exact fun h=>by cases h
theorem kG {d:TyD} {x:TV} {k:Out} (h:k.All p):(jU d x k).All p:=by
 unfold jU
 exact aE h h
theorem q9 {x:TV} {k:Out} (h:k.All p):∀ (ds:List TyD) (j:Nat),(gX x ds j k).All p
 | [],j=>h
 | d :: ds,j=>kG (q9 h ds (j + 1))
theorem tT {ds:List TyD} {v:TV} {ps:List Prim}:(uI id ds v ps).All fun e=>e.plain=true→dz e∨dw e:=by
 have many:∀ ds:List TyD,(Prg.chk (v.isTup ds.length) (gX v ds 0 (bif g8 ds then .ret (cR ps (.tree (bn v ds 0)) (.tups (dU id v ds 0 0)))
   else .ret (match ps with | []=>.val (.tups (dU id v ds 0 0)) | _=>.gen ps (.tups (dU id v ds 0 0)))))).All fun e=>e.plain=true→dz e∨dw e:=by
  intro ds
  refine q9 ?_ ds 0
  exact aE jD vl
 match ds with
 | []=>exact many []
 | [d] =>
  simp only [uI]
  refine kG ?_
  split
  ·exact aE jD vl
  ·exact trivial
 | d :: d' :: l=>exact many _
theorem EF {ds:List TyD} {v:TV} {k:AV→Out} {p:Eff→Prop} (h:∀ av,(k av).All p):(DK id ds v k).All p:=by
 have some:∀ (ds:List TyD) (j:Nat) (k:Out),k.All p→(gX v ds j k).All p:=by
  intro ds
  induction ds with
  | nil=>intro j k h; exact h
  | cons d ds ih=>intro j k h; exact kG (ih (j + 1) k h)
 unfold DK
 split
 ·refine kG ?_
  split
  ·exact h _
  ·exact trivial
 ·exact some _ 0 _ (h _)
theorem Cc {f:FuncId} {ld:fO} {vs:List AV}:(pl E id look f ld vs).All fun e=>e.plain=true→dz e∨dw e:=by
 unfold pl
 split
 ·split
  ·refine aE trivial ?_
   exact pN fun xs rs=>eH fun ys qs ts=>aE (fun v=>EF fun av=>fun h=>by simp [Eff.plain] at h) trivial
  ·exact trivial
 ·exact trivial
theorem Cs {f:FuncId} {c:Nat × Nat} {vs:List AV}:(oA look f c vs).All fun e=>e.plain=true→dz e∨dw e:=by
 unfold oA
 split
 ·split
  ·split
   ·exact aE (gC fun xs=>fun v=>fun _=>.inl ⟨_,rfl⟩) trivial
   ·exact trivial
  ·exact trivial
 ·exact trivial
theorem vV {p:Eff→Prop} {q:Way} {x y:TV} {k:TV→Out} (h:∀ y,(k y).All p):(xG q x y k).All p:=by
 unfold xG
 split
 ·exact h _
 ·exact fun v=>h _
theorem CK {f:FuncId} {vs:List AV}:(lS look f vs).All fun e=>e.plain=true→dz e∨dw e:=by
 unfold lS
 split
 ·split
  ·exact jh fun z=>gC fun xs=>fun v=>fun y=>vV fun x'=>fun h=>by cases h
  ·exact trivial
 ·split
  ·exact jh fun z=>fun z1=>gC fun xs=>fun v=>fun y=>vV fun x'=>fun h=>by cases h
  ·exact trivial
 ·exact trivial
theorem CY {f:FuncId} {i:Nat} {vs:List AV}:(yw E id look f i vs).All fun e=>e.plain=true→dz e∨dw e:=by
 unfold yw
 refine aE ?_ trivial
 split
 ·split
  ·exact gC fun xs=>fun v=>tT
  ·exact trivial
 ·exact trivial
theorem cls_B {op:Op} (h:ap op=.B) (vs:List AV):(opL E id look op vs).All fun e=>e.plain=true→dz e∨dw e:=by
 cases op with
 | buildSlice t len parts =>
  simp only [opL]
  refine aE ?_ ?_
  ·unfold ub
   split
   ·refine oN (fun cs=>?_) _ _ _
    split
    ·exact aE (fun _=>.inr ⟨_,_,rfl⟩) trivial
    ·exact trivial
   ·exact trivial
  unfold jw
  split
  ·refine oN (fun cs=>?_) _ _ _
   refine eN fun ys qs ts=>?_
   exact aE jD trivial
  ·exact trivial
 | call c =>
  obtain ⟨callee,args,tys⟩:=c
  cases callee with
  | builtin b=>cases b <;> simp [ap] at h
  | value f =>
   cases f with
   | func f =>
    rcases vs with _ | ⟨v,r⟩
    ·exact trivial
    ·simp only [opL,nr]
     refine aE CK (aE trivial ?_)
     split
     ·exact Cs
     split
     ·exact Cc
     ·split
      ·refine aE ?_ ?_
       ·exact gC fun xs=>fun v=>tT
       ·exact pN fun xs rs=>aE (fun v=>tT) trivial
      ·exact trivial
   | tmp t =>
    rcases vs with _ | ⟨v,r⟩
    ·exact trivial
    ·simp only [opL]
     split
     ·exact fun f=>gC fun xs v=>fun _=>.inl ⟨_,rfl⟩
     ·split
      ·exact CY
      ·exact trivial
   | _=>simp [ap] at h
  | invoke r m=>simp [ap] at h
 | _=>simp [ap] at h
abbrev isUpd (look:Look) (e:Eff):Prop:=∃ i b v,e=.upd i b v∧(look i).isSome=true
theorem CT {op : Op} (h : ap op = .W) (vs : List AV) : (opL E id look op vs).All fun e => e.plain = true → isUpd look e := by
 cases op with
 | store t x y =>
  rcases vs with _ | ⟨v,_ | ⟨v',_ | ⟨v'',r⟩⟩⟩ <;> first | exact trivial | skip
  simp only [opL]
  split
  ·unfold wB
   split
   ·refine aE trivial ?_
    split
    ·rename_i cs xs hrow
     refine er (fun ps=>?_)
     split
     ·exact fun _=>⟨_,_,_,rfl,by simp [(jE hrow).1]⟩
     ·exact trivial
    ·exact trivial
   ·refine er (fun ps=>?_)
    split
    ·rename_i cs hl
     exact aE (fun _=>⟨_,_,_,rfl,by simp [hl]⟩) trivial
    ·exact trivial
   ·refine er (fun ps=>?_)
    split
    ·refine aE trivial (aE ?_ ?_)
     ·refine eH fun ys qs ts=>aE ?_ trivial
      exact jh fun s e=>fun x' hp=>by cases hp
     ·refine eH fun ys qs ts=>?_
      split
      ·refine aE ?_ trivial
       refine jh fun s e=>?_
       simp only [Prg.All]
       intro x'
       split
       ·rename_i b hb
        refine fun _=>⟨_,_,_,rfl,?_⟩
        unfold cj at hb
        split at hb
        ·rename_i hl; simp [hl]
        ·cases hb
       ·exact trivial
      ·exact trivial
    ·exact trivial
   ·exact trivial
  ·exact trivial
 | call c =>
  obtain ⟨callee,args,tys⟩:=c
  cases callee with
  | builtin b=>cases b <;> simp [ap] at h
  | value f=>cases f <;> simp [ap] at h
  | invoke r m=>simp [ap] at h
 | _=>simp [ap] at h
theorem rt {d:TyD} {s:AV} {news:List (List TV)} {ps:List Prim}:(m6 id look d s news ps).All fun e=>e.plain=true→dz e∨dw e:=by
 unfold m6
 split
 ·exact aE (fun y=>jD) trivial
 ·split
  ·split
   ·split
    ·exact fun y h=>by cases h
    ·exact fun z y x' h=>by cases h
   ·exact trivial
  ·split
   ·split
    ·exact fun z y h=>by cases h
    ·exact fun z0 z y x' h=>by cases h
   ·exact trivial
  ·exact trivial
theorem DV {d:TyD} {dest:Option Nat} {x:AV} {k:List (List TV)→List Prim→Out} (h:∀ xs ps,(k xs ps).All p):(yD look d dest x k).All p:=by
 unfold yD
 split
 ·exact fun xs=>h _ _
 ·split
  ·refine aE ?_ ?_
   ·split
    ·split
     ·split
      ·exact aE trivial (fun xs=>h _ _)
      ·exact fun y=>fun xs=>h _ _
     ·exact trivial
    ·split
     ·split
      ·exact aE trivial (fun y xs=>h _ _)
      ·exact fun z y=>fun xs=>h _ _
     ·exact trivial
    ·exact trivial
   ·exact gf (fun s xs=>h _ _)
  ·exact trivial
theorem cls_P {op:Op} (h:ap op=.P) (vs:List AV):(opL E id look op vs).All fun e=>e.plain=true→dz e∨dw e:=by
 cases op with
 | call c =>
  obtain ⟨callee,args,tys⟩:=c
  cases callee with
  | builtin b =>
   cases b <;> simp [ap] at h
   simp only [opL]
   unfold eF
   split <;> try (first | exact trivial | contradiction)
   split
   ·refine aE ?_ ?_
    ·unfold oT
     exact aE (DV (fun xs ps=>rt)) trivial
    ·split
     ·unfold mq
      refine aE ?_ trivial
      split
      ·exact fun news=>rt
      ·exact trivial
     ·exact trivial
   ·exact trivial
  | value f=>cases f <;> simp [ap] at h
  | invoke r m=>simp [ap] at h
 | _=>simp [ap] at h
theorem vj {op:Op} (h:ap op=.N∨ap op=.A) (vs:List AV):opL E id look op vs=opL E id look' op vs:=by
 cases op <;> first
  | (rcases vs with _ | ⟨a,_ | ⟨b,_ | ⟨c,_ | ⟨d,r⟩⟩⟩⟩ <;> rfl)
  | (simp [ap] at h; done)
  | (rename_i fn _ _; cases fn <;> rfl)
  | (rename_i ok; cases ok <;> rcases vs with _ | ⟨a,_ | ⟨b,r⟩⟩ <;> rfl)
  | skip
 all_goals
  rename_i c
  obtain ⟨callee,args,tys⟩:=c
  cases callee with
  | builtin b=>cases b <;> simp [ap] at h
  | value f=>cases f <;> simp [ap] at h
  | invoke r m=>simp [ap] at h
end
end Go.Ab
end

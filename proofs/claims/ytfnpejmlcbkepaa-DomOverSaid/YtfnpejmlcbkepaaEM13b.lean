import Derived.Test.YtfnpejmlcbkepaaEM12b
set_option linter.all false
section
namespace Go.Ab
open Go.RowKit
structure gw (P:Program) (G:Laid) (E:Env) (C:Cal):Prop where
 ty:∀ t d,E.T t=some d→aM P t d
 call:wq P G E C
section
variable {P:Program} {E:Env} {C:Cal} {w0:Bs} {w w':World} {I0 I R:Nat→Prop} {g g':Gh} {st st':ASt} {a:Act} {ov:List Value} {look:Look} {Q:Exit→Act→World→Prop} {id:Nat}
theorem BH (hE:gw P w0.G E C) (hlk:∀ i b,look i=some b→st.look i=some b) (hs:aj w0 I0 NoR g st a ov w) {o:Oper} {e:Eff} (hh:(opL E (st.nid o.dst) look o.op (o.op.operands.toList.map st.ev)).hits C e) (ha:e.app st o.dst=some st') :
  Good P w0 I0 ov o st' a w Q:=by
 obtain ⟨dst,op,type,pos,after,guard⟩:=o
 cases op with
 | move x=>exact DA hs hh ha
 | assign x=>exact Az hs hh ha
 | pick c x y=>exact DH hs hh ha
 | alloc t=>exact CD hE.ty hs hh ha
 | box t x=>exact op_box hE.ty hs hh ha
 | build t parts=>exact Ck hE.ty hs hh ha
 | makeFunc fn first cap=>exact xz hs hh ha
 | buildSlice t len parts =>
  simp only [opL] at hh
  cases hc:E.cold t && !(len.beq 0) with
  | true=>rw [hc] at hh; exact C1 hE.ty hlk hs hh ha
  | false=>rw [hc] at hh; exact tj hE.ty hlk hs hh ha
 | load t x=>exact Di hE.ty hlk hs hh ha
 | store t x y=>exact Bf hE.ty hlk hs hh ha
 | nilCheck x=>exact wR hs hh ha
 | binOp op xt x y yt=>exact op_bin hE.ty hlk hs hh ha
 | unOp op xt x=>exact op_un hs hh ha
 | convert xt dt x=>exact yA hE.ty hlk hs hh ha
 | makeSlice t x y=>exact uZ hE.ty hs hh ha
 | makeInterface t x=>exact op_ifc hE.ty hs hh ha
 | typeAssert x xt t ok=>exact Db hE.ty hs hh ha
 | slice t x lo hi mx=>exact Bc hE.ty hlk hs hh ha
 | fieldAddr t x f=>exact uW hE.ty hs hh ha
 | field t x f=>exact Bq hE.ty hs hh ha
 | indexAddr t x y=>exact vF hE.ty hlk hs hh ha
 | index t x y=>exact BT hE.ty hs hh ha
 | extract x j=>exact x8 hs hh ha
 | call c =>
  obtain ⟨callee,args,tys⟩:=c
  cases callee with
  | builtin b =>
   have hops:(Op.call ⟨.builtin b,args,tys⟩).operands.toList=args.toList:=by simp [Op.operands,Call.operands]
   simp only [hops] at hh
   simp only [opL] at hh
   unfold dV at hh
   split at hh
   ·rename_i x ty hargs htys
    obtain ⟨ox,rfl,hox⟩:=list1 hargs
    have:=arr1 htys
    subst this
    split at hh
    ·rename_i d hT
     rw [← hox] at hh
     exact yH hlk hs (hE.ty _ _ hT) hh ha
    ·exact hh.elim
   ·rename_i s x ty ty' hargs htys
    obtain ⟨os,ox,rfl,hos,hox⟩:=list2 hargs
    have:=arr2 htys
    subst this
    split at hh
    ·rename_i e1 d hel
     cases hb:Nat.beq ty ty' with
     | false =>
      simp only [hb,cond_false] at hh
      split at hh
      ·rename_i hu
       rw [← hos,← hox] at hh
       exact rI hE.ty hlk hs hel hu rfl hh ha
      ·exact hh.elim
     | true =>
      simp only [hb,cond_true] at hh
      have:=(aq _ _).1 hb
      subst this
      rw [← hos,← hox] at hh
      exact te hE.ty hlk hs hel hh ha
    ·exact hh.elim
   ·rename_i s x ty ty' hargs htys
    obtain ⟨os,ox,rfl,hos,hox⟩:=list2 hargs
    have:=arr2 htys
    subst this
    split at hh
    ·rename_i e1 d hel
     cases hb:Nat.beq ty ty' with
     | false=>simp [hb,Prg.hits] at hh
     | true =>
      simp only [hb,cond_true] at hh
      have:=(aq _ _).1 hb
      subst this
      rw [← hos,← hox] at hh
      exact vT hE.ty hlk hs hel hh ha
    ·exact hh.elim
   ·rename_i s ty hargs htys
    obtain ⟨os,rfl,hos⟩:=list1 hargs
    have:=arr1 htys
    subst this
    split at hh
    ·rename_i e1 d hel
     rw [← hos] at hh
     exact vx hE.ty hlk hs hel hh ha
    ·exact hh.elim
   ·rename_i x y hargs
    obtain ⟨ox,oy,rfl,hox,hoy⟩:=list2 hargs
    rw [← hox,← hoy] at hh
    exact rd hs hh ha
   ·rename_i x y hargs
    obtain ⟨ox,oy,rfl,hox,hoy⟩:=list2 hargs
    rw [← hox,← hoy] at hh
    exact rd hs hh ha
   ·exact hh.elim
  | value f =>
   cases f with
   | func f =>
    have hops:(Op.call ⟨.value (.func f),args,tys⟩).operands.toList=.func f :: args.toList:=by simp [Op.operands,Call.operands]
    simp only [hops,List.map_cons] at hh
    exact Ds hE.call hE.ty hlk hs hh ha
   | tmp t =>
    have hops:(Op.call ⟨.value (.tmp t),args,tys⟩).operands.toList=.tmp t :: args.toList:=by simp [Op.operands,Call.operands]
    simp only [hops,List.map_cons] at hh
    exact op_dyn hE.call hE.ty hlk hs hh ha
   | _=>simp [opL,Prg.hits] at hh
  | invoke r m=>simp [opL,Prg.hits] at hh
 | _=>simp [opL,Prg.hits] at hh
def AV.nf:AV→AV
 | .one (.t (.lit (.bool b)))=>.bl b
 | .tv (.lit (.bool b))=>.bl b
 | v=>v
def Eff.nfE:Eff→Eff
 | .val v=>.val v.nf
 | .new b v=>.new b v.nf
 | .upd i b v=>.upd i b v.nf
 | .gen ps v=>.gen ps v.nf
def ASt.nfS (st:ASt):ASt:=⟨st.slots.map AV.nf,st.boxes,st.out⟩
theorem aD (v:AV):v.nf=v∨∃ b,v.nf=.bl b∧(v=.one (.t (.lit (.bool b)))∨v=.tv (.lit (.bool b))):=by
 unfold AV.nf
 split
 ·exact .inr ⟨_,rfl,.inl rfl⟩
 ·exact .inr ⟨_,rfl,.inr rfl⟩
 ·exact .inl rfl
theorem uC (v:AV):v.nf.nf=v.nf:=by
 rcases aD v with h | ⟨b,h,_⟩
 ·rw [h,h]
 ·rw [h]; rfl
theorem gj (v:AV):v.nf.tv? = v.tv? := by
 rcases aD v with h | ⟨b,h,rfl | rfl⟩
 ·rw [h]
 ·rfl
 ·rfl
theorem BY {v:AV} {u:Value}:bC w g look v.nf u ↔ bC w g look v u:=by
 rcases aD v with h | ⟨b,h,rfl | rfl⟩
 ·rw [h]
 ·rw [h]
  constructor
  ·intro h'
   have:u=.bool b:=h'
   subst this
   exact ⟨.lit _,rfl⟩
  ·intro h'
   exact bq h'.1
 ·rw [h]
  constructor
  ·intro h'
   have:u=.bool b:=h'
   subst this
   exact .lit _
  ·intro h'
   exact bq h'
theorem l6 (v:AV):v.nf.dF=v.dF:=by
 rcases aD v with h | ⟨b,h,rfl | rfl⟩
 ·rw [h]
 ·rw [h]; rfl
 ·rw [h]; rfl
theorem bY (e:Eff):dc e.nfE=dc e:=by cases e <;> simp only [Eff.nfE,dc,l6]
theorem ot (e:Eff):e.nfE.plain=e.plain:=by cases e <;> rfl
theorem wd (base:Nat) (own:List (List Nat × List Nat)) (e:Eff):e.nfE.mI base own=e.mI base own:=by cases e <;> rfl
theorem xj {S:Type} {agg:Bool} {n:Nat} {v:AV} {k k':List CA→Prg S} {e:S} (hk:∀ cs,(k cs).hits C e→(k' cs).hits C e) (h:(v.aS agg n k).hits C e):(v.aS agg n k').hits C e:=by
 unfold AV.aS at h ⊢
 split at h
 ·rename_i c
  cases hc:c.kept with
  | true=>rw [hc] at h; exact hk _ h
  | false=>rw [hc] at h; exact h.elim
 ·exact ⟨h.1,hk _ h.2⟩
 ·exact hk _ h
 ·exact hk _ h
 ·rename_i cs
  cases hc:cs.length.beq n with
  | true=>rw [hc] at h; exact hk _ h
  | false=>rw [hc] at h; exact h.elim
 ·exact ⟨h.1,hk _ h.2⟩
 ·exact h.elim
theorem fk {S:Type} {agg:Bool} {n:Nat} {v:AV} {k:List CA→Prg S} {e:S} (h:(v.aS agg n k).hits C e):(v.nf.aS agg n k).hits C e:=by
 rcases aD v with h1 | ⟨b,h1,rfl | rfl⟩
 ·rwa [h1]
 ·rw [h1]
  cases agg with
  | false=>exact h
  | true=>exact h.elim
 ·rw [h1]
  cases agg with
  | false=>exact h.2
  | true=>exact (by simp [AV.aS,TV.isAgg,Prg.hits] at h)
theorem lL {S:Type} {e:S}:∀ {vs:List AV} {k:List CA→Prg S},(j5 vs k).hits C e→(j5 (vs.map AV.nf) k).hits C e
 | [],k,h=>h
 | x :: vs, k, h => by
  simp only [j5,List.map_cons] at h ⊢
  refine fk ?_
  unfold AV.aS at h ⊢
  split at h
  ·rename_i c _
   cases hc:c.kept with
   | false=>simp [hc,Prg.hits] at h
   | true=>simp only [hc,cond_true] at h ⊢; exact lL h
  ·exact ⟨h.1,lL h.2⟩
  ·exact lL h
  ·exact lL h
  ·rename_i cs' hb; cases hb
  ·rename_i cs' hb; cases hb
  ·exact h.elim
theorem jE {f:FuncId} {e:Eff}:∀ {vs:List AV} {k:List CA→List CA},(j5 vs fun cs=>(.ret (.val (.clo f (k cs))):Out)).hits C e→∃ cs,e=.val (.clo f cs)
 | [],k,h=>⟨_,h.symm⟩
 | x :: vs, k, h => by
  simp only [j5] at h
  unfold AV.aS at h
  split at h
  ·rename_i c _
   cases hc:c.kept with
   | false=>simp [hc,Prg.hits] at h
   | true=>simp only [hc,cond_true] at h; exact jE (k:=fun cs=>k (_ ++ cs)) h
  ·exact jE (k:=fun cs=>k (_ ++ cs)) h.2
  ·exact jE (k:=fun cs=>k (_ ++ cs)) h
  ·exact jE (k:=fun cs=>k (_ ++ cs)) h
  ·rename_i hb; cases hb
  ·rename_i hb; cases hb
  ·exact h.elim
theorem qB {S:Type} {at_:Nat→Option (Nat × Bool × Nat)} {k:List CA→Prg S} {e:S}:∀ {is:List Nat} {vs:List AV} {cs:List CA},(bK at_ is vs cs k).hits C e→(bK at_ is (vs.map AV.nf) cs k).hits C e
 | [],[],cs,h=>h
 | i :: is, x :: vs, cs, h => by
  simp only [bK,List.map_cons] at h ⊢
  split at h
  ·rename_i off agg n hat
   have key:∀ ps,((bif (off + ps.length).ble cs.length && ps.length.beq n then bK at_ is vs (bP cs off ps) k else .fail):Prg S).hits C e→((bif (off + ps.length).ble cs.length && ps.length.beq n then bK at_ is (vs.map AV.nf) (bP cs off ps) k else .fail):Prg S).hits C e:=by
    intro ps hp
    cases hb:(off + ps.length).ble cs.length && ps.length.beq n with
    | false=>simp [hb,Prg.hits] at hp
    | true=>simp only [hb,cond_true] at hp ⊢; exact qB hp
   refine fk ?_
   unfold AV.aS at h ⊢
   split at h
   ·rename_i c
    cases hc:c.kept with
    | false=>simp [hc,Prg.hits] at h
    | true=>simp only [hc,cond_true] at h ⊢; exact key _ h
   ·exact ⟨h.1,key _ h.2⟩
   ·exact key _ h
   ·exact key _ h
   ·rename_i cs'
    have:=key cs'
    cases hc:cs'.length.beq n with
    | false=>simp [hc,Prg.hits] at h
    | true=>simp only [hc,cond_true] at h this ⊢; exact this h
   ·exact ⟨h.1,key _ h.2⟩
   ·exact h.elim
  ·exact h.elim
 | [],_ :: _,cs,h=>h.elim
 | _ :: _,[],cs,h=>h.elim
theorem vy {S:Type} {v:AV} {k:TV→Prg S}:tf look v.nf k=tf look v k:=by
 rcases aD v with h | ⟨b,h,rfl | rfl⟩
 ·rw [h]
 ·rfl
 ·rfl
theorem Bt {S:Type} {v:AV} {k:TV→Prg S}:sv look v.nf k=sv look v k:=by
 rcases aD v with h | ⟨b,h,rfl | rfl⟩
 ·rw [h]
 ·rfl
 ·rfl
theorem CC {S:Type} {v:AV} {k:TV→List (Nat × Nat)→Prg S}:re look v.nf k=re look v k:=by
 rcases aD v with h | ⟨b,h,rfl | rfl⟩
 ·rw [h]
 ·rfl
 ·rfl
theorem jK {S:Type}:∀ {vs:List AV} {k:List TV→Prg S},lends look (vs.map AV.nf) k=lends look vs k
 | [],k=>rfl
 | v :: vs,k=>by simp only [List.map_cons,lends,Bt,jK]
theorem sR {S:Type}:∀ {vs:List AV} {k:List TV→List (Nat × Nat)→Prg S},hands look (vs.map AV.nf) k=hands look vs k
 | [],k=>rfl
 | v :: vs,k=>by simp only [List.map_cons,hands,CC,sR]
theorem Bx {E:Env} {id:Nat} {look:Look} {f:FuncId} {ld:fg} (vs:List AV):oC E id look f ld (vs.map AV.nf)=oC E id look f ld vs:=by
 cases vs with
 | nil=>rfl
 | cons v l =>
  rcases aD v with h | ⟨b,h,rfl | rfl⟩
  ·simp only [List.map_cons,h]
   cases v with
   | one c =>
    cases c with
    | ptr i off =>
     cases off with
     | zero=>simp only [oC,sR]
     | succ n=>rfl
    | _=>rfl
   | _=>rfl
  ·simp only [List.map_cons,h]; rfl
  ·simp only [List.map_cons,h]; rfl
theorem Cr {look:Look} {f:FuncId} {c:Nat × Nat} (vs:List AV):np look f c (vs.map AV.nf)=np look f c vs:=by
 cases vs with
 | nil=>rfl
 | cons v l =>
  rcases aD v with h | ⟨b,h,rfl | rfl⟩
  ·simp only [List.map_cons,h]
   cases v with
   | one c =>
    cases c with
    | ptr i off =>
     cases off with
     | zero=>simp only [np,jK]
     | succ n=>rfl
    | _=>rfl
   | _=>rfl
  ·simp only [List.map_cons,h]; rfl
  ·simp only [List.map_cons,h]; rfl
theorem Br {look:Look} {f:FuncId} (vs:List AV):lI look f (vs.map AV.nf)=lI look f vs:=by
 cases vs with
 | nil=>rfl
 | cons v l =>
  rcases aD v with h | ⟨b,h,rfl | rfl⟩
  ·simp only [List.map_cons,h]
   cases v with
   | one c=>cases c <;> simp only [lI,jK]
   | _=>rfl
  ·simp only [List.map_cons,h]; rfl
  ·simp only [List.map_cons,h]; rfl
theorem CT {E:Env} {id:Nat} {look:Look} {f:FuncId} {i:Nat} (vs:List AV):xu E id look f i (vs.map AV.nf)=xu E id look f i vs:=by
 simp only [xu,jK]
theorem Dq (d:TyD) (t:TypeId) (v:AV):A7 d t v.nf=A7 d t v:=by
 rcases aD v with h | ⟨b,h,rfl | rfl⟩
 ·rw [h]
 ·rfl
 ·rfl
theorem Bh (d:TyD) (t:TypeId) (v:AV):uJ d t v.nf=uJ d t v:=by
 simp only [uJ,gj]
theorem AI {S:Type} {v:Option AV} {k:Option Nat→Prg S}:fu (v.map AV.nf) k=fu v k:=by
 cases v with
 | none=>rfl
 | some v=>simp only [fu,Es,gj]
theorem uF (v:AV):rk v.nf=rk v:=by
 rcases aD v with h | ⟨b,h,rfl | rfl⟩
 ·rw [h]
 ·rfl
 ·rfl
theorem zb {S:Type} {d:TyD} {dest:Option Nat} {v:AV} {k:List (List TV)→List Prim→Prg S}:wI look d dest v.nf k=wI look d dest v k:=by
 rcases aD v with h | ⟨b,h,rfl | rfl⟩
 ·rw [h]
 ·rfl
 ·rfl
theorem mi {kd:Kd} {sz:Nat} {x:AV} {lo hi:Option AV}:iI look kd sz x.nf (lo.map AV.nf) (hi.map AV.nf)=iI look kd sz x lo hi:=by
 simp only [iI,gj,AI]
 rcases aD x with h | ⟨b,h,rfl | rfl⟩
 ·rw [h]
  cases lo <;> rfl
 ·rfl
 ·rfl
theorem Cc (v:AV):tL v.nf=tL v:=by
 rcases aD v with h | ⟨b,h,rfl | rfl⟩
 ·rw [h]
 ·rfl
 ·rfl
theorem opL_nf {op : Op} {vs : List AV} {e : Eff} (h : (opL E id look op vs).hits C e) : ∃ e', (opL E id look op (vs.map AV.nf)).hits C e' ∧ e'.nfE = e.nfE := by
 cases op with
 | move x =>
  rcases vs with _ | ⟨v,_ | ⟨v',r⟩⟩ <;> first | exact h.elim | skip
  cases h
  exact ⟨_,rfl,by simp [Eff.nfE,uC]⟩
 | assign x =>
  rcases vs with _ | ⟨v,_ | ⟨v',r⟩⟩ <;> first | exact h.elim | skip
  cases h
  exact ⟨_,rfl,by simp [Eff.nfE,uC]⟩
 | pick c x y =>
  rcases vs with _ | ⟨v,_ | ⟨v',_ | ⟨v'',_ | ⟨v3,r⟩⟩⟩⟩ <;> first | exact h.elim | skip
  simp only [opL] at h
  split at h
  ·rename_i b
   cases h
   refine ⟨_,rfl,?_⟩
   cases b <;> simp [Eff.nfE,uC]
  ·rename_i v
   obtain ⟨b,hb,h⟩:=h
   have hv:v=.lit (.bool b):=by
    unfold asBool at hb
    split at hb
    ·cases hb; rfl
    ·cases hb
   subst hv
   rcases h with ⟨rfl,h⟩ | ⟨rfl,h⟩ <;> (cases h; exact ⟨_,rfl,by simp [Eff.nfE,uC]⟩)
  ·rename_i v
   obtain ⟨b,hb,h⟩:=h
   have hv:v=.lit (.bool b):=by
    unfold asBool at hb
    split at hb
    ·cases hb; rfl
    ·cases hb
   subst hv
   rcases h with ⟨rfl,h⟩ | ⟨rfl,h⟩ <;> (cases h; exact ⟨_,rfl,by simp [Eff.nfE,uC]⟩)
  ·exact h.elim
 | alloc t =>
  rcases vs with _ | ⟨v,r⟩ <;> first | exact h.elim | exact ⟨e,h,rfl⟩
 | box t x =>
  rcases vs with _ | ⟨v,_ | ⟨v',r⟩⟩ <;> first | exact h.elim | skip
  refine ⟨e,?_,rfl⟩
  simp only [opL,List.map_cons,List.map_nil] at h ⊢
  split at h
  ·exact fk h
  ·exact h.elim
 | makeFunc fn first cap =>
  cases fn with
  | func f =>
   have:∃ cs,e=.val (.clo f cs):=by
    simp only [opL] at h
    cases hb:first.size.beq 0 with
    | false=>simp [hb,Prg.hits] at h
    | true =>
     simp only [hb,cond_true] at h
     exact jE (k:=fun l=>l) h
   obtain ⟨cs,rfl⟩:=this
   refine ⟨_,?_,rfl⟩
   simp only [opL] at h ⊢
   cases hb:first.size.beq 0 with
   | false=>simp [hb,Prg.hits] at h
   | true=>simp only [hb,cond_true] at h ⊢; exact lL h
  | _=>exact h.elim
 | build t parts =>
  refine ⟨e,?_,rfl⟩
  simp only [opL] at h ⊢
  split at h
  ·rename_i d hd
   cases hb:lC E.T d.kd with
   | false=>simp [hb,Prg.hits] at h
   | true=>simp only [hb,cond_true] at h ⊢; exact qB h
  ·exact h.elim
 | buildSlice t len parts =>
  refine ⟨e,?_,rfl⟩
  simp only [opL] at h ⊢
  cases hc:E.cold t && !(len.beq 0) with
  | true =>
   rw [hc] at h
   simp only [cond_true] at h ⊢
   unfold s6 at h ⊢
   split at h
   ·exact qB h
   ·exact h.elim
  | false =>
   rw [hc] at h
   simp only [cond_false] at h ⊢
   unfold ix at h ⊢
   split at h
   ·exact qB h
   ·exact h.elim
 | load t x =>
  rcases vs with _ | ⟨v,_ | ⟨v',r⟩⟩ <;> first | exact h.elim | skip
  refine ⟨e,?_,rfl⟩
  rcases aD v with h1 | ⟨b,h1,rfl | rfl⟩
  ·simpa only [List.map_cons,List.map_nil,h1] using h
  ·simp only [opL] at h; split at h <;> exact h.elim
  ·simp only [opL] at h; split at h <;> exact h.elim
 | store t x y =>
  rcases vs with _ | ⟨v,_ | ⟨v',_ | ⟨v'',r⟩⟩⟩ <;> first | exact h.elim | skip
  refine ⟨e,?_,rfl⟩
  simp only [opL,List.map_cons,List.map_nil] at h ⊢
  split at h
  ·rcases aD v with h1 | ⟨b,h1,rfl | rfl⟩
   ·rw [h1]
    unfold vh at h ⊢
    split at h
    ·rename_i e0 _ _ i0 off0 len0 n0
     cases hk0:e0.kd.isAgg with
     | true=>rw [hk0] at h; exact h.elim
     | false =>
      rw [hk0] at h
      simp only [cond_false] at h ⊢
      split at h
      ·exact fk h
      ·exact h.elim
    ·exact fk h
    ·exact fk h
    ·exact h.elim
   ·exact h.elim
   ·exact h.elim
  ·exact h.elim
 | nilCheck x =>
  rcases vs with _ | ⟨v,_ | ⟨v',r⟩⟩ <;> first | exact h.elim | skip
  refine ⟨e,?_,rfl⟩
  rcases aD v with h1 | ⟨b,h1,rfl | rfl⟩
  ·simpa only [List.map_cons,List.map_nil,h1] using h
  ·exact h.elim
  ·exact h.elim
 | binOp op xt x y yt =>
  rcases vs with _ | ⟨v,_ | ⟨v',_ | ⟨v'',r⟩⟩⟩ <;> first | exact h.elim | skip
  refine ⟨e,?_,rfl⟩
  simp only [opL,List.map_cons,List.map_nil] at h ⊢
  split at h
  ·unfold DD at h ⊢
   split at h
   ·split at h
    ·exact fk (xj (fun cs h=>fk h) h)
    ·exact h.elim
   ·simp only [De,Cc] at h ⊢
    exact h
   ·simp only [Dg,vy,gj] at h ⊢
    exact h
  ·exact h.elim
 | unOp op xt x =>
  rcases vs with _ | ⟨v,_ | ⟨v',r⟩⟩ <;> first | exact h.elim | skip
  rcases aD v with h1 | ⟨b,h1,h2⟩
  ·refine ⟨e,?_,rfl⟩
   simpa only [List.map_cons,List.map_nil,h1] using h
  ·have hv:∃ t,(opL E id look (.unOp op xt x) [v]).hits C e→(Prg.tv (pun op (.lit (.bool b))) vt).hits C e:=⟨(),by rcases h2 with rfl | rfl <;> intro h <;> cases op <;> exact h⟩
   obtain ⟨_,hv⟩:=hv
   obtain ⟨z,hz,hh⟩:=hv h
   cases op with
   | not =>
    simp only [pun,Eg] at hz
    subst hz
    cases hh
    refine ⟨.val (.bl !b),?_,rfl⟩
    simp only [List.map_cons,List.map_nil,h1]
    rfl
   | _=>simp [pun] at hz
 | convert xt dt x =>
  rcases vs with _ | ⟨v,_ | ⟨v',r⟩⟩ <;> first | exact h.elim | skip
  refine ⟨e,?_,rfl⟩
  simp only [opL,List.map_cons,List.map_nil,zw,gj,vy] at h ⊢
  exact h
 | makeSlice t x y =>
  rcases vs with _ | ⟨v,_ | ⟨v',_ | ⟨v'',r⟩⟩⟩ <;> first | exact h.elim | skip
  refine ⟨e,?_,rfl⟩
  simp only [opL,List.map_cons,List.map_nil,gj] at h ⊢
  exact h
 | slice t x lo hi mx =>
  refine ⟨e,?_,rfl⟩
  cases mx with
  | some m=>rcases vs with _ | ⟨v,r⟩ <;> exact h.elim
  | none =>
   rcases vs with _ | ⟨v,r⟩
   ·exact h.elim
   ·simp only [opL, List.map_cons] at h ⊢
    split at h
    ·rename_i d hT
     split at h
     ·rename_i sz hsz
      cases lo with
      | none =>
       cases hi with
       | none =>
        rcases r with _ | ⟨l,r⟩
        ·have:=mi (look:=look) (kd:=d.kd) (sz:=sz) (x:=v) (lo:=none) (hi:=none)
         simp only [Option.map_none] at this
         simp only [List.map_nil]
         rw [this]; exact h
        ·exact h.elim
       | some hh =>
        rcases r with _ | ⟨l,_ | ⟨l',r⟩⟩
        ·exact h.elim
        ·have:=mi (look:=look) (kd:=d.kd) (sz:=sz) (x:=v) (lo:=none) (hi:=some l)
         simp only [Option.map_none,Es] at this
         simp only [List.map_cons,List.map_nil]
         rw [this]; exact h
        ·exact h.elim
      | some ll =>
       cases hi with
       | none =>
        rcases r with _ | ⟨l,_ | ⟨l',r⟩⟩
        ·exact h.elim
        ·have:=mi (look:=look) (kd:=d.kd) (sz:=sz) (x:=v) (lo:=some l) (hi:=none)
         simp only [Option.map_none,Es] at this
         simp only [List.map_cons,List.map_nil]
         rw [this]; exact h
        ·exact h.elim
       | some hh =>
        rcases r with _ | ⟨l,_ | ⟨l',_ | ⟨l'',r⟩⟩⟩
        ·exact h.elim
        ·exact h.elim
        ·have:=mi (look:=look) (kd:=d.kd) (sz:=sz) (x:=v) (lo:=some l) (hi:=some l')
         simp only [Es] at this
         simp only [List.map_cons,List.map_nil]
         rw [this]; exact h
        ·exact h.elim
     ·exact h.elim
    ·exact h.elim
 | fieldAddr t x f =>
  rcases vs with _ | ⟨v,_ | ⟨v',r⟩⟩ <;> first | exact h.elim | skip
  refine ⟨e,?_,rfl⟩
  rcases aD v with h1 | ⟨b,h1,rfl | rfl⟩
  ·simpa only [List.map_cons,List.map_nil,h1] using h
  ·simp only [opL] at h
   split at h
   ·rename_i hv
    cases hv
    split at h
    ·rename_i n _ _
     cases hb:Nat.blt 0 n <;> simp [hb,CA.add,Prg.hits] at h
    ·exact h.elim
   ·exact h.elim
  ·simp only [opL] at h
   split at h
   ·rename_i hv; cases hv
   ·exact h.elim
 | field t x f =>
  rcases vs with _ | ⟨v,_ | ⟨v',r⟩⟩ <;> first | exact h.elim | skip
  refine ⟨e,?_,rfl⟩
  rcases aD v with h1 | ⟨b,h1,rfl | rfl⟩
  ·simpa only [List.map_cons,List.map_nil,h1] using h
  ·simp only [opL] at h
   split at h
   ·split at h <;> exact h.elim
   ·exact h.elim
  ·simp only [opL] at h
   split at h
   ·split at h
    ·simp [vC,TV.isAgg,Prg.hits] at h
    ·exact h.elim
   ·exact h.elim
 | indexAddr t x y =>
  rcases vs with _ | ⟨v,_ | ⟨v',_ | ⟨v'',r⟩⟩⟩ <;> first | exact h.elim | skip
  refine ⟨e,?_,rfl⟩
  simp only [opL,List.map_cons,List.map_nil] at h ⊢
  split at h
  ·rcases aD v with h1 | ⟨b,h1,rfl | rfl⟩
   ·simp only [h1,oX,gj] at h ⊢; exact h
   ·simp only [oX,gj] at h ⊢; exact h
   ·simp only [oX,gj] at h ⊢; exact h
  ·unfold qO at h ⊢
   rw [gj]
   rcases aD v with h1 | ⟨b,h1,rfl | rfl⟩
   ·rw [h1]; exact h
   ·split at h
    ·split at h <;> first | exact h.elim | (rename_i hx _; cases hx)
    ·exact h.elim
   ·split at h
    ·split at h <;> first | exact h.elim | (rename_i hx _; cases hx)
    ·exact h.elim
 | index t x y =>
  rcases vs with _ | ⟨v,_ | ⟨v',_ | ⟨v'',r⟩⟩⟩ <;> first | exact h.elim | skip
  refine ⟨e,?_,rfl⟩
  simp only [opL,List.map_cons,List.map_nil,gj] at h ⊢
  split at h
  ·exact h
  ·unfold qF at h ⊢
   rw [gj]
   rcases aD v with h1 | ⟨b,h1,rfl | rfl⟩
   ·rw [h1]; exact h
   ·split at h
    ·split at h <;> first | exact h.elim | (rename_i hx _; cases hx)
    ·exact h.elim
   ·split at h
    ·split at h <;> first | exact h.elim | (rename_i hx _; cases hx)
    ·exact h.elim
 | extract x j =>
  rcases vs with _ | ⟨v,_ | ⟨v',r⟩⟩ <;> first | exact h.elim | skip
  refine ⟨e,?_,rfl⟩
  rcases aD v with h1 | ⟨b,h1,rfl | rfl⟩
  ·simpa only [List.map_cons,List.map_nil,h1] using h
  ·exact h.elim
  ·exact h.elim
 | call c =>
  refine ⟨e,?_,rfl⟩
  obtain ⟨callee,args,tys⟩:=c
  cases callee with
  | builtin b =>
   simp only [opL] at h ⊢
   unfold dV at h
   split at h
   ·rename_i x ty htys
    simp only [htys,dV,List.map_cons,List.map_nil]
    split at h
    ·rename_i d hd
     have key:∀ kd,(yD look kd x).hits C e→(yD look kd x.nf).hits C e:=by intro kd; cases kd <;> simp only [yD,vy] <;> exact fun h=>h
     exact key _ h
    ·exact h.elim
   ·rename_i s x ty ty' htys
    simp only [htys,dV,List.map_cons,List.map_nil]
    split at h
    ·rename_i _ d hel
     cases hb:Nat.beq ty ty' with
     | false =>
      simp only [hb,cond_false] at h ⊢
      split at h
      ·rename_i hu
       unfold lH at h ⊢
       rw [gj]
       rcases aD s with h1 | ⟨b,h1,rfl | rfl⟩
       ·rw [h1]; exact h
       ·exact h
       ·exact h
      ·exact h.elim
     | true =>
      simp only [hb,cond_true] at h ⊢
      unfold nV at h ⊢
      rw [zb,uF]
      rcases aD s with h1 | ⟨b,h1,rfl | rfl⟩
      ·rw [h1]; exact h
      ·exact h
      ·exact h
    ·exact h.elim
   ·rename_i s x ty ty' htys
    simp only [htys,dV,List.map_cons,List.map_nil]
    split at h
    ·rename_i _ d hel
     cases hb:Nat.beq ty ty' with
     | false=>simp [hb,Prg.hits] at h
     | true =>
      simp only [hb,cond_true] at h ⊢
      unfold yP at h ⊢
      rw [zb,uF]
      rcases aD s with h1 | ⟨b,h1,rfl | rfl⟩
      ·rw [h1]; exact h
      ·exact h
      ·exact h
    ·exact h.elim
   ·rename_i s ty htys
    simp only [htys,dV,List.map_cons,List.map_nil]
    split at h
    ·unfold vp at h ⊢
     rcases aD s with h1 | ⟨b,h1,rfl | rfl⟩
     ·rw [h1]; exact h
     ·exfalso
      revert h
      cases Nat.blt 0 _ <;> exact fun h=>h.elim
     ·exfalso
      revert h
      cases Nat.blt 0 _ <;> exact fun h=>h.elim
    ·exact h.elim
   ·simp only [dV,List.map_cons,List.map_nil,xh,gj] at h ⊢
    exact h
   ·simp only [dV,List.map_cons,List.map_nil,xh,gj] at h ⊢
    exact h
   ·exact h.elim
  | value f =>
   cases f with
   | func f =>
    rcases vs with _ | ⟨v,r⟩
    ·exact h.elim
    ·simp only [opL,List.map_cons,mH,jK,sR,Bx,Cr,Br] at h ⊢
     exact h
   | tmp t =>
    rcases vs with _ | ⟨v,r⟩
    ·exact h.elim
    ·simp only [opL,List.map_cons,gj,jK,CT] at h ⊢
     rcases aD v with h1 | ⟨b,h1,rfl | rfl⟩
     ·rw [h1]; exact h
     ·exact h
     ·exact h
   | _=>exact h.elim
  | invoke r m=>exact h.elim
 | makeInterface t x =>
  rcases vs with _ | ⟨v,_ | ⟨v',r⟩⟩ <;> first | exact h.elim | skip
  refine ⟨e,?_,rfl⟩
  simp only [opL,List.map_cons,List.map_nil,Dq] at h ⊢
  exact h
 | typeAssert x xt t ok =>
  rcases vs with _ | ⟨v,_ | ⟨v',r⟩⟩ <;> cases ok <;> first | exact h.elim | skip
  refine ⟨e,?_,rfl⟩
  simp only [opL,List.map_cons,List.map_nil,Bh] at h ⊢
  exact h
 | _=>exact h.elim
theorem lG (st:ASt):st.nfS.look=st.look:=rfl
theorem nY (st:ASt):st.nfS.base=st.base:=rfl
theorem uY (st:ASt) (d:Option Tmp):st.nfS.nid d=st.nid d:=by cases d <;> rfl
theorem iR (st:ASt) (d:Option Tmp) (v:AV):(st.put d v).nfS=st.nfS.put d v.nf:=by
 cases d with
 | none=>rfl
 | some d=>simp [ASt.nfS,ASt.put,ai,List.map_set]
theorem sN (st:ASt) (i:Nat) (b:Option BC):(st.ab i b).nfS=st.nfS.ab i b:=rfl
theorem jJ (st:ASt) (t:Nat):nth (.one .junk) st.nfS.slots t=(nth (.one .junk) st.slots t).nf:=by
 simp only [ASt.nfS,aL,Ek]
 cases st.slots[t]? <;> rfl
theorem Am (ps:List Nat) (st:ASt) (d:Option Nat) (e:Eff):bW ps st.nfS d e.nfE=bW ps st d e:=by
 unfold bW
 congr 1
 funext k
 cases d with
 | none=>rw [nY,bY]
 | some d=>simp only [nY,bY,jJ,l6]
theorem nO (k s:Nat):∀ (l:List AV) (n:Nat),fb k s n (l.map AV.nf)=fb k s n l
 | [],n=>rfl
 | v :: l,n=>by simp only [List.map_cons,fb,l6,nO k s l (n + 1)]
theorem wN {k:Nat} {v:AV} (h:jG k v=true):jG k v.nf=true:=by
 unfold jG at h
 split at h
 ·exact h
 ·cases h
theorem iB {e:Eff} {i:Nat} {y:TV} (h:jk e=some (i,y)):e=.gen [.drop i 0 [] false,.root i 0 y] (.one (.sref i 0 [])):=by
 unfold jk at h
 split at h
 ·rename_i i' j y' k
  cases hb:i'.beq j && i'.beq k with
  | false=>rw [hb] at h; cases h
  | true =>
   simp only [hb,cond_true,Eg,Prod.mk.injEq] at h
   simp only [Eh] at hb
   obtain ⟨rfl,rfl⟩:=h
   rw [← (aq _ _).1 hb.1,← (aq _ _).1 hb.2]
 ·cases h
theorem mu (i:Nat) (y:TV):jk (.gen [.drop i 0 [] false,.root i 0 y] (.one (.sref i 0 [])))=some (i,y):=by
 simp only [jk,(aq i i).2 rfl,Bool.and_self,cond_true]
theorem zY {o:Item} {st:ASt} {e:Eff} (h:cQ o st e=true):cQ o st.nfS e.nfE=true:=by
 unfold cQ at h ⊢
 split at h
 ·rename_i s i y h1 h2
  have:=iB h2
  subst this
  simp only [Eh] at h
  simp only [h1,Eff.nfE,AV.nf,mu,Eh]
  refine ⟨⟨⟨⟨⟨h.1.1.1.1.1,?_⟩,h.1.1.1.2⟩,?_⟩,h.1.2⟩,h.2⟩
  ·rw [jJ]; exact wN h.1.1.1.1.2
  ·rw [show st.nfS.slots=st.slots.map AV.nf from rfl,nO]; exact h.1.1.2
 ·cases h
theorem rm (st:ASt) (x:Operand):st.nfS.ev x=(st.ev x).nf:=by
 cases x with
 | tmp t=>exact jJ st t
 | const v =>
  cases v with
  | bool b=>rfl
  | _=>first | rfl | (simp only [ASt.ev]; cases Value.oneCell' _ <;> rfl)
 | global g=>rfl
 | func f=>rfl
theorem sZ:∀ (l:List AV),ce (l.map AV.nf)=ce l
 | []=>rfl
 | v :: l=>by simp only [List.map_cons,ce,gj,sZ l]
theorem ky (e:Eff):il e.nfE=il e:=by
 cases e with
 | new b v=>cases b <;> rfl
 | _=>rfl
theorem Ax {i:Item} {st:ASt} {e:Eff}:gT i st.nfS e.nfE=gT i st e:=by
 unfold gT
 have:i.o.op.operands.toList.map st.nfS.ev=(i.o.op.operands.toList.map st.ev).map AV.nf:=by
  rw [List.map_map]
  exact List.map_congr_left fun x _=>rm st x
 rw [this,sZ,ky,bY]
 rfl
theorem wm:∀ (l:List AV),fF (l.map AV.nf)=fF l
 | []=>rfl
 | v :: l=>by simp only [List.map_cons,fF,l6,wm l]
theorem oU (e:Eff):lv e.nfE=lv e:=by cases e <;> rfl
theorem ym (e:Eff):drE e.nfE=drE e:=by cases e <;> rfl
theorem so (k:Nat) (e:Eff):uK k e.nfE=uK k e:=by cases e <;> rfl
theorem qz (v:AV):(v.nf.bJ CA.deep).dF=(v.bJ CA.deep).dF:=by
 rcases aD v with h | ⟨b,h,rfl | rfl⟩
 ·rw [h]
 ·rw [h]; rfl
 ·rw [h]; rfl
theorem xe:∀ (l:List AV),fF (bN CA.deep (l.map AV.nf))=fF (bN CA.deep l)
 | []=>rfl
 | v :: l=>by simp only [List.map_cons,bN,fF,qz,xe l]
theorem pI (e:Eff):nW e.nfE=nW e:=by
 cases e with
 | val v=>exact qz v
 | new b v=>exact bY (.new b v)
 | upd i b v=>exact bY (.upd i b v)
 | gen ps v=>exact bY (.gen ps v)
theorem AS {i:Item} {st:ASt} {e:Eff}:b9 i st.nfS e.nfE=b9 i st e:=by
 unfold b9
 simp only [oU,ym,so]
 rfl
theorem AE {i:Item} {st:ASt} {e:Eff}:cR i st.nfS e.nfE=cR i st e:=by
 unfold cR
 have hd:∀ d b,iM st.nfS d b=iM st d b:=fun d b=>by
  cases d with
  | none=>rfl
  | some d =>
   have:=rm st (.tmp d)
   simp only [ASt.ev] at this
   simp only [iM,this,l6]
 have hd2:∀ d b,gm st.nfS d b=gm st d b:=fun d b=>by
  cases d with
  | none=>rfl
  | some d =>
   have:=rm st (.tmp d)
   simp only [ASt.ev] at this
   simp only [gm,this,qz]
 simp only [hd,hd2,bY,pI]
 have:i.o.op.operands.toList.map st.nfS.ev=(i.o.op.operands.toList.map st.ev).map AV.nf:=by
  rw [List.map_map]
  exact List.map_congr_left fun x _=>rm st x
 rw [this,wm,xe]
 rfl
theorem okE_nf {i:Item} {st:ASt} {e:Eff} (h:okE i st e=true):okE i st.nfS e.nfE=true:=by
 unfold okE at h ⊢
 rw [Bool.or_eq_true] at h ⊢
 rcases h with h | h
 ·rw [AS]; exact .inl h
 refine .inr ?_
 rw [Bool.or_eq_true] at h ⊢
 rcases h with h | h
 ·rw [ot,wd,nY,Am,Ax,AE]; exact .inl h
 ·exact .inr (zY h)
theorem vi (hs:Sim w0 I0 st a ov w):Sim w0 I0 st.nfS a ov w:=by
 obtain ⟨g,hs⟩:=hs
 refine ⟨g,hs.below,hs.sub,hs.lt,hs.old,by simp [ASt.nfS,hs.len],hs.defers,fun t v hv=>?_,hs.olen,hs.outs,hs.cells,hs.trees,hs.foot,hs.apart,hs.apartR,hs.res,hs.base,hs.out⟩
 simp only [ASt.nfS,Ek] at hv
 cases hsl:st.slots[t]? with
 | none=>simp [hsl] at hv
 | some u =>
  simp only [hsl,Es,Eg] at hv
  subst hv
  exact BY.2 (hs.slots t u hsl)
theorem ej (hs:Sim w0 I0 st.nfS a ov w):Sim w0 I0 st a ov w:=by
 obtain ⟨g,hs⟩:=hs
 refine ⟨g,hs.below,hs.sub,hs.lt,hs.old,by have:=hs.len; simpa [ASt.nfS] using this,hs.defers,fun t v hv=>?_,hs.olen,hs.outs,hs.cells,hs.trees,hs.foot,hs.apart,hs.apartR,hs.res,hs.base,hs.out⟩
 exact BY.1 (hs.slots t v.nf (by simp [ASt.nfS,hv]))
theorem nE (i r:Nat) (js:List Nat) (b:Bool) (v:AV):(v.bJ (CA.drop i r js b)).nf=v.nf.bJ (CA.drop i r js b):=by
 rcases aD v with h | ⟨b,h,rfl | rfl⟩
 ·rw [h]
  cases v with
  | one c =>
   have key:∀ c:CA,c.drop i r js b=c∨c.drop i r js b=.junk:=fun c=>by
    rcases eE i r js b c with ⟨h,_⟩ | h
    ·exact .inl h
    ·exact .inr h
   simp only [AV.bJ]
   rcases key c with h' | h'
   ·rw [h',h]
   ·rw [h']; rfl
  | tv x=>exact h
  | _=>rfl
 ·rfl
 ·rfl
theorem BK (st:ASt) (i r:Nat) (js:List Nat) (b:Bool):(st.aw (CA.drop i r js b)).nfS=st.nfS.aw (CA.drop i r js b):=by
 simp only [ASt.nfS,ASt.aw]
 congr 1
 apply List.ext_getElem?
 intro t
 simp only [Ek,lQ]
 cases st.slots[t]? with
 | none=>rfl
 | some v=>simp [nE]
theorem qo (i:Nat) (v:AV):(v.bJ (CA.unM i)).nf=v.nf.bJ (CA.unM i):=by
 cases v with
 | one c =>
  cases c with
  | t x =>
   cases x with
   | lit u=>cases u <;> rfl
   | _=>rfl
  | may j ty =>
   simp only [AV.bJ,CA.unM,AV.nf]
   cases j.beq i <;> rfl
  | _=>rfl
 | tv x =>
  cases x with
  | lit u=>cases u <;> rfl
  | _=>rfl
 | _=>rfl
theorem Do (st:ASt) (i:Nat):(st.aw (CA.unM i)).nfS=st.nfS.aw (CA.unM i):=by
 simp only [ASt.aw,ASt.nfS]
 congr 1
 induction st.slots with
 | nil=>rfl
 | cons v l ih=>simp only [bN,List.map_cons,qo,ih]
theorem tN {i:Nat} {b:BC} (h:st.bn i b=some st'):st.nfS.bn i b=some st'.nfS:=by
 obtain ⟨h1,h2,rfl⟩:=bg h
 have h2':i.blt st.nfS.boxes.length=true:=by simpa [ASt.nfS] using h2
 simp only [ASt.bn,lG,h1,h2',cond_true,sN]
theorem pT {d:Option Tmp}:∀ {ps:List Prim} {st st':ASt},ac d ps st=some st'→ac d ps st.nfS=some st'.nfS
 | [],st,st',h=>by simp only [ac,Eg] at h; subst h; rfl
 | p :: ps, st, st', h => by
  simp only [ac] at h ⊢
  cases h1:p.app st d with
  | none=>simp [h1] at h
  | some s1 =>
   simp only [h1] at h
   have:p.app st.nfS d=some s1.nfS:=by
    cases p with
    | drop i r js b =>
     simp only [Prim.app,Eg] at h1 ⊢
     subst h1
     rw [BK]
    | root i r x =>
     simp only [Prim.app,lG] at h1 ⊢
     split at h1
     ·rename_i b hb
      simp only [Eg] at h1
      subst h1
      rfl
     ·cases h1
    | frz i r =>
     simp only [Prim.app,lG] at h1 ⊢
     split at h1
     ·rename_i x hx
      split at h1
      ·rename_i b hb
       simp only [Eg] at h1
       subst h1
       rfl
      ·cases h1
     ·cases h1
    | unmay i =>
     simp only [Prim.app,Eg] at h1 ⊢
     subst h1
     rw [Do]
    | newB b =>
     cases d with
     | none=>simp [Prim.app] at h1
     | some d =>
      simp only [Prim.app] at h1 ⊢
      rw [uY]
      exact tN h1
    | setB i cs =>
     simp only [Prim.app,lG] at h1 ⊢
     split at h1
     ·simp only [Eg] at h1
      subst h1
      rfl
     ·cases h1
   rw [this]
   exact pT h
theorem app_nf {e:Eff} {d:Option Tmp} (h:e.app st d=some st'):e.nfE.app st.nfS d=some st'.nfS:=by
 cases e with
 | val v =>
  simp only [Eff.app,Eff.nfE,Eg] at h ⊢
  subst h
  rw [iR]
 | new b v =>
  cases d with
  | none=>simp [Eff.app] at h
  | some d =>
   simp only [Eff.app,Eff.nfE] at h ⊢
   rw [uY]
   split at h
   ·rename_i s1 hs1
    simp only [Eg] at h
    subst h
    rw [tN hs1]
    simp only [iR]
   ·cases h
 | upd i b v =>
  simp only [Eff.app,Eff.nfE,Eg] at h ⊢
  subst h
  rw [iR,sN]
 | gen ps v =>
  simp only [Eff.app,Eff.nfE] at h ⊢
  split at h
  ·rename_i s1 hs1
   simp only [Eg] at h
   subst h
   rw [pT hs1]
   simp only [iR]
  ·cases h
theorem j9 {d:Option Tmp} {v:AV} (hs:Sim w0 I0 (st.put d v) a ov w):Sim w0 I0 (st.put d v.nf) a ov w:=by
 apply ej
 have:=vi hs
 rw [iR] at this ⊢
 rwa [uC]
theorem ze {e:Eff} {d:Option Tmp} (h:e.nfE.app st d=some st'):∃ st1,e.app st d=some st1∧∀ w0 I0 a ov w,Sim w0 I0 st1 a ov w→Sim w0 I0 st' a ov w:=by
 cases e with
 | val v =>
  simp only [Eff.app,Eff.nfE,Eg] at h ⊢
  subst h
  exact ⟨_,rfl,fun w0 I0 a ov w hs=>j9 hs⟩
 | new b v =>
  cases d with
  | none=>simp [Eff.app,Eff.nfE] at h
  | some d =>
   simp only [Eff.app,Eff.nfE] at h ⊢
   split at h
   ·rename_i s1 hs1
    simp only [Eg] at h
    subst h
    exact ⟨_,rfl,fun w0 I0 a ov w hs=>j9 hs⟩
   ·cases h
 | upd i b v =>
  simp only [Eff.app,Eff.nfE,Eg] at h ⊢
  subst h
  exact ⟨_,rfl,fun w0 I0 a ov w hs=>j9 hs⟩
 | gen ps v =>
  simp only [Eff.app,Eff.nfE] at h ⊢
  split at h
  ·rename_i s1 hs1
   simp only [Eg] at h
   subst h
   exact ⟨_,rfl,fun w0 I0 a ov w hs=>j9 hs⟩
  ·cases h
end
end Go.Ab
end
section
namespace Go.Ab
open Go.RowKit
def Prg.All {R:Type} (p:R→Prop):Prg R→Prop
 | .fail=>True
 | .ret e=>p e
 | .tv _ k=>∀ v,(k v).All p
 | .tvs _ k=>∀ v,(k v).All p
 | .rws _ k=>∀ v,(k v).All p
 | .nat _ k=>∀ v,(k v).All p
 | .chk _ k=>k.All p
 | .ite _ t e=>t.All p∧e.All p
 | .call _ _ k=>∀ v,(k v).All p
 | .jmp _ _=>True
theorem Prg.All.hits {R:Type} {C:Cal} {p:R→Prop} {e:R}:∀ {o:Prg R},o.All p→o.hits C e→p e
 | .ret e',h,h'=>by cases h'; exact h
 | .tv _ k,h,⟨v,_,h'⟩=>(h v).hits h'
 | .tvs _ k,h,⟨v,_,h'⟩=>(h v).hits h'
 | .rws _ k,h,⟨v,_,h'⟩=>(h v).hits h'
 | .nat _ k,h,⟨v,_,h'⟩=>(h v).hits h'
 | .chk _ k,h,⟨_,h'⟩=>Prg.All.hits (o:=k) h h'
 | .ite _ t e,h,⟨v,_,.inl ⟨_,h'⟩⟩=>Prg.All.hits (o:=t) h.1 h'
 | .ite _ t e,h,⟨v,_,.inr ⟨_,h'⟩⟩=>Prg.All.hits (o:=e) h.2 h'
 | .call _ _ k,h,⟨v,_,h'⟩=>(h v).hits h'
section
variable {E:Env} {look look':Look} {p:Eff→Prop} {id:Nat}
theorem aE {b:Bool} {x y:Out} (hx:x.All p) (hy:y.All p):(bif b then x else y).All p:=by cases b <;> assumption
theorem iD {q:Way} {x:TV} {k:TV→Out} (h:∀ y,(k y).All p):(mN q x k).All p:=by
 unfold mN
 split
 ·exact h _
 ·exact h
theorem fy {c:CA} {k:TV→Out} (h:∀ y,(k y).All p):(iA look c k).All p:=by
 unfold iA
 split
 ·exact h _
 ·split
  ·exact iD h
  ·exact trivial
 ·split
  ·exact iD fun y z=>h z
  ·exact trivial
 ·exact trivial
theorem nl {v:AV} {k:TV→Out} (h:∀ y,(k y).All p):(tf look v k).All p:=by
 unfold tf
 split
 ·exact fy h
 ·exact h _
 ·exact h _
 ·exact trivial
theorem ut {c:CA} {k:TV→Out} (h:∀ y,(k y).All p):(sf look c k).All p:=by
 unfold sf
 split
 ·exact h _
 ·exact fy fun y=>h _
 ·exact fy fun y=>h _
 ·exact trivial
theorem un {k:List TV→Out}:∀ {cs:List CA} {k:List TV→Out},(∀ y,(k y).All p)→(yR look cs k).All p
 | [],k,h=>h _
 | c :: cs,k,h=>ut fun y=>un (k:=fun _=>.fail) fun ys=>h _
theorem AH {v:AV} {k:TV→Out} (h:∀ y,(k y).All p):(sv look v k).All p:=by
 unfold sv
 split
 ·exact ut h
 ·exact h _
 ·exact un (k:=fun _=>.fail) fun ys=>h _
 ·exact trivial
 ·exact trivial
 ·exact h _
theorem fO:∀ {vs:List AV} {k:List TV→Out},(∀ y,(k y).All p)→(lends look vs k).All p
 | [],k,h=>h _
 | v :: vs,k,h=>AH fun y=>fO fun ys=>h _
theorem t7 {c:CA} {k:TV→List (Nat × Nat)→Out} (h:∀ y r,(k y r).All p):(rM look c k).All p:=by
 unfold rM
 split
 ·exact h _ _
 ·split
  ·split
   ·exact h _ _
   ·exact fun y=>h _ _
  ·exact trivial
 ·split
  ·split
   ·exact fun y=>h _ _
   ·exact fun z y=>h _ _
  ·exact trivial
 ·exact trivial
theorem uH:∀ {cs:List CA} {k:List TV→List (Nat × Nat)→Out},(∀ y r,(k y r).All p)→(zj look cs k).All p
 | [],k,h=>h _ _
 | c :: cs,k,h=>t7 fun y r=>uH fun ys rs=>h _ _
theorem AF {v:AV} {k:TV→List (Nat × Nat)→Out} (h:∀ y r,(k y r).All p):(re look v k).All p:=by
 unfold re
 split
 ·exact t7 h
 ·exact h _ _
 ·exact uH fun ys rs=>h _ _
 ·exact trivial
 ·exact trivial
 ·exact h _ _
theorem oR:∀ {vs:List AV} {k:List TV→List (Nat × Nat)→Out},(∀ y r,(k y r).All p)→(hands look vs k).All p
 | [],k,h=>h _ _
 | v :: vs,k,h=>AF fun y r=>oR fun ys rs=>h _ _
theorem dN:∀ {cs:List CA} {k:List TV→List Prim→List (Nat × Nat)→Out},(∀ y q r,(k y q r).All p)→(cp look cs k).All p
 | [],k,h=>h _ _ _
 | .t x :: l,k,h=>by
  simp only [cp]
  exact dN (cs:=l) fun xs ps ts=>h _ _ _
 | .sref i r q :: l, k, h => by
  simp only [cp]
  split
  ·split
   ·exact dN (cs:=l) fun xs ps ts=>h _ _ _
   ·exact fun y=>dN (cs:=l) fun xs ps ts=>h _ _ _
  ·exact trivial
 | .swin i r q lo len :: l, k, h => by
  simp only [cp]
  split
  ·split
   ·exact fun y=>dN (cs:=l) fun xs ps ts=>h _ _ _
   ·exact fun z y=>dN (cs:=l) fun xs ps ts=>h _ _ _
  ·exact trivial
 | .ptr _ _ :: l,k,h=>trivial
 | .ref _ _ :: l,k,h=>trivial
 | .tptr _ _ _ _ _ :: l,k,h=>trivial
 | .may _ _ :: l,k,h=>trivial
 | .aptr _ _ _ _ :: l,k,h=>trivial
 | .ifp _ _ :: l,k,h=>trivial
 | .fn1 _ _ :: l,k,h=>trivial
 | .yl _ :: l,k,h=>trivial
 | .undef :: l,k,h=>trivial
 | .junk :: l,k,h=>trivial
theorem dS:∀ {cs:List CA} {k:List TV→List Prim→List (Nat × Nat)→Out},(∀ y q r,(k y q r).All p)→(bU look cs k).All p
 | [],k,h=>h _ _ _
 | .t x :: l,k,h=>by
  simp only [bU]
  exact dS (cs:=l) fun xs ps ts=>h _ _ _
 | .sref i r q :: l, k, h => by
  simp only [bU]
  split
  ·split
   ·exact dS (cs:=l) fun xs ps ts=>h _ _ _
   ·exact fun y=>⟨dS (cs:=l) fun xs ps ts=>h _ _ _,fun x'=>dS (cs:=l) fun xs ps ts=>h _ _ _⟩
  ·exact trivial
 | .swin i r q lo len :: l, k, h => by
  simp only [bU]
  split
  ·split
   ·exact fun y=>dS (cs:=l) fun xs ps ts=>h _ _ _
   ·exact fun z y=>dS (cs:=l) fun xs ps ts=>h _ _ _
  ·exact trivial
 | .ptr _ _ :: l,k,h=>trivial
 | .ref _ _ :: l,k,h=>trivial
 | .tptr _ _ _ _ _ :: l,k,h=>trivial
 | .may _ _ :: l,k,h=>trivial
 | .aptr _ _ _ _ :: l,k,h=>trivial
 | .ifp _ _ :: l,k,h=>trivial
 | .fn1 _ _ :: l,k,h=>trivial
 | .yl _ :: l,k,h=>trivial
 | .undef :: l,k,h=>trivial
 | .junk :: l,k,h=>trivial
theorem dW {agg:Bool} {n:Nat} {x:AV} {k:List CA→Out} (h:∀ cs,(k cs).All p):(x.aS agg n k).All p:=by
 unfold AV.aS
 split
 ·rename_i c; cases c.kept <;> first | exact trivial | exact h _
 ·exact h _
 ·exact h _
 ·exact h _
 ·rename_i cs; cases cs.length.beq n <;> first | exact trivial | exact h _
 ·exact h _
 ·exact trivial
theorem oD {at_:Nat→Option (Nat × Bool × Nat)} {k:List CA→Out} (h:∀ cs,(k cs).All p):∀ (is:List Nat) (vs:List AV) (cs:List CA),(bK at_ is vs cs k).All p
 | [],[],cs=>h cs
 | i :: is, x :: vs, cs => by
  simp only [bK]
  split
  ·refine dW (fun ps=>?_)
   exact aE (oD h is vs _) trivial
  ·exact trivial
 | [],_ :: _,cs=>trivial
 | _ :: _,[],cs=>trivial
theorem eX {v:Option AV} {k:Option Nat→Out} (h:∀ n,(k n).All p):(fu v k).All p:=by
 unfold fu
 split
 ·exact h _
 ·split
  ·exact fun v=>h _
  ·exact trivial
abbrev cU (e:Eff):Prop:=∃ v,e=.val v
abbrev cX (e:Eff):Prop:=∃ b v,e=.new b v
theorem vZ {d:TyD} {x:List TV} {off:Nat}:(jV d x off).All cU:=by
 unfold jV
 cases d.kd.isAgg
 ·exact ⟨_,rfl⟩
 ·exact ⟨_,rfl⟩
theorem tG:∀ {vs:List AV} {k:List CA→Out},(∀ cs,(k cs).All p)→(j5 vs k).All p
 | [],k,h=>h _
 | v :: vs,k,h=>dW fun cs=>tG fun cs'=>h _
theorem DR {op:Op} (h:ao op=.N) (vs:List AV):(opL E id look op vs).All cU:=by
 cases op with
 | move x=>rcases vs with _ | ⟨v,_ | ⟨v',r⟩⟩ <;> first | exact trivial | exact ⟨_,rfl⟩
 | assign x=>rcases vs with _ | ⟨v,_ | ⟨v',r⟩⟩ <;> first | exact trivial | exact ⟨_,rfl⟩
 | pick c x y =>
  rcases vs with _ | ⟨v,_ | ⟨v',_ | ⟨v'',_ | ⟨v3,r⟩⟩⟩⟩ <;> first | exact trivial | skip
  simp only [opL]
  split <;> first | exact trivial | exact ⟨_,rfl⟩ | exact ⟨⟨_,rfl⟩,⟨_,rfl⟩⟩
 | build t parts =>
  simp only [opL]
  split
  ·refine aE ?_ trivial
   refine oD ?_ _ _ _
   exact fun cs=>⟨_,rfl⟩
  ·exact trivial
 | nilCheck x =>
  rcases vs with _ | ⟨v,_ | ⟨v',r⟩⟩ <;> first | exact trivial | skip
  simp only [opL]
  split <;> first | exact trivial | exact ⟨_,rfl⟩
 | unOp op xt x =>
  rcases vs with _ | ⟨v,_ | ⟨v',r⟩⟩ <;> first | exact trivial | skip
  simp only [opL]
  split
  ·exact ⟨_,rfl⟩
  ·split
   ·exact fun v=>⟨_,rfl⟩
   ·exact trivial
 | fieldAddr t x f =>
  rcases vs with _ | ⟨v,_ | ⟨v',r⟩⟩ <;> first | exact trivial | skip
  simp only [opL]
  split
  ·split
   ·refine aE ?_ trivial
    split <;> first | exact trivial | exact ⟨_,rfl⟩
   ·exact trivial
  ·exact trivial
 | field t x f =>
  rcases vs with _ | ⟨v,_ | ⟨v',r⟩⟩ <;> first | exact trivial | skip
  simp only [opL]
  split
  ·split
   ·unfold vC
    split
    ·split
     ·split <;> first | exact trivial | exact ⟨_,rfl⟩
     ·exact trivial
    ·exact ⟨_,rfl⟩
    ·exact trivial
   ·exact trivial
  ·exact trivial
 | index t x y =>
  rcases vs with _ | ⟨v,_ | ⟨v',_ | ⟨v'',r⟩⟩⟩ <;> first | exact trivial | skip
  simp only [opL]
  split
  ·exact fun v=>⟨_,rfl⟩
  ·unfold qF
   split
   ·split
    ·refine aE ?_ trivial
     split
     ·exact fun k v=>⟨_,rfl⟩
     ·exact trivial
    ·exact trivial
   ·exact trivial
 | extract x j =>
  rcases vs with _ | ⟨v,_ | ⟨v',r⟩⟩ <;> first | exact trivial | skip
  simp only [opL]
  split
  ·split
   ·split <;> first | exact trivial | exact ⟨_,rfl⟩
   ·exact trivial
  ·exact trivial
 | makeFunc fn first cap =>
  cases fn with
  | func f =>
   simp only [opL]
   exact aE (tG fun cs=>⟨_,rfl⟩) trivial
  | _=>exact trivial
 | call c =>
  obtain ⟨callee,args,tys⟩:=c
  cases callee with
  | builtin b=>cases b <;> simp [ao] at h
  | value f=>cases f <;> simp [ao] at h
  | invoke r m=>simp [ao] at h
 | makeInterface t x =>
  rcases vs with _ | ⟨v,_ | ⟨v',r⟩⟩ <;> first | exact trivial | skip
  simp only [opL]
  split
  ·unfold A7
   refine aE ?_ trivial
   split
   ·exact ⟨_,rfl⟩
   ·split
    ·exact fun v=>⟨_,rfl⟩
    ·exact trivial
  ·exact trivial
 | typeAssert x xt t ok =>
  rcases vs with _ | ⟨v,_ | ⟨v',r⟩⟩ <;> cases ok <;> first | exact trivial | skip
  simp only [opL]
  split
  ·unfold uJ
   refine aE ?_ trivial
   split
   ·exact fun v=>⟨_,rfl⟩
   ·exact trivial
  ·exact trivial
 | _=>simp [ao] at h
theorem BD {op:Op} (h:ao op=.R) (vs:List AV):(opL E id look op vs).All cU:=by
 cases op with
 | load t x =>
  rcases vs with _ | ⟨v,_ | ⟨v',r⟩⟩ <;> first | exact trivial | skip
  simp only [opL]
  split
  ·unfold yY
   split
   ·refine aE trivial ?_
    split
    ·exact fun v=>⟨_,rfl⟩
    ·exact trivial
   ·split
    ·split
     ·split
      ·exact ⟨_,rfl⟩
      ·exact trivial
     ·exact trivial
    ·exact trivial
   ·exact vZ
   ·split
    ·refine iD (fun s e=>?_)
     simp only [Prg.All]
     split
     ·exact ⟨_,rfl⟩
     ·exact trivial
    ·exact trivial
   ·exact trivial
  ·exact trivial
 | convert xt dt x =>
  rcases vs with _ | ⟨v,_ | ⟨v',r⟩⟩ <;> first | exact trivial | skip
  simp only [opL]
  split
  ·unfold zw
   split
   ·split
    ·exact aE (nl fun y=>fun rows=>fun v=>⟨_,rfl⟩) trivial
    ·exact trivial
   ·split
    ·exact fun v=>⟨_,rfl⟩
    ·exact trivial
  ·exact trivial
 | binOp op xt x y yt =>
  rcases vs with _ | ⟨v,_ | ⟨v',_ | ⟨v'',r⟩⟩⟩ <;> first | exact trivial | skip
  simp only [opL]
  split
  ·unfold DD
   split
   ·split
    ·refine dW fun cs=>dW fun cs'=>?_
     split
     ·exact fun v=>⟨_,rfl⟩
     ·exact trivial
    ·exact trivial
   ·unfold De
    split
    ·exact ⟨_,rfl⟩
    ·exact ⟨_,rfl⟩
    ·exact trivial
   unfold Dg
   refine aE (nl fun x=>nl fun y=>fun v=>⟨_,rfl⟩) ?_
   split
   ·exact fun v=>⟨_,rfl⟩
   ·exact trivial
  ·exact trivial
 | slice t x lo hi mx =>
  have sl:∀ {kd:Kd} {sz:Nat} {x:AV} {lo hi:Option AV},(iI look kd sz x lo hi).All cU:=by
   intro kd sz x lo hi
   unfold iI
   split
   ·exact eX fun lo=>eX fun hi=>fun v=>⟨_,rfl⟩
   ·split
    ·exact fy fun s n=>eX fun lo=>eX fun hi=>⟨_,rfl⟩
    ·split
     ·exact fy fun s=>eX fun hi=>⟨_,rfl⟩
     ·exact fy fun s=>eX fun lo=>eX fun hi=>⟨_,rfl⟩
    ·exact trivial
  cases mx with
  | some m=>rcases vs with _ | ⟨v,r⟩ <;> exact trivial
  | none =>
   rcases vs with _ | ⟨v,r⟩
   ·exact trivial
   ·simp only [opL]
    split
    ·split
     ·split <;> first | exact trivial | exact sl
     ·exact trivial
    ·exact trivial
 | indexAddr t x y =>
  rcases vs with _ | ⟨v,_ | ⟨v',_ | ⟨v'',r⟩⟩⟩ <;> first | exact trivial | skip
  simp only [opL]
  split
  ·unfold oX
   split
   ·split
    ·exact fun v=>⟨_,rfl⟩
    ·split
     ·exact fy fun s n k=>⟨_,rfl⟩
     ·exact fy fun s k=>⟨_,rfl⟩
     ·exact trivial
   ·exact trivial
  ·unfold qO
   split
   ·split
    ·exact aE (fun k=>⟨_,rfl⟩) trivial
    ·exact trivial
   ·exact trivial
 | call c =>
  obtain ⟨callee,args,tys⟩:=c
  cases callee with
  | builtin b =>
   have mn:∀ {mx:Bool} {x y:AV},(xh mx x y).All cU:=by
    intro mx x y
    unfold xh
    split
    ·exact fun v=>⟨_,rfl⟩
    ·exact trivial
   cases b <;> simp [ao] at h
   all_goals simp only [opL]
   all_goals unfold dV
   all_goals split <;> first | exact trivial | exact mn | contradiction | skip
   split
   ·unfold yD
    split
    ·exact ⟨_,rfl⟩
    ·exact nl fun s v=>⟨_,rfl⟩
   ·exact trivial
  | value f=>cases f <;> simp [ao] at h
  | invoke r m=>simp [ao] at h
 | _=>simp [ao] at h
theorem cls_A {op:Op} (h:ao op=.A) (vs:List AV):(opL E id look op vs).All cX:=by
 cases op with
 | alloc t =>
  rcases vs with _ | ⟨v,r⟩ <;> first | exact trivial | skip
  simp only [opL]
  split
  ·exact ⟨_,_,rfl⟩
  ·exact trivial
 | box t x =>
  rcases vs with _ | ⟨v,_ | ⟨v',r⟩⟩ <;> first | exact trivial | skip
  simp only [opL]
  split
  ·exact dW (fun cs=>⟨_,_,rfl⟩)
  ·exact trivial
 | makeSlice t x y =>
  rcases vs with _ | ⟨v,_ | ⟨v',_ | ⟨v'',r⟩⟩⟩ <;> first | exact trivial | skip
  simp only [opL]
  split
  ·refine aE ?_ trivial
   exact fun n m=>⟨_,_,rfl⟩
  ·exact trivial
 | call c =>
  obtain ⟨callee,args,tys⟩:=c
  cases callee with
  | builtin b=>cases b <;> simp [ao] at h
  | value f=>cases f <;> simp [ao] at h
  | invoke r m=>simp [ao] at h
 | _=>simp [ao] at h
theorem iT {ps:List Prim} {b:BC} {v:AV}:(cC ps b v).plain=true→cU (cC ps b v)∨cX (cC ps b v):=by
 cases ps with
 | nil=>exact fun _=>.inr ⟨_,_,rfl⟩
 | cons q l=>exact fun h=>by cases h
theorem tH {ps:List Prim} {v:AV}:(match ps with | []=>Eff.val v | _=>.gen ps v).plain=true→cU (match ps with | []=>Eff.val v | _=>.gen ps v)∨cX (match ps with | []=>Eff.val v | _=>.gen ps v):=by
 cases ps with
 | nil=>exact fun _=>.inl ⟨_,rfl⟩
 | cons q l=>exact fun h=>by cases h
theorem kE {d:TyD} {x:TV} {k:Out} (h:k.All p):(i8 d x k).All p:=by
 unfold i8
 exact aE h h
theorem pN {x:TV} {k:Out} (h:k.All p):∀ (ds:List TyD) (j:Nat),(fY x ds j k).All p
 | [],j=>h
 | d :: ds,j=>kE (pN h ds (j + 1))
theorem rq {ds:List TyD} {v:TV} {ps:List Prim}:(tq id ds v ps).All fun e=>e.plain=true→cU e∨cX e:=by
 have many:∀ ds:List TyD,(Prg.chk (v.isTup ds.length) (fY v ds 0 (bif gh ds then .ret (cC ps (.tree (bh v ds 0)) (.tups (dD id v ds 0 0)))
   else .ret (match ps with | []=>.val (.tups (dD id v ds 0 0)) | _=>.gen ps (.tups (dD id v ds 0 0)))))).All fun e=>e.plain=true→cU e∨cX e:=by
  intro ds
  refine pN ?_ ds 0
  exact aE iT tH
 match ds with
 | []=>exact many []
 | [d] =>
  simp only [tq]
  refine kE ?_
  split
  ·exact aE iT tH
  ·exact trivial
 | d :: d' :: l=>exact many _
theorem BR {ds:List TyD} {v:TV} {k:AV→Out} {p:Eff→Prop} (h:∀ av,(k av).All p):(Bo id ds v k).All p:=by
 have some:∀ (ds:List TyD) (j:Nat) (k:Out),k.All p→(fY v ds j k).All p:=by
  intro ds
  induction ds with
  | nil=>intro j k h; exact h
  | cons d ds ih=>intro j k h; exact kE (ih (j + 1) k h)
 unfold Bo
 split
 ·refine kE ?_
  split
  ·exact h _
  ·exact trivial
 ·exact some _ 0 _ (h _)
theorem Ad {f:FuncId} {ld:fg} {vs:List AV}:(oC E id look f ld vs).All fun e=>e.plain=true→cU e∨cX e:=by
 unfold oC
 split
 ·split
  ·refine aE trivial ?_
   exact oR fun xs rs=>dN fun ys qs ts=>aE (fun v=>BR fun av=>fun h=>by simp [Eff.plain] at h) trivial
  ·exact trivial
 ·exact trivial
theorem Ai {f:FuncId} {c:Nat × Nat} {vs:List AV}:(np look f c vs).All fun e=>e.plain=true→cU e∨cX e:=by
 unfold np
 split
 ·split
  ·split
   ·exact aE (fO fun xs=>fun v=>fun _=>.inl ⟨_,rfl⟩) trivial
   ·exact trivial
  ·exact trivial
 ·exact trivial
theorem t8 {p:Eff→Prop} {q:Way} {x y:TV} {k:TV→Out} (h:∀ y,(k y).All p):(vV q x y k).All p:=by
 unfold vV
 split
 ·exact h _
 ·exact fun v=>h _
theorem zQ {f:FuncId} {vs:List AV}:(lI look f vs).All fun e=>e.plain=true→cU e∨cX e:=by
 unfold lI
 split
 ·split
  ·exact iD fun z=>fO fun xs=>fun v=>fun y=>t8 fun x'=>fun h=>by cases h
  ·exact trivial
 ·split
  ·exact iD fun z=>fun z1=>fO fun xs=>fun v=>fun y=>t8 fun x'=>fun h=>by cases h
  ·exact trivial
 ·exact trivial
theorem BE {f:FuncId} {i:Nat} {vs:List AV}:(xu E id look f i vs).All fun e=>e.plain=true→cU e∨cX e:=by
 unfold xu
 refine aE ?_ trivial
 split
 ·split
  ·exact fO fun xs=>fun v=>rq
  ·exact trivial
 ·exact trivial
theorem cls_B {op:Op} (h:ao op=.B) (vs:List AV):(opL E id look op vs).All fun e=>e.plain=true→cU e∨cX e:=by
 cases op with
 | buildSlice t len parts =>
  simp only [opL]
  refine aE ?_ ?_
  ·unfold s6
   split
   ·refine oD (fun cs=>?_) _ _ _
    split
    ·exact aE (fun _=>.inr ⟨_,_,rfl⟩) trivial
    ·exact trivial
   ·exact trivial
  unfold ix
  split
  ·refine oD (fun cs=>?_) _ _ _
   refine dS fun ys qs ts=>?_
   exact aE iT trivial
  ·exact trivial
 | call c =>
  obtain ⟨callee,args,tys⟩:=c
  cases callee with
  | builtin b=>cases b <;> simp [ao] at h
  | value f =>
   cases f with
   | func f =>
    rcases vs with _ | ⟨v,r⟩
    ·exact trivial
    ·simp only [opL,mH]
     refine aE zQ (aE trivial ?_)
     split
     ·exact Ai
     split
     ·exact Ad
     ·split
      ·refine aE ?_ ?_
       ·exact fO fun xs=>fun v=>rq
       ·exact oR fun xs rs=>aE (fun v=>rq) trivial
      ·exact trivial
   | tmp t =>
    rcases vs with _ | ⟨v,r⟩
    ·exact trivial
    ·simp only [opL]
     split
     ·exact fun f=>fO fun xs v=>fun _=>.inl ⟨_,rfl⟩
     ·split
      ·exact BE
      ·exact trivial
   | _=>simp [ao] at h
  | invoke r m=>simp [ao] at h
 | _=>simp [ao] at h
abbrev isUpd (look:Look) (e:Eff):Prop:=∃ i b v,e=.upd i b v∧(look i).isSome=true
theorem Cy {op : Op} (h : ao op = .W) (vs : List AV) : (opL E id look op vs).All fun e => e.plain = true → isUpd look e := by
 cases op with
 | store t x y =>
  rcases vs with _ | ⟨v,_ | ⟨v',_ | ⟨v'',r⟩⟩⟩ <;> first | exact trivial | skip
  simp only [opL]
  split
  ·unfold vh
   split
   ·refine aE trivial ?_
    split
    ·rename_i cs xs hrow
     refine dW (fun ps=>?_)
     split
     ·exact fun _=>⟨_,_,_,rfl,by simp [(iU hrow).1]⟩
     ·exact trivial
    ·exact trivial
   ·refine dW (fun ps=>?_)
    split
    ·rename_i cs hl
     exact aE (fun _=>⟨_,_,_,rfl,by simp [hl]⟩) trivial
    ·exact trivial
   ·refine dW (fun ps=>?_)
    split
    ·refine aE trivial (aE ?_ ?_)
     ·refine dN fun ys qs ts=>aE ?_ trivial
      exact iD fun s e=>fun x' hp=>by cases hp
     ·refine dN fun ys qs ts=>?_
      split
      ·refine aE ?_ trivial
       refine iD fun s e=>?_
       simp only [Prg.All]
       intro x'
       split
       ·rename_i b hb
        refine fun _=>⟨_,_,_,rfl,?_⟩
        unfold bS at hb
        split at hb
        ·rename_i hl; simp [hl]
        ·cases hb
       ·exact trivial
      ·exact trivial
    ·exact trivial
   ·exact trivial
  ·exact trivial
 | call c =>
  obtain ⟨callee,args,tys⟩:=c
  cases callee with
  | builtin b=>cases b <;> simp [ao] at h
  | value f=>cases f <;> simp [ao] at h
  | invoke r m=>simp [ao] at h
 | _=>simp [ao] at h
theorem pZ {d:TyD} {s:AV} {news:List (List TV)} {ps:List Prim}:(mm id look d s news ps).All fun e=>e.plain=true→cU e∨cX e:=by
 unfold mm
 split
 ·exact aE (fun y=>iT) trivial
 ·split
  ·split
   ·split
    ·exact fun y h=>by cases h
    ·exact fun z y x' h=>by cases h
   ·exact trivial
  ·split
   ·split
    ·exact fun z y h=>by cases h
    ·exact fun z0 z y x' h=>by cases h
   ·exact trivial
  ·exact trivial
theorem CH {d:TyD} {dest:Option Nat} {x:AV} {k:List (List TV)→List Prim→Out} (h:∀ xs ps,(k xs ps).All p):(wI look d dest x k).All p:=by
 unfold wI
 split
 ·exact fun xs=>h _ _
 ·split
  ·refine aE ?_ ?_
   ·split
    ·split
     ·split
      ·exact aE trivial (fun xs=>h _ _)
      ·exact fun y=>fun xs=>h _ _
     ·exact trivial
    ·split
     ·split
      ·exact aE trivial (fun y xs=>h _ _)
      ·exact fun z y=>fun xs=>h _ _
     ·exact trivial
    ·exact trivial
   ·exact fy (fun s xs=>h _ _)
  ·exact trivial
theorem cls_P {op:Op} (h:ao op=.P) (vs:List AV):(opL E id look op vs).All fun e=>e.plain=true→cU e∨cX e:=by
 cases op with
 | call c =>
  obtain ⟨callee,args,tys⟩:=c
  cases callee with
  | builtin b =>
   cases b <;> simp [ao] at h
   simp only [opL]
   unfold dV
   split <;> try (first | exact trivial | contradiction)
   split
   ·refine aE ?_ ?_
    ·unfold nV
     exact aE (CH (fun xs ps=>pZ)) trivial
    ·split
     ·unfold lH
      refine aE ?_ trivial
      split
      ·exact fun news=>pZ
      ·exact trivial
     ·exact trivial
   ·exact trivial
  | value f=>cases f <;> simp [ao] at h
  | invoke r m=>simp [ao] at h
 | _=>simp [ao] at h
theorem ul {op:Op} (h:ao op=.N∨ao op=.A) (vs:List AV):opL E id look op vs=opL E id look' op vs:=by
 cases op <;> first
  | (rcases vs with _ | ⟨a,_ | ⟨b,_ | ⟨c,_ | ⟨d,r⟩⟩⟩⟩ <;> rfl)
  | (simp [ao] at h; done)
  | (rename_i fn _ _; cases fn <;> rfl)
  | (rename_i ok; cases ok <;> rcases vs with _ | ⟨a,_ | ⟨b,r⟩⟩ <;> rfl)
  | skip
 all_goals
  rename_i c
  obtain ⟨callee,args,tys⟩:=c
  cases callee with
  | builtin b=>cases b <;> simp [ao] at h
  | value f=>cases f <;> simp [ao] at h
  | invoke r m=>simp [ao] at h
end
end Go.Ab
end

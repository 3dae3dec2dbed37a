import Derived.Test.YtfnpejmlcbkepaaIM12b
set_option linter.all false
section
namespace Go.Ab
open Go.RowKit
structure gE (P:Program) (G:Laid) (E:Env) (C:Cal):Prop where
 ty:∀ t d,E.T t=some d→aM P t d
 call:wg P G E C
section
variable {P:Program} {E:Env} {C:Cal} {w0:Bs} {w w':World} {I0 I R:Nat→Prop} {g g':Gh} {st st':ASt} {a:Act} {ov:List Value} {look:Look} {Q:Exit→Act→World→Prop} {id:Nat}
theorem Bv (hE:gE P w0.G E C) (hlk:∀ i b,look i=some b→st.look i=some b) (hs:aj w0 I0 NoR g st a ov w) {o:Oper} {e:Eff} (hh:(opL E (st.nid o.dst) look o.op (o.op.operands.toList.map st.ev)).hits C e) (ha:e.app st o.dst=some st') :
  Good P w0 I0 ov o st' a w Q:=by
 obtain ⟨dst,op,type,pos,after,guard⟩:=o
 cases op with
 | move x=>exact CU hs hh ha
 | assign x=>exact zV hs hh ha
 | pick c x y=>exact CJ hs hh ha
 | alloc t=>exact Bo hE.ty hs hh ha
 | box t x=>exact op_box hE.ty hs hh ha
 | build t parts=>exact Cy hE.ty hs hh ha
 | makeFunc fn first cap=>exact wm hs hh ha
 | buildSlice t len parts =>
  simp only [opL] at hh
  cases hc:E.cold t && !(len.beq 0) with
  | true=>rw [hc] at hh; exact Dc hE.ty hlk hs hh ha
  | false=>rw [hc] at hh; exact te hE.ty hlk hs hh ha
 | load t x=>exact Dq hE.ty hlk hs hh ha
 | store t x y=>exact Cu hE.ty hlk hs hh ha
 | nilCheck x=>exact wl hs hh ha
 | binOp op xt x y yt=>exact op_bin hE.ty hlk hs hh ha
 | unOp op xt x=>exact op_un hs hh ha
 | convert xt dt x=>exact xC hE.ty hlk hs hh ha
 | makeSlice t x y=>exact ve hE.ty hs hh ha
 | makeInterface t x=>exact op_ifc hE.ty hs hh ha
 | typeAssert x xt t ok=>exact Dy hE.ty hs hh ha
 | slice t x lo hi mx=>exact Cl hE.ty hlk hs hh ha
 | fieldAddr t x f=>exact vy hE.ty hs hh ha
 | field t x f=>exact Bi hE.ty hs hh ha
 | indexAddr t x y=>exact vl hE.ty hlk hs hh ha
 | index t x y=>exact Be hE.ty hs hh ha
 | extract x j=>exact yd hs hh ha
 | call c =>
  obtain ⟨callee,args,tys⟩:=c
  cases callee with
  | builtin b =>
   have hops:(Op.call ⟨.builtin b,args,tys⟩).operands.toList=args.toList:=by simp [Op.operands,Call.operands]
   simp only [hops] at hh
   simp only [opL] at hh
   unfold dT at hh
   split at hh
   ·rename_i x ty hargs htys
    obtain ⟨ox,rfl,hox⟩:=list1 hargs
    have:=arr1 htys
    subst this
    split at hh
    ·rename_i d hT
     rw [← hox] at hh
     exact x6 hlk hs (hE.ty _ _ hT) hh ha
    ·exact hh.elim
   ·rename_i s x ty ty' hargs htys
    obtain ⟨os,ox,rfl,hos,hox⟩:=list2 hargs
    have:=arr2 htys
    subst this
    split at hh
    ·rename_i e1 d hel
     cases hb:Nat.beq ty ty' with
     | false =>
      simp only [hb,cond_false] at hh
      split at hh
      ·rename_i hu
       rw [← hos,← hox] at hh
       exact sA hE.ty hlk hs hel hu rfl hh ha
      ·exact hh.elim
     | true =>
      simp only [hb,cond_true] at hh
      have:=(aq _ _).1 hb
      subst this
      rw [← hos,← hox] at hh
      exact s6 hE.ty hlk hs hel hh ha
    ·exact hh.elim
   ·rename_i s x ty ty' hargs htys
    obtain ⟨os,ox,rfl,hos,hox⟩:=list2 hargs
    have:=arr2 htys
    subst this
    split at hh
    ·rename_i e1 d hel
     cases hb:Nat.beq ty ty' with
     | false=>simp [hb,Prg.hits] at hh
     | true =>
      simp only [hb,cond_true] at hh
      have:=(aq _ _).1 hb
      subst this
      rw [← hos,← hox] at hh
      exact vJ hE.ty hlk hs hel hh ha
    ·exact hh.elim
   ·rename_i s ty hargs htys
    obtain ⟨os,rfl,hos⟩:=list1 hargs
    have:=arr1 htys
    subst this
    split at hh
    ·rename_i e1 d hel
     rw [← hos] at hh
     exact uX hE.ty hlk hs hel hh ha
    ·exact hh.elim
   ·rename_i x y hargs
    obtain ⟨ox,oy,rfl,hox,hoy⟩:=list2 hargs
    rw [← hox,← hoy] at hh
    exact rd hs hh ha
   ·rename_i x y hargs
    obtain ⟨ox,oy,rfl,hox,hoy⟩:=list2 hargs
    rw [← hox,← hoy] at hh
    exact rd hs hh ha
   ·exact hh.elim
  | value f =>
   cases f with
   | func f =>
    have hops:(Op.call ⟨.value (.func f),args,tys⟩).operands.toList=.func f :: args.toList:=by simp [Op.operands,Call.operands]
    simp only [hops,List.map_cons] at hh
    exact CL hE.call hE.ty hlk hs hh ha
   | tmp t =>
    have hops:(Op.call ⟨.value (.tmp t),args,tys⟩).operands.toList=.tmp t :: args.toList:=by simp [Op.operands,Call.operands]
    simp only [hops,List.map_cons] at hh
    exact op_dyn hE.call hE.ty hlk hs hh ha
   | _=>simp [opL,Prg.hits] at hh
  | invoke r m=>simp [opL,Prg.hits] at hh
 | _=>simp [opL,Prg.hits] at hh
def AV.nf:AV→AV
 | .one (.t (.lit (.bool b)))=>.bl b
 | .tv (.lit (.bool b))=>.bl b
 | v=>v
def Eff.nfE:Eff→Eff
 | .val v=>.val v.nf
 | .new b v=>.new b v.nf
 | .upd i b v=>.upd i b v.nf
 | .gen ps v=>.gen ps v.nf
def ASt.nfS (st:ASt):ASt:=⟨st.slots.map AV.nf,st.boxes,st.out⟩
theorem aC (v:AV):v.nf=v∨∃ b,v.nf=.bl b∧(v=.one (.t (.lit (.bool b)))∨v=.tv (.lit (.bool b))):=by
 unfold AV.nf
 split
 ·exact .inr ⟨_,rfl,.inl rfl⟩
 ·exact .inr ⟨_,rfl,.inr rfl⟩
 ·exact .inl rfl
theorem uG (v:AV):v.nf.nf=v.nf:=by
 rcases aC v with h | ⟨b,h,_⟩
 ·rw [h,h]
 ·rw [h]; rfl
theorem ga (v:AV):v.nf.tv? = v.tv? := by
 rcases aC v with h | ⟨b,h,rfl | rfl⟩
 ·rw [h]
 ·rfl
 ·rfl
theorem Bz {v:AV} {u:Value}:bD w g look v.nf u ↔ bD w g look v u:=by
 rcases aC v with h | ⟨b,h,rfl | rfl⟩
 ·rw [h]
 ·rw [h]
  constructor
  ·intro h'
   have:u=.bool b:=h'
   subst this
   exact ⟨.lit _,rfl⟩
  ·intro h'
   exact bp h'.1
 ·rw [h]
  constructor
  ·intro h'
   have:u=.bool b:=h'
   subst this
   exact .lit _
  ·intro h'
   exact bp h'
theorem lP (v:AV):v.nf.dG=v.dG:=by
 rcases aC v with h | ⟨b,h,rfl | rfl⟩
 ·rw [h]
 ·rw [h]; rfl
 ·rw [h]; rfl
theorem bY (e:Eff):dg e.nfE=dg e:=by cases e <;> simp only [Eff.nfE,dg,lP]
theorem nZ (e:Eff):e.nfE.plain=e.plain:=by cases e <;> rfl
theorem wM (base:Nat) (own:List (List Nat × List Nat)) (e:Eff):e.nfE.mF base own=e.mF base own:=by cases e <;> rfl
theorem wk {S:Type} {agg:Bool} {n:Nat} {v:AV} {k k':List CA→Prg S} {e:S} (hk:∀ cs,(k cs).hits C e→(k' cs).hits C e) (h:(v.aS agg n k).hits C e):(v.aS agg n k').hits C e:=by
 unfold AV.aS at h ⊢
 split at h
 ·rename_i c
  cases hc:c.kept with
  | true=>rw [hc] at h; exact hk _ h
  | false=>rw [hc] at h; exact h.elim
 ·exact ⟨h.1,hk _ h.2⟩
 ·exact hk _ h
 ·exact hk _ h
 ·rename_i cs
  cases hc:cs.length.beq n with
  | true=>rw [hc] at h; exact hk _ h
  | false=>rw [hc] at h; exact h.elim
 ·exact ⟨h.1,hk _ h.2⟩
 ·exact h.elim
theorem eW {S:Type} {agg:Bool} {n:Nat} {v:AV} {k:List CA→Prg S} {e:S} (h:(v.aS agg n k).hits C e):(v.nf.aS agg n k).hits C e:=by
 rcases aC v with h1 | ⟨b,h1,rfl | rfl⟩
 ·rwa [h1]
 ·rw [h1]
  cases agg with
  | false=>exact h
  | true=>exact h.elim
 ·rw [h1]
  cases agg with
  | false=>exact h.2
  | true=>exact (by simp [AV.aS,TV.isAgg,Prg.hits] at h)
theorem li {S:Type} {e:S}:∀ {vs:List AV} {k:List CA→Prg S},(j3 vs k).hits C e→(j3 (vs.map AV.nf) k).hits C e
 | [],k,h=>h
 | x :: vs, k, h => by
  simp only [j3,List.map_cons] at h ⊢
  refine eW ?_
  unfold AV.aS at h ⊢
  split at h
  ·rename_i c _
   cases hc:c.kept with
   | false=>simp [hc,Prg.hits] at h
   | true=>simp only [hc,cond_true] at h ⊢; exact li h
  ·exact ⟨h.1,li h.2⟩
  ·exact li h
  ·exact li h
  ·rename_i cs' hb; cases hb
  ·rename_i cs' hb; cases hb
  ·exact h.elim
theorem jI {f:FuncId} {e:Eff}:∀ {vs:List AV} {k:List CA→List CA},(j3 vs fun cs=>(.ret (.val (.clo f (k cs))):Out)).hits C e→∃ cs,e=.val (.clo f cs)
 | [],k,h=>⟨_,h.symm⟩
 | x :: vs, k, h => by
  simp only [j3] at h
  unfold AV.aS at h
  split at h
  ·rename_i c _
   cases hc:c.kept with
   | false=>simp [hc,Prg.hits] at h
   | true=>simp only [hc,cond_true] at h; exact jI (k:=fun cs=>k (_ ++ cs)) h
  ·exact jI (k:=fun cs=>k (_ ++ cs)) h.2
  ·exact jI (k:=fun cs=>k (_ ++ cs)) h
  ·exact jI (k:=fun cs=>k (_ ++ cs)) h
  ·rename_i hb; cases hb
  ·rename_i hb; cases hb
  ·exact h.elim
theorem qL {S:Type} {at_:Nat→Option (Nat × Bool × Nat)} {k:List CA→Prg S} {e:S}:∀ {is:List Nat} {vs:List AV} {cs:List CA},(bL at_ is vs cs k).hits C e→(bL at_ is (vs.map AV.nf) cs k).hits C e
 | [],[],cs,h=>h
 | i :: is, x :: vs, cs, h => by
  simp only [bL,List.map_cons] at h ⊢
  split at h
  ·rename_i off agg n hat
   have key:∀ ps,((bif (off + ps.length).ble cs.length && ps.length.beq n then bL at_ is vs (bR cs off ps) k else .fail):Prg S).hits C e→((bif (off + ps.length).ble cs.length && ps.length.beq n then bL at_ is (vs.map AV.nf) (bR cs off ps) k else .fail):Prg S).hits C e:=by
    intro ps hp
    cases hb:(off + ps.length).ble cs.length && ps.length.beq n with
    | false=>simp [hb,Prg.hits] at hp
    | true=>simp only [hb,cond_true] at hp ⊢; exact qL hp
   refine eW ?_
   unfold AV.aS at h ⊢
   split at h
   ·rename_i c
    cases hc:c.kept with
    | false=>simp [hc,Prg.hits] at h
    | true=>simp only [hc,cond_true] at h ⊢; exact key _ h
   ·exact ⟨h.1,key _ h.2⟩
   ·exact key _ h
   ·exact key _ h
   ·rename_i cs'
    have:=key cs'
    cases hc:cs'.length.beq n with
    | false=>simp [hc,Prg.hits] at h
    | true=>simp only [hc,cond_true] at h this ⊢; exact this h
   ·exact ⟨h.1,key _ h.2⟩
   ·exact h.elim
  ·exact h.elim
 | [],_ :: _,cs,h=>h.elim
 | _ :: _,[],cs,h=>h.elim
theorem vq {S:Type} {v:AV} {k:TV→Prg S}:s8 look v.nf k=s8 look v k:=by
 rcases aC v with h | ⟨b,h,rfl | rfl⟩
 ·rw [h]
 ·rfl
 ·rfl
theorem AP {S:Type} {v:AV} {k:TV→Prg S}:sK look v.nf k=sK look v k:=by
 rcases aC v with h | ⟨b,h,rfl | rfl⟩
 ·rw [h]
 ·rfl
 ·rfl
theorem BG {S:Type} {v:AV} {k:TV→List (Nat × Nat)→Prg S}:ry look v.nf k=ry look v k:=by
 rcases aC v with h | ⟨b,h,rfl | rfl⟩
 ·rw [h]
 ·rfl
 ·rfl
theorem jy {S:Type}:∀ {vs:List AV} {k:List TV→Prg S},lends look (vs.map AV.nf) k=lends look vs k
 | [],k=>rfl
 | v :: vs,k=>by simp only [List.map_cons,lends,AP,jy]
theorem sL {S:Type}:∀ {vs:List AV} {k:List TV→List (Nat × Nat)→Prg S},hands look (vs.map AV.nf) k=hands look vs k
 | [],k=>rfl
 | v :: vs,k=>by simp only [List.map_cons,hands,BG,sL]
theorem AQ {E:Env} {id:Nat} {look:Look} {f:FuncId} {ld:eY} (vs:List AV):nz E id look f ld (vs.map AV.nf)=nz E id look f ld vs:=by
 cases vs with
 | nil=>rfl
 | cons v l =>
  rcases aC v with h | ⟨b,h,rfl | rfl⟩
  ·simp only [List.map_cons,h]
   cases v with
   | one c =>
    cases c with
    | ptr i off =>
     cases off with
     | zero=>simp only [nz,sL]
     | succ n=>rfl
    | _=>rfl
   | _=>rfl
  ·simp only [List.map_cons,h]; rfl
  ·simp only [List.map_cons,h]; rfl
theorem Cs {look:Look} {f:FuncId} {c:Nat × Nat} (vs:List AV):oA look f c (vs.map AV.nf)=oA look f c vs:=by
 cases vs with
 | nil=>rfl
 | cons v l =>
  rcases aC v with h | ⟨b,h,rfl | rfl⟩
  ·simp only [List.map_cons,h]
   cases v with
   | one c =>
    cases c with
    | ptr i off =>
     cases off with
     | zero=>simp only [oA,jy]
     | succ n=>rfl
    | _=>rfl
   | _=>rfl
  ·simp only [List.map_cons,h]; rfl
  ·simp only [List.map_cons,h]; rfl
theorem Cx {look:Look} {f:FuncId} (vs:List AV):la look f (vs.map AV.nf)=la look f vs:=by
 cases vs with
 | nil=>rfl
 | cons v l =>
  rcases aC v with h | ⟨b,h,rfl | rfl⟩
  ·simp only [List.map_cons,h]
   cases v with
   | one c=>cases c <;> simp only [la,jy]
   | _=>rfl
  ·simp only [List.map_cons,h]; rfl
  ·simp only [List.map_cons,h]; rfl
theorem C3 {E:Env} {id:Nat} {look:Look} {f:FuncId} {i:Nat} (vs:List AV):wO E id look f i (vs.map AV.nf)=wO E id look f i vs:=by
 simp only [wO,jy]
theorem CQ (d:TyD) (t:TypeId) (v:AV):A5 d t v.nf=A5 d t v:=by
 rcases aC v with h | ⟨b,h,rfl | rfl⟩
 ·rw [h]
 ·rfl
 ·rfl
theorem BI (d:TyD) (t:TypeId) (v:AV):tM d t v.nf=tM d t v:=by
 simp only [tM,ga]
theorem zX {S:Type} {v:Option AV} {k:Option Nat→Prg S}:fq (v.map AV.nf) k=fq v k:=by
 cases v with
 | none=>rfl
 | some v=>simp only [fq,Ei,ga]
theorem tr (v:AV):rT v.nf=rT v:=by
 rcases aC v with h | ⟨b,h,rfl | rfl⟩
 ·rw [h]
 ·rfl
 ·rfl
theorem yU {S:Type} {d:TyD} {dest:Option Nat} {v:AV} {k:List (List TV)→List Prim→Prg S}:xh look d dest v.nf k=xh look d dest v k:=by
 rcases aC v with h | ⟨b,h,rfl | rfl⟩
 ·rw [h]
 ·rfl
 ·rfl
theorem lZ {kd:Kd} {sz:Nat} {x:AV} {lo hi:Option AV}:iD look kd sz x.nf (lo.map AV.nf) (hi.map AV.nf)=iD look kd sz x lo hi:=by
 simp only [iD,ga,zX]
 rcases aC x with h | ⟨b,h,rfl | rfl⟩
 ·rw [h]
  cases lo <;> rfl
 ·rfl
 ·rfl
theorem AW (v:AV):tQ v.nf=tQ v:=by
 rcases aC v with h | ⟨b,h,rfl | rfl⟩
 ·rw [h]
 ·rfl
 ·rfl
theorem opL_nf {op : Op} {vs : List AV} {e : Eff} (h : (opL E id look op vs).hits C e) : ∃ e', (opL E id look op (vs.map AV.nf)).hits C e' ∧ e'.nfE = e.nfE := by
 cases op with
 | move x =>
  rcases vs with _ | ⟨v,_ | ⟨v',r⟩⟩ <;> first | exact h.elim | skip
  cases h
  exact ⟨_,rfl,by simp [Eff.nfE,uG]⟩
 | assign x =>
  rcases vs with _ | ⟨v,_ | ⟨v',r⟩⟩ <;> first | exact h.elim | skip
  cases h
  exact ⟨_,rfl,by simp [Eff.nfE,uG]⟩
 | pick c x y =>
  rcases vs with _ | ⟨v,_ | ⟨v',_ | ⟨v'',_ | ⟨v3,r⟩⟩⟩⟩ <;> first | exact h.elim | skip
  simp only [opL] at h
  split at h
  ·rename_i b
   cases h
   refine ⟨_,rfl,?_⟩
   cases b <;> simp [Eff.nfE,uG]
  ·rename_i v
   obtain ⟨b,hb,h⟩:=h
   have hv:v=.lit (.bool b):=by
    unfold asBool at hb
    split at hb
    ·cases hb; rfl
    ·cases hb
   subst hv
   rcases h with ⟨rfl,h⟩ | ⟨rfl,h⟩ <;> (cases h; exact ⟨_,rfl,by simp [Eff.nfE,uG]⟩)
  ·rename_i v
   obtain ⟨b,hb,h⟩:=h
   have hv:v=.lit (.bool b):=by
    unfold asBool at hb
    split at hb
    ·cases hb; rfl
    ·cases hb
   subst hv
   rcases h with ⟨rfl,h⟩ | ⟨rfl,h⟩ <;> (cases h; exact ⟨_,rfl,by simp [Eff.nfE,uG]⟩)
  ·exact h.elim
 | alloc t =>
  rcases vs with _ | ⟨v,r⟩ <;> first | exact h.elim | exact ⟨e,h,rfl⟩
 | box t x =>
  rcases vs with _ | ⟨v,_ | ⟨v',r⟩⟩ <;> first | exact h.elim | skip
  refine ⟨e,?_,rfl⟩
  simp only [opL,List.map_cons,List.map_nil] at h ⊢
  split at h
  ·exact eW h
  ·exact h.elim
 | makeFunc fn first cap =>
  cases fn with
  | func f =>
   have:∃ cs,e=.val (.clo f cs):=by
    simp only [opL] at h
    cases hb:first.size.beq 0 with
    | false=>simp [hb,Prg.hits] at h
    | true =>
     simp only [hb,cond_true] at h
     exact jI (k:=fun l=>l) h
   obtain ⟨cs,rfl⟩:=this
   refine ⟨_,?_,rfl⟩
   simp only [opL] at h ⊢
   cases hb:first.size.beq 0 with
   | false=>simp [hb,Prg.hits] at h
   | true=>simp only [hb,cond_true] at h ⊢; exact li h
  | _=>exact h.elim
 | build t parts =>
  refine ⟨e,?_,rfl⟩
  simp only [opL] at h ⊢
  split at h
  ·rename_i d hd
   cases hb:lJ E.T d.kd with
   | false=>simp [hb,Prg.hits] at h
   | true=>simp only [hb,cond_true] at h ⊢; exact qL h
  ·exact h.elim
 | buildSlice t len parts =>
  refine ⟨e,?_,rfl⟩
  simp only [opL] at h ⊢
  cases hc:E.cold t && !(len.beq 0) with
  | true =>
   rw [hc] at h
   simp only [cond_true] at h ⊢
   unfold rL at h ⊢
   split at h
   ·exact qL h
   ·exact h.elim
  | false =>
   rw [hc] at h
   simp only [cond_false] at h ⊢
   unfold iB at h ⊢
   split at h
   ·exact qL h
   ·exact h.elim
 | load t x =>
  rcases vs with _ | ⟨v,_ | ⟨v',r⟩⟩ <;> first | exact h.elim | skip
  refine ⟨e,?_,rfl⟩
  rcases aC v with h1 | ⟨b,h1,rfl | rfl⟩
  ·simpa only [List.map_cons,List.map_nil,h1] using h
  ·simp only [opL] at h; split at h <;> exact h.elim
  ·simp only [opL] at h; split at h <;> exact h.elim
 | store t x y =>
  rcases vs with _ | ⟨v,_ | ⟨v',_ | ⟨v'',r⟩⟩⟩ <;> first | exact h.elim | skip
  refine ⟨e,?_,rfl⟩
  simp only [opL,List.map_cons,List.map_nil] at h ⊢
  split at h
  ·rcases aC v with h1 | ⟨b,h1,rfl | rfl⟩
   ·rw [h1]
    unfold uY at h ⊢
    split at h
    ·rename_i e0 _ _ i0 off0 len0 n0
     cases hk0:e0.kd.isAgg with
     | true=>rw [hk0] at h; exact h.elim
     | false =>
      rw [hk0] at h
      simp only [cond_false] at h ⊢
      split at h
      ·exact eW h
      ·exact h.elim
    ·exact eW h
    ·exact eW h
    ·exact h.elim
   ·exact h.elim
   ·exact h.elim
  ·exact h.elim
 | nilCheck x =>
  rcases vs with _ | ⟨v,_ | ⟨v',r⟩⟩ <;> first | exact h.elim | skip
  refine ⟨e,?_,rfl⟩
  rcases aC v with h1 | ⟨b,h1,rfl | rfl⟩
  ·simpa only [List.map_cons,List.map_nil,h1] using h
  ·exact h.elim
  ·exact h.elim
 | binOp op xt x y yt =>
  rcases vs with _ | ⟨v,_ | ⟨v',_ | ⟨v'',r⟩⟩⟩ <;> first | exact h.elim | skip
  refine ⟨e,?_,rfl⟩
  simp only [opL,List.map_cons,List.map_nil] at h ⊢
  split at h
  ·unfold CT at h ⊢
   split at h
   ·split at h
    ·exact eW (wk (fun cs h=>eW h) h)
    ·exact h.elim
   ·simp only [Dg,AW] at h ⊢
    exact h
   ·simp only [Dj,vq,ga] at h ⊢
    exact h
  ·exact h.elim
 | unOp op xt x =>
  rcases vs with _ | ⟨v,_ | ⟨v',r⟩⟩ <;> first | exact h.elim | skip
  rcases aC v with h1 | ⟨b,h1,h2⟩
  ·refine ⟨e,?_,rfl⟩
   simpa only [List.map_cons,List.map_nil,h1] using h
  ·have hv:∃ t,(opL E id look (.unOp op xt x) [v]).hits C e→(Prg.tv (pun op (.lit (.bool b))) vt).hits C e:=⟨(),by rcases h2 with rfl | rfl <;> intro h <;> cases op <;> exact h⟩
   obtain ⟨_,hv⟩:=hv
   obtain ⟨z,hz,hh⟩:=hv h
   cases op with
   | not =>
    simp only [pun,D7] at hz
    subst hz
    cases hh
    refine ⟨.val (.bl !b),?_,rfl⟩
    simp only [List.map_cons,List.map_nil,h1]
    rfl
   | _=>simp [pun] at hz
 | convert xt dt x =>
  rcases vs with _ | ⟨v,_ | ⟨v',r⟩⟩ <;> first | exact h.elim | skip
  refine ⟨e,?_,rfl⟩
  simp only [opL,List.map_cons,List.map_nil,zn,ga,vq] at h ⊢
  exact h
 | makeSlice t x y =>
  rcases vs with _ | ⟨v,_ | ⟨v',_ | ⟨v'',r⟩⟩⟩ <;> first | exact h.elim | skip
  refine ⟨e,?_,rfl⟩
  simp only [opL,List.map_cons,List.map_nil,ga] at h ⊢
  exact h
 | slice t x lo hi mx =>
  refine ⟨e,?_,rfl⟩
  cases mx with
  | some m=>rcases vs with _ | ⟨v,r⟩ <;> exact h.elim
  | none =>
   rcases vs with _ | ⟨v,r⟩
   ·exact h.elim
   ·simp only [opL, List.map_cons] at h ⊢
    split at h
    ·rename_i d hT
     split at h
     ·rename_i sz hsz
      cases lo with
      | none =>
       cases hi with
       | none =>
        rcases r with _ | ⟨l,r⟩
        ·have:=lZ (look:=look) (kd:=d.kd) (sz:=sz) (x:=v) (lo:=none) (hi:=none)
         simp only [Option.map_none] at this
         simp only [List.map_nil]
         rw [this]; exact h
        ·exact h.elim
       | some hh =>
        rcases r with _ | ⟨l,_ | ⟨l',r⟩⟩
        ·exact h.elim
        ·have:=lZ (look:=look) (kd:=d.kd) (sz:=sz) (x:=v) (lo:=none) (hi:=some l)
         simp only [Option.map_none,Ei] at this
         simp only [List.map_cons,List.map_nil]
         rw [this]; exact h
        ·exact h.elim
      | some ll =>
       cases hi with
       | none =>
        rcases r with _ | ⟨l,_ | ⟨l',r⟩⟩
        ·exact h.elim
        ·have:=lZ (look:=look) (kd:=d.kd) (sz:=sz) (x:=v) (lo:=some l) (hi:=none)
         simp only [Option.map_none,Ei] at this
         simp only [List.map_cons,List.map_nil]
         rw [this]; exact h
        ·exact h.elim
       | some hh =>
        rcases r with _ | ⟨l,_ | ⟨l',_ | ⟨l'',r⟩⟩⟩
        ·exact h.elim
        ·exact h.elim
        ·have:=lZ (look:=look) (kd:=d.kd) (sz:=sz) (x:=v) (lo:=some l) (hi:=some l')
         simp only [Ei] at this
         simp only [List.map_cons,List.map_nil]
         rw [this]; exact h
        ·exact h.elim
     ·exact h.elim
    ·exact h.elim
 | fieldAddr t x f =>
  rcases vs with _ | ⟨v,_ | ⟨v',r⟩⟩ <;> first | exact h.elim | skip
  refine ⟨e,?_,rfl⟩
  rcases aC v with h1 | ⟨b,h1,rfl | rfl⟩
  ·simpa only [List.map_cons,List.map_nil,h1] using h
  ·simp only [opL] at h
   split at h
   ·rename_i hv
    cases hv
    split at h
    ·rename_i n _ _
     cases hb:Nat.blt 0 n <;> simp [hb,CA.add,Prg.hits] at h
    ·exact h.elim
   ·exact h.elim
  ·simp only [opL] at h
   split at h
   ·rename_i hv; cases hv
   ·exact h.elim
 | field t x f =>
  rcases vs with _ | ⟨v,_ | ⟨v',r⟩⟩ <;> first | exact h.elim | skip
  refine ⟨e,?_,rfl⟩
  rcases aC v with h1 | ⟨b,h1,rfl | rfl⟩
  ·simpa only [List.map_cons,List.map_nil,h1] using h
  ·simp only [opL] at h
   split at h
   ·split at h <;> exact h.elim
   ·exact h.elim
  ·simp only [opL] at h
   split at h
   ·split at h
    ·simp [uT,TV.isAgg,Prg.hits] at h
    ·exact h.elim
   ·exact h.elim
 | indexAddr t x y =>
  rcases vs with _ | ⟨v,_ | ⟨v',_ | ⟨v'',r⟩⟩⟩ <;> first | exact h.elim | skip
  refine ⟨e,?_,rfl⟩
  simp only [opL,List.map_cons,List.map_nil] at h ⊢
  split at h
  ·rcases aC v with h1 | ⟨b,h1,rfl | rfl⟩
   ·simp only [h1,pf,ga] at h ⊢; exact h
   ·simp only [pf,ga] at h ⊢; exact h
   ·simp only [pf,ga] at h ⊢; exact h
  ·unfold qO at h ⊢
   rw [ga]
   rcases aC v with h1 | ⟨b,h1,rfl | rfl⟩
   ·rw [h1]; exact h
   ·split at h
    ·split at h <;> first | exact h.elim | (rename_i hx _; cases hx)
    ·exact h.elim
   ·split at h
    ·split at h <;> first | exact h.elim | (rename_i hx _; cases hx)
    ·exact h.elim
 | index t x y =>
  rcases vs with _ | ⟨v,_ | ⟨v',_ | ⟨v'',r⟩⟩⟩ <;> first | exact h.elim | skip
  refine ⟨e,?_,rfl⟩
  simp only [opL,List.map_cons,List.map_nil,ga] at h ⊢
  split at h
  ·exact h
  ·unfold qC at h ⊢
   rw [ga]
   rcases aC v with h1 | ⟨b,h1,rfl | rfl⟩
   ·rw [h1]; exact h
   ·split at h
    ·split at h <;> first | exact h.elim | (rename_i hx _; cases hx)
    ·exact h.elim
   ·split at h
    ·split at h <;> first | exact h.elim | (rename_i hx _; cases hx)
    ·exact h.elim
 | extract x j =>
  rcases vs with _ | ⟨v,_ | ⟨v',r⟩⟩ <;> first | exact h.elim | skip
  refine ⟨e,?_,rfl⟩
  rcases aC v with h1 | ⟨b,h1,rfl | rfl⟩
  ·simpa only [List.map_cons,List.map_nil,h1] using h
  ·exact h.elim
  ·exact h.elim
 | call c =>
  refine ⟨e,?_,rfl⟩
  obtain ⟨callee,args,tys⟩:=c
  cases callee with
  | builtin b =>
   simp only [opL] at h ⊢
   unfold dT at h
   split at h
   ·rename_i x ty htys
    simp only [htys,dT,List.map_cons,List.map_nil]
    split at h
    ·rename_i d hd
     have key:∀ kd,(xO look kd x).hits C e→(xO look kd x.nf).hits C e:=by intro kd; cases kd <;> simp only [xO,vq] <;> exact fun h=>h
     exact key _ h
    ·exact h.elim
   ·rename_i s x ty ty' htys
    simp only [htys,dT,List.map_cons,List.map_nil]
    split at h
    ·rename_i _ d hel
     cases hb:Nat.beq ty ty' with
     | false =>
      simp only [hb,cond_false] at h ⊢
      split at h
      ·rename_i hu
       unfold lp at h ⊢
       rw [ga]
       rcases aC s with h1 | ⟨b,h1,rfl | rfl⟩
       ·rw [h1]; exact h
       ·exact h
       ·exact h
      ·exact h.elim
     | true =>
      simp only [hb,cond_true] at h ⊢
      unfold nH at h ⊢
      rw [yU,tr]
      rcases aC s with h1 | ⟨b,h1,rfl | rfl⟩
      ·rw [h1]; exact h
      ·exact h
      ·exact h
    ·exact h.elim
   ·rename_i s x ty ty' htys
    simp only [htys,dT,List.map_cons,List.map_nil]
    split at h
    ·rename_i _ d hel
     cases hb:Nat.beq ty ty' with
     | false=>simp [hb,Prg.hits] at h
     | true =>
      simp only [hb,cond_true] at h ⊢
      unfold yE at h ⊢
      rw [yU,tr]
      rcases aC s with h1 | ⟨b,h1,rfl | rfl⟩
      ·rw [h1]; exact h
      ·exact h
      ·exact h
    ·exact h.elim
   ·rename_i s ty htys
    simp only [htys,dT,List.map_cons,List.map_nil]
    split at h
    ·unfold vd at h ⊢
     rcases aC s with h1 | ⟨b,h1,rfl | rfl⟩
     ·rw [h1]; exact h
     ·exfalso
      revert h
      cases Nat.blt 0 _ <;> exact fun h=>h.elim
     ·exfalso
      revert h
      cases Nat.blt 0 _ <;> exact fun h=>h.elim
    ·exact h.elim
   ·simp only [dT,List.map_cons,List.map_nil,xo,ga] at h ⊢
    exact h
   ·simp only [dT,List.map_cons,List.map_nil,xo,ga] at h ⊢
    exact h
   ·exact h.elim
  | value f =>
   cases f with
   | func f =>
    rcases vs with _ | ⟨v,r⟩
    ·exact h.elim
    ·simp only [opL,List.map_cons,mr,jy,sL,AQ,Cs,Cx] at h ⊢
     exact h
   | tmp t =>
    rcases vs with _ | ⟨v,r⟩
    ·exact h.elim
    ·simp only [opL,List.map_cons,ga,jy,C3] at h ⊢
     rcases aC v with h1 | ⟨b,h1,rfl | rfl⟩
     ·rw [h1]; exact h
     ·exact h
     ·exact h
   | _=>exact h.elim
  | invoke r m=>exact h.elim
 | makeInterface t x =>
  rcases vs with _ | ⟨v,_ | ⟨v',r⟩⟩ <;> first | exact h.elim | skip
  refine ⟨e,?_,rfl⟩
  simp only [opL,List.map_cons,List.map_nil,CQ] at h ⊢
  exact h
 | typeAssert x xt t ok =>
  rcases vs with _ | ⟨v,_ | ⟨v',r⟩⟩ <;> cases ok <;> first | exact h.elim | skip
  refine ⟨e,?_,rfl⟩
  simp only [opL,List.map_cons,List.map_nil,BI] at h ⊢
  exact h
 | _=>exact h.elim
theorem lb (st:ASt):st.nfS.look=st.look:=rfl
theorem np (st:ASt):st.nfS.base=st.base:=rfl
theorem uL (st:ASt) (d:Option Tmp):st.nfS.nid d=st.nid d:=by cases d <;> rfl
theorem iM (st:ASt) (d:Option Tmp) (v:AV):(st.put d v).nfS=st.nfS.put d v.nf:=by
 cases d with
 | none=>rfl
 | some d=>simp [ASt.nfS,ASt.put,ai,List.map_set]
theorem su (st:ASt) (i:Nat) (b:Option BC):(st.ab i b).nfS=st.nfS.ab i b:=rfl
theorem jo (st:ASt) (t:Nat):nth (.one .junk) st.nfS.slots t=(nth (.one .junk) st.slots t).nf:=by
 simp only [ASt.nfS,aL,Eb]
 cases st.slots[t]? <;> rfl
theorem AL (ps:List Nat) (st:ASt) (d:Option Nat) (e:Eff):bX ps st.nfS d e.nfE=bX ps st d e:=by
 unfold bX
 congr 1
 funext k
 cases d with
 | none=>rw [np,bY]
 | some d=>simp only [np,bY,jo,lP]
theorem nq (k s:Nat):∀ (l:List AV) (n:Nat),fb k s n (l.map AV.nf)=fb k s n l
 | [],n=>rfl
 | v :: l,n=>by simp only [List.map_cons,fb,lP,nq k s l (n + 1)]
theorem wC {k:Nat} {v:AV} (h:jD k v=true):jD k v.nf=true:=by
 unfold jD at h
 split at h
 ·exact h
 ·cases h
theorem iw {e:Eff} {i:Nat} {y:TV} (h:jA e=some (i,y)):e=.gen [.drop i 0 [] false,.root i 0 y] (.one (.sref i 0 [])):=by
 unfold jA at h
 split at h
 ·rename_i i' j y' k
  cases hb:i'.beq j && i'.beq k with
  | false=>rw [hb] at h; cases h
  | true =>
   simp only [hb,cond_true,D7,Prod.mk.injEq] at h
   simp only [D8] at hb
   obtain ⟨rfl,rfl⟩:=h
   rw [← (aq _ _).1 hb.1,← (aq _ _).1 hb.2]
 ·cases h
theorem mu (i:Nat) (y:TV):jA (.gen [.drop i 0 [] false,.root i 0 y] (.one (.sref i 0 [])))=some (i,y):=by
 simp only [jA,(aq i i).2 rfl,Bool.and_self,cond_true]
theorem zQ {o:Item} {st:ASt} {e:Eff} (h:cQ o st e=true):cQ o st.nfS e.nfE=true:=by
 unfold cQ at h ⊢
 split at h
 ·rename_i s i y h1 h2
  have:=iw h2
  subst this
  simp only [D8] at h
  simp only [h1,Eff.nfE,AV.nf,mu,D8]
  refine ⟨⟨⟨⟨⟨h.1.1.1.1.1,?_⟩,h.1.1.1.2⟩,?_⟩,h.1.2⟩,h.2⟩
  ·rw [jo]; exact wC h.1.1.1.1.2
  ·rw [show st.nfS.slots=st.slots.map AV.nf from rfl,nq]; exact h.1.1.2
 ·cases h
theorem rU (st:ASt) (x:Operand):st.nfS.ev x=(st.ev x).nf:=by
 cases x with
 | tmp t=>exact jo st t
 | const v =>
  cases v with
  | bool b=>rfl
  | _=>first | rfl | (simp only [ASt.ev]; cases Value.oneCell' _ <;> rfl)
 | global g=>rfl
 | func f=>rfl
theorem sQ:∀ (l:List AV),cg (l.map AV.nf)=cg l
 | []=>rfl
 | v :: l=>by simp only [List.map_cons,cg,ga,sQ l]
theorem kx (e:Eff):ie e.nfE=ie e:=by
 cases e with
 | new b v=>cases b <;> rfl
 | _=>rfl
theorem zF {i:Item} {st:ASt} {e:Eff}:gI i st.nfS e.nfE=gI i st e:=by
 unfold gI
 have:i.o.op.operands.toList.map st.nfS.ev=(i.o.op.operands.toList.map st.ev).map AV.nf:=by
  rw [List.map_map]
  exact List.map_congr_left fun x _=>rU st x
 rw [this,sQ,kx,bY]
 rfl
theorem vN:∀ (l:List AV),fE (l.map AV.nf)=fE l
 | []=>rfl
 | v :: l=>by simp only [List.map_cons,fE,lP,vN l]
theorem pb (e:Eff):kT e.nfE=kT e:=by cases e <;> rfl
theorem xZ (e:Eff):drE e.nfE=drE e:=by cases e <;> rfl
theorem rM (k:Nat) (e:Eff):tn k e.nfE=tn k e:=by cases e <;> rfl
theorem qw (v:AV):(v.nf.bJ CA.deep).dG=(v.bJ CA.deep).dG:=by
 rcases aC v with h | ⟨b,h,rfl | rfl⟩
 ·rw [h]
 ·rw [h]; rfl
 ·rw [h]; rfl
theorem wF:∀ (l:List AV),fE (bN CA.deep (l.map AV.nf))=fE (bN CA.deep l)
 | []=>rfl
 | v :: l=>by simp only [List.map_cons,bN,fE,qw,wF l]
theorem qo (e:Eff):nv e.nfE=nv e:=by
 cases e with
 | val v=>exact qw v
 | new b v=>exact bY (.new b v)
 | upd i b v=>exact bY (.upd i b v)
 | gen ps v=>exact bY (.gen ps v)
theorem Ai {i:Item} {st:ASt} {e:Eff}:cb i st.nfS e.nfE=cb i st e:=by
 unfold cb
 simp only [pb,xZ,rM]
 rfl
theorem zM {i:Item} {st:ASt} {e:Eff}:cR i st.nfS e.nfE=cR i st e:=by
 unfold cR
 have hd:∀ d b,iL st.nfS d b=iL st d b:=fun d b=>by
  cases d with
  | none=>rfl
  | some d =>
   have:=rU st (.tmp d)
   simp only [ASt.ev] at this
   simp only [iL,this,lP]
 have hd2:∀ d b,gk st.nfS d b=gk st d b:=fun d b=>by
  cases d with
  | none=>rfl
  | some d =>
   have:=rU st (.tmp d)
   simp only [ASt.ev] at this
   simp only [gk,this,qw]
 simp only [hd,hd2,bY,qo]
 have:i.o.op.operands.toList.map st.nfS.ev=(i.o.op.operands.toList.map st.ev).map AV.nf:=by
  rw [List.map_map]
  exact List.map_congr_left fun x _=>rU st x
 rw [this,vN,wF]
 rfl
theorem okE_nf {i:Item} {st:ASt} {e:Eff} (h:okE i st e=true):okE i st.nfS e.nfE=true:=by
 unfold okE at h ⊢
 rw [Bool.or_eq_true] at h ⊢
 rcases h with h | h
 ·rw [Ai]; exact .inl h
 refine .inr ?_
 rw [Bool.or_eq_true] at h ⊢
 rcases h with h | h
 ·rw [nZ,wM,np,AL,zF,zM]; exact .inl h
 ·exact .inr (zQ h)
theorem u9 (hs:Sim w0 I0 st a ov w):Sim w0 I0 st.nfS a ov w:=by
 obtain ⟨g,hs⟩:=hs
 refine ⟨g,hs.below,hs.sub,hs.lt,hs.old,by simp [ASt.nfS,hs.len],hs.defers,fun t v hv=>?_,hs.olen,hs.outs,hs.cells,hs.trees,hs.foot,hs.apart,hs.apartR,hs.res,hs.base,hs.out⟩
 simp only [ASt.nfS,Eb] at hv
 cases hsl:st.slots[t]? with
 | none=>simp [hsl] at hv
 | some u =>
  simp only [hsl,Ei,D7] at hv
  subst hv
  exact Bz.2 (hs.slots t u hsl)
theorem d9 (hs:Sim w0 I0 st.nfS a ov w):Sim w0 I0 st a ov w:=by
 obtain ⟨g,hs⟩:=hs
 refine ⟨g,hs.below,hs.sub,hs.lt,hs.old,by have:=hs.len; simpa [ASt.nfS] using this,hs.defers,fun t v hv=>?_,hs.olen,hs.outs,hs.cells,hs.trees,hs.foot,hs.apart,hs.apartR,hs.res,hs.base,hs.out⟩
 exact Bz.1 (hs.slots t v.nf (by simp [ASt.nfS,hv]))
theorem nT (i r:Nat) (js:List Nat) (b:Bool) (v:AV):(v.bJ (CA.drop i r js b)).nf=v.nf.bJ (CA.drop i r js b):=by
 rcases aC v with h | ⟨b,h,rfl | rfl⟩
 ·rw [h]
  cases v with
  | one c =>
   have key:∀ c:CA,c.drop i r js b=c∨c.drop i r js b=.junk:=fun c=>by
    rcases eF i r js b c with ⟨h,_⟩ | h
    ·exact .inl h
    ·exact .inr h
   simp only [AV.bJ]
   rcases key c with h' | h'
   ·rw [h',h]
   ·rw [h']; rfl
  | tv x=>exact h
  | _=>rfl
 ·rfl
 ·rfl
theorem AS (st:ASt) (i r:Nat) (js:List Nat) (b:Bool):(st.aw (CA.drop i r js b)).nfS=st.nfS.aw (CA.drop i r js b):=by
 simp only [ASt.nfS,ASt.aw]
 congr 1
 apply List.ext_getElem?
 intro t
 simp only [Eb,mj]
 cases st.slots[t]? with
 | none=>rfl
 | some v=>simp [nT]
theorem pY (i:Nat) (v:AV):(v.bJ (CA.unM i)).nf=v.nf.bJ (CA.unM i):=by
 cases v with
 | one c =>
  cases c with
  | t x =>
   cases x with
   | lit u=>cases u <;> rfl
   | _=>rfl
  | may j ty =>
   simp only [AV.bJ,CA.unM,AV.nf]
   cases j.beq i <;> rfl
  | _=>rfl
 | tv x =>
  cases x with
  | lit u=>cases u <;> rfl
  | _=>rfl
 | _=>rfl
theorem Du (st:ASt) (i:Nat):(st.aw (CA.unM i)).nfS=st.nfS.aw (CA.unM i):=by
 simp only [ASt.aw,ASt.nfS]
 congr 1
 induction st.slots with
 | nil=>rfl
 | cons v l ih=>simp only [bN,List.map_cons,pY,ih]
theorem tw {i:Nat} {b:BC} (h:st.bn i b=some st'):st.nfS.bn i b=some st'.nfS:=by
 obtain ⟨h1,h2,rfl⟩:=be h
 have h2':i.blt st.nfS.boxes.length=true:=by simpa [ASt.nfS] using h2
 simp only [ASt.bn,lb,h1,h2',cond_true,su]
theorem qr {d:Option Tmp}:∀ {ps:List Prim} {st st':ASt},ac d ps st=some st'→ac d ps st.nfS=some st'.nfS
 | [],st,st',h=>by simp only [ac,D7] at h; subst h; rfl
 | p :: ps, st, st', h => by
  simp only [ac] at h ⊢
  cases h1:p.app st d with
  | none=>simp [h1] at h
  | some s1 =>
   simp only [h1] at h
   have:p.app st.nfS d=some s1.nfS:=by
    cases p with
    | drop i r js b =>
     simp only [Prim.app,D7] at h1 ⊢
     subst h1
     rw [AS]
    | root i r x =>
     simp only [Prim.app,lb] at h1 ⊢
     split at h1
     ·rename_i b hb
      simp only [D7] at h1
      subst h1
      rfl
     ·cases h1
    | frz i r =>
     simp only [Prim.app,lb] at h1 ⊢
     split at h1
     ·rename_i x hx
      split at h1
      ·rename_i b hb
       simp only [D7] at h1
       subst h1
       rfl
      ·cases h1
     ·cases h1
    | unmay i =>
     simp only [Prim.app,D7] at h1 ⊢
     subst h1
     rw [Du]
    | newB b =>
     cases d with
     | none=>simp [Prim.app] at h1
     | some d =>
      simp only [Prim.app] at h1 ⊢
      rw [uL]
      exact tw h1
    | setB i cs =>
     simp only [Prim.app,lb] at h1 ⊢
     split at h1
     ·simp only [D7] at h1
      subst h1
      rfl
     ·cases h1
   rw [this]
   exact qr h
theorem app_nf {e:Eff} {d:Option Tmp} (h:e.app st d=some st'):e.nfE.app st.nfS d=some st'.nfS:=by
 cases e with
 | val v =>
  simp only [Eff.app,Eff.nfE,D7] at h ⊢
  subst h
  rw [iM]
 | new b v =>
  cases d with
  | none=>simp [Eff.app] at h
  | some d =>
   simp only [Eff.app,Eff.nfE] at h ⊢
   rw [uL]
   split at h
   ·rename_i s1 hs1
    simp only [D7] at h
    subst h
    rw [tw hs1]
    simp only [iM]
   ·cases h
 | upd i b v =>
  simp only [Eff.app,Eff.nfE,D7] at h ⊢
  subst h
  rw [iM,su]
 | gen ps v =>
  simp only [Eff.app,Eff.nfE] at h ⊢
  split at h
  ·rename_i s1 hs1
   simp only [D7] at h
   subst h
   rw [qr hs1]
   simp only [iM]
  ·cases h
theorem kq {d:Option Tmp} {v:AV} (hs:Sim w0 I0 (st.put d v) a ov w):Sim w0 I0 (st.put d v.nf) a ov w:=by
 apply d9
 have:=u9 hs
 rw [iM] at this ⊢
 rwa [uG]
theorem yS {e:Eff} {d:Option Tmp} (h:e.nfE.app st d=some st'):∃ st1,e.app st d=some st1∧∀ w0 I0 a ov w,Sim w0 I0 st1 a ov w→Sim w0 I0 st' a ov w:=by
 cases e with
 | val v =>
  simp only [Eff.app,Eff.nfE,D7] at h ⊢
  subst h
  exact ⟨_,rfl,fun w0 I0 a ov w hs=>kq hs⟩
 | new b v =>
  cases d with
  | none=>simp [Eff.app,Eff.nfE] at h
  | some d =>
   simp only [Eff.app,Eff.nfE] at h ⊢
   split at h
   ·rename_i s1 hs1
    simp only [D7] at h
    subst h
    exact ⟨_,rfl,fun w0 I0 a ov w hs=>kq hs⟩
   ·cases h
 | upd i b v =>
  simp only [Eff.app,Eff.nfE,D7] at h ⊢
  subst h
  exact ⟨_,rfl,fun w0 I0 a ov w hs=>kq hs⟩
 | gen ps v =>
  simp only [Eff.app,Eff.nfE] at h ⊢
  split at h
  ·rename_i s1 hs1
   simp only [D7] at h
   subst h
   exact ⟨_,rfl,fun w0 I0 a ov w hs=>kq hs⟩
  ·cases h
end
end Go.Ab
end
section
namespace Go.Ab
open Go.RowKit
def Prg.All {R:Type} (p:R→Prop):Prg R→Prop
 | .fail=>True
 | .ret e=>p e
 | .tv _ k=>∀ v,(k v).All p
 | .tvs _ k=>∀ v,(k v).All p
 | .rws _ k=>∀ v,(k v).All p
 | .nat _ k=>∀ v,(k v).All p
 | .chk _ k=>k.All p
 | .ite _ t e=>t.All p∧e.All p
 | .call _ _ k=>∀ v,(k v).All p
 | .jmp _ _=>True
theorem Prg.All.hits {R:Type} {C:Cal} {p:R→Prop} {e:R}:∀ {o:Prg R},o.All p→o.hits C e→p e
 | .ret e',h,h'=>by cases h'; exact h
 | .tv _ k,h,⟨v,_,h'⟩=>(h v).hits h'
 | .tvs _ k,h,⟨v,_,h'⟩=>(h v).hits h'
 | .rws _ k,h,⟨v,_,h'⟩=>(h v).hits h'
 | .nat _ k,h,⟨v,_,h'⟩=>(h v).hits h'
 | .chk _ k,h,⟨_,h'⟩=>Prg.All.hits (o:=k) h h'
 | .ite _ t e,h,⟨v,_,.inl ⟨_,h'⟩⟩=>Prg.All.hits (o:=t) h.1 h'
 | .ite _ t e,h,⟨v,_,.inr ⟨_,h'⟩⟩=>Prg.All.hits (o:=e) h.2 h'
 | .call _ _ k,h,⟨v,_,h'⟩=>(h v).hits h'
section
variable {E:Env} {look look':Look} {p:Eff→Prop} {id:Nat}
theorem aE {b:Bool} {x y:Out} (hx:x.All p) (hy:y.All p):(bif b then x else y).All p:=by cases b <;> assumption
theorem iq {q:Way} {x:TV} {k:TV→Out} (h:∀ y,(k y).All p):(mI q x k).All p:=by
 unfold mI
 split
 ·exact h _
 ·exact h
theorem fx {c:CA} {k:TV→Out} (h:∀ y,(k y).All p):(ip look c k).All p:=by
 unfold ip
 split
 ·exact h _
 ·split
  ·exact iq h
  ·exact trivial
 ·split
  ·exact iq fun y z=>h z
  ·exact trivial
 ·exact trivial
theorem nB {v:AV} {k:TV→Out} (h:∀ y,(k y).All p):(s8 look v k).All p:=by
 unfold s8
 split
 ·exact fx h
 ·exact h _
 ·exact h _
 ·exact trivial
theorem ul {c:CA} {k:TV→Out} (h:∀ y,(k y).All p):(qU look c k).All p:=by
 unfold qU
 split
 ·exact h _
 ·exact fx fun y=>h _
 ·exact fx fun y=>h _
 ·exact trivial
theorem uB {k:List TV→Out}:∀ {cs:List CA} {k:List TV→Out},(∀ y,(k y).All p)→(zw look cs k).All p
 | [],k,h=>h _
 | c :: cs,k,h=>ul fun y=>uB (k:=fun _=>.fail) fun ys=>h _
theorem zG {v:AV} {k:TV→Out} (h:∀ y,(k y).All p):(sK look v k).All p:=by
 unfold sK
 split
 ·exact ul h
 ·exact h _
 ·exact uB (k:=fun _=>.fail) fun ys=>h _
 ·exact trivial
 ·exact trivial
 ·exact h _
theorem fJ:∀ {vs:List AV} {k:List TV→Out},(∀ y,(k y).All p)→(lends look vs k).All p
 | [],k,h=>h _
 | v :: vs,k,h=>zG fun y=>fJ fun ys=>h _
theorem t8 {c:CA} {k:TV→List (Nat × Nat)→Out} (h:∀ y r,(k y r).All p):(sU look c k).All p:=by
 unfold sU
 split
 ·exact h _ _
 ·split
  ·split
   ·exact h _ _
   ·exact fun y=>h _ _
  ·exact trivial
 ·split
  ·split
   ·exact fun y=>h _ _
   ·exact fun z y=>h _ _
  ·exact trivial
 ·exact trivial
theorem uy:∀ {cs:List CA} {k:List TV→List (Nat × Nat)→Out},(∀ y r,(k y r).All p)→(zk look cs k).All p
 | [],k,h=>h _ _
 | c :: cs,k,h=>t8 fun y r=>uy fun ys rs=>h _ _
theorem AF {v:AV} {k:TV→List (Nat × Nat)→Out} (h:∀ y r,(k y r).All p):(ry look v k).All p:=by
 unfold ry
 split
 ·exact t8 h
 ·exact h _ _
 ·exact uy fun ys rs=>h _ _
 ·exact trivial
 ·exact trivial
 ·exact h _ _
theorem oM:∀ {vs:List AV} {k:List TV→List (Nat × Nat)→Out},(∀ y r,(k y r).All p)→(hands look vs k).All p
 | [],k,h=>h _ _
 | v :: vs,k,h=>AF fun y r=>oM fun ys rs=>h _ _
theorem d0:∀ {cs:List CA} {k:List TV→List Prim→List (Nat × Nat)→Out},(∀ y q r,(k y q r).All p)→(cp look cs k).All p
 | [],k,h=>h _ _ _
 | .t x :: l,k,h=>by
  simp only [cp]
  exact d0 (cs:=l) fun xs ps ts=>h _ _ _
 | .sref i r q :: l, k, h => by
  simp only [cp]
  split
  ·split
   ·exact d0 (cs:=l) fun xs ps ts=>h _ _ _
   ·exact fun y=>d0 (cs:=l) fun xs ps ts=>h _ _ _
  ·exact trivial
 | .swin i r q lo len :: l, k, h => by
  simp only [cp]
  split
  ·split
   ·exact fun y=>d0 (cs:=l) fun xs ps ts=>h _ _ _
   ·exact fun z y=>d0 (cs:=l) fun xs ps ts=>h _ _ _
  ·exact trivial
 | .ptr _ _ :: l,k,h=>trivial
 | .ref _ _ :: l,k,h=>trivial
 | .tptr _ _ _ _ _ :: l,k,h=>trivial
 | .may _ _ :: l,k,h=>trivial
 | .aptr _ _ _ _ :: l,k,h=>trivial
 | .ifp _ _ :: l,k,h=>trivial
 | .fn1 _ _ :: l,k,h=>trivial
 | .yl _ :: l,k,h=>trivial
 | .undef :: l,k,h=>trivial
 | .junk :: l,k,h=>trivial
theorem dZ:∀ {cs:List CA} {k:List TV→List Prim→List (Nat × Nat)→Out},(∀ y q r,(k y q r).All p)→(bW look cs k).All p
 | [],k,h=>h _ _ _
 | .t x :: l,k,h=>by
  simp only [bW]
  exact dZ (cs:=l) fun xs ps ts=>h _ _ _
 | .sref i r q :: l, k, h => by
  simp only [bW]
  split
  ·split
   ·exact dZ (cs:=l) fun xs ps ts=>h _ _ _
   ·exact fun y=>⟨dZ (cs:=l) fun xs ps ts=>h _ _ _,fun x'=>dZ (cs:=l) fun xs ps ts=>h _ _ _⟩
  ·exact trivial
 | .swin i r q lo len :: l, k, h => by
  simp only [bW]
  split
  ·split
   ·exact fun y=>dZ (cs:=l) fun xs ps ts=>h _ _ _
   ·exact fun z y=>dZ (cs:=l) fun xs ps ts=>h _ _ _
  ·exact trivial
 | .ptr _ _ :: l,k,h=>trivial
 | .ref _ _ :: l,k,h=>trivial
 | .tptr _ _ _ _ _ :: l,k,h=>trivial
 | .may _ _ :: l,k,h=>trivial
 | .aptr _ _ _ _ :: l,k,h=>trivial
 | .ifp _ _ :: l,k,h=>trivial
 | .fn1 _ _ :: l,k,h=>trivial
 | .yl _ :: l,k,h=>trivial
 | .undef :: l,k,h=>trivial
 | .junk :: l,k,h=>trivial
theorem dO {agg:Bool} {n:Nat} {x:AV} {k:List CA→Out} (h:∀ cs,(k cs).All p):(x.aS agg n k).All p:=by
 unfold AV.aS
 split
 ·rename_i c; cases c.kept <;> first | exact trivial | exact h _
 ·exact h _
 ·exact h _
 ·exact h _
 ·rename_i cs; cases cs.length.beq n <;> first | exact trivial | exact h _
 ·exact h _
 ·exact trivial
theorem ol {at_:Nat→Option (Nat × Bool × Nat)} {k:List CA→Out} (h:∀ cs,(k cs).All p):∀ (is:List Nat) (vs:List AV) (cs:List CA),(bL at_ is vs cs k).All p
 | [],[],cs=>h cs
 | i :: is, x :: vs, cs => by
  simp only [bL]
  split
  ·refine dO (fun ps=>?_)
   exact aE (ol h is vs _) trivial
  ·exact trivial
 | [],_ :: _,cs=>trivial
 | _ :: _,[],cs=>trivial
theorem eM {v:Option AV} {k:Option Nat→Out} (h:∀ n,(k n).All p):(fq v k).All p:=by
 unfold fq
 split
 ·exact h _
 ·split
  ·exact fun v=>h _
  ·exact trivial
abbrev cV (e:Eff):Prop:=∃ v,e=.val v
abbrev cX (e:Eff):Prop:=∃ b v,e=.new b v
theorem wQ {d:TyD} {x:List TV} {off:Nat}:(jQ d x off).All cV:=by
 unfold jQ
 cases d.kd.isAgg
 ·exact ⟨_,rfl⟩
 ·exact ⟨_,rfl⟩
theorem uF:∀ {vs:List AV} {k:List CA→Out},(∀ cs,(k cs).All p)→(j3 vs k).All p
 | [],k,h=>h _
 | v :: vs,k,h=>dO fun cs=>uF fun cs'=>h _
theorem DD {op:Op} (h:ao op=.N) (vs:List AV):(opL E id look op vs).All cV:=by
 cases op with
 | move x=>rcases vs with _ | ⟨v,_ | ⟨v',r⟩⟩ <;> first | exact trivial | exact ⟨_,rfl⟩
 | assign x=>rcases vs with _ | ⟨v,_ | ⟨v',r⟩⟩ <;> first | exact trivial | exact ⟨_,rfl⟩
 | pick c x y =>
  rcases vs with _ | ⟨v,_ | ⟨v',_ | ⟨v'',_ | ⟨v3,r⟩⟩⟩⟩ <;> first | exact trivial | skip
  simp only [opL]
  split <;> first | exact trivial | exact ⟨_,rfl⟩ | exact ⟨⟨_,rfl⟩,⟨_,rfl⟩⟩
 | build t parts =>
  simp only [opL]
  split
  ·refine aE ?_ trivial
   refine ol ?_ _ _ _
   exact fun cs=>⟨_,rfl⟩
  ·exact trivial
 | nilCheck x =>
  rcases vs with _ | ⟨v,_ | ⟨v',r⟩⟩ <;> first | exact trivial | skip
  simp only [opL]
  split <;> first | exact trivial | exact ⟨_,rfl⟩
 | unOp op xt x =>
  rcases vs with _ | ⟨v,_ | ⟨v',r⟩⟩ <;> first | exact trivial | skip
  simp only [opL]
  split
  ·exact ⟨_,rfl⟩
  ·split
   ·exact fun v=>⟨_,rfl⟩
   ·exact trivial
 | fieldAddr t x f =>
  rcases vs with _ | ⟨v,_ | ⟨v',r⟩⟩ <;> first | exact trivial | skip
  simp only [opL]
  split
  ·split
   ·refine aE ?_ trivial
    split <;> first | exact trivial | exact ⟨_,rfl⟩
   ·exact trivial
  ·exact trivial
 | field t x f =>
  rcases vs with _ | ⟨v,_ | ⟨v',r⟩⟩ <;> first | exact trivial | skip
  simp only [opL]
  split
  ·split
   ·unfold uT
    split
    ·split
     ·split <;> first | exact trivial | exact ⟨_,rfl⟩
     ·exact trivial
    ·exact ⟨_,rfl⟩
    ·exact trivial
   ·exact trivial
  ·exact trivial
 | index t x y =>
  rcases vs with _ | ⟨v,_ | ⟨v',_ | ⟨v'',r⟩⟩⟩ <;> first | exact trivial | skip
  simp only [opL]
  split
  ·exact fun v=>⟨_,rfl⟩
  ·unfold qC
   split
   ·split
    ·refine aE ?_ trivial
     split
     ·exact fun k v=>⟨_,rfl⟩
     ·exact trivial
    ·exact trivial
   ·exact trivial
 | extract x j =>
  rcases vs with _ | ⟨v,_ | ⟨v',r⟩⟩ <;> first | exact trivial | skip
  simp only [opL]
  split
  ·split
   ·split <;> first | exact trivial | exact ⟨_,rfl⟩
   ·exact trivial
  ·exact trivial
 | makeFunc fn first cap =>
  cases fn with
  | func f =>
   simp only [opL]
   exact aE (uF fun cs=>⟨_,rfl⟩) trivial
  | _=>exact trivial
 | call c =>
  obtain ⟨callee,args,tys⟩:=c
  cases callee with
  | builtin b=>cases b <;> simp [ao] at h
  | value f=>cases f <;> simp [ao] at h
  | invoke r m=>simp [ao] at h
 | makeInterface t x =>
  rcases vs with _ | ⟨v,_ | ⟨v',r⟩⟩ <;> first | exact trivial | skip
  simp only [opL]
  split
  ·unfold A5
   refine aE ?_ trivial
   split
   ·exact ⟨_,rfl⟩
   ·split
    ·exact fun v=>⟨_,rfl⟩
    ·exact trivial
  ·exact trivial
 | typeAssert x xt t ok =>
  rcases vs with _ | ⟨v,_ | ⟨v',r⟩⟩ <;> cases ok <;> first | exact trivial | skip
  simp only [opL]
  split
  ·unfold tM
   refine aE ?_ trivial
   split
   ·exact fun v=>⟨_,rfl⟩
   ·exact trivial
  ·exact trivial
 | _=>simp [ao] at h
theorem BL {op:Op} (h:ao op=.R) (vs:List AV):(opL E id look op vs).All cV:=by
 cases op with
 | load t x =>
  rcases vs with _ | ⟨v,_ | ⟨v',r⟩⟩ <;> first | exact trivial | skip
  simp only [opL]
  split
  ·unfold yM
   split
   ·refine aE trivial ?_
    split
    ·exact fun v=>⟨_,rfl⟩
    ·exact trivial
   ·split
    ·split
     ·split
      ·exact ⟨_,rfl⟩
      ·exact trivial
     ·exact trivial
    ·exact trivial
   ·exact wQ
   ·split
    ·refine iq (fun s e=>?_)
     simp only [Prg.All]
     split
     ·exact ⟨_,rfl⟩
     ·exact trivial
    ·exact trivial
   ·exact trivial
  ·exact trivial
 | convert xt dt x =>
  rcases vs with _ | ⟨v,_ | ⟨v',r⟩⟩ <;> first | exact trivial | skip
  simp only [opL]
  split
  ·unfold zn
   split
   ·split
    ·exact aE (nB fun y=>fun rows=>fun v=>⟨_,rfl⟩) trivial
    ·exact trivial
   ·split
    ·exact fun v=>⟨_,rfl⟩
    ·exact trivial
  ·exact trivial
 | binOp op xt x y yt =>
  rcases vs with _ | ⟨v,_ | ⟨v',_ | ⟨v'',r⟩⟩⟩ <;> first | exact trivial | skip
  simp only [opL]
  split
  ·unfold CT
   split
   ·split
    ·refine dO fun cs=>dO fun cs'=>?_
     split
     ·exact fun v=>⟨_,rfl⟩
     ·exact trivial
    ·exact trivial
   ·unfold Dg
    split
    ·exact ⟨_,rfl⟩
    ·exact ⟨_,rfl⟩
    ·exact trivial
   unfold Dj
   refine aE (nB fun x=>nB fun y=>fun v=>⟨_,rfl⟩) ?_
   split
   ·exact fun v=>⟨_,rfl⟩
   ·exact trivial
  ·exact trivial
 | slice t x lo hi mx =>
  have sl:∀ {kd:Kd} {sz:Nat} {x:AV} {lo hi:Option AV},(iD look kd sz x lo hi).All cV:=by
   intro kd sz x lo hi
   unfold iD
   split
   ·exact eM fun lo=>eM fun hi=>fun v=>⟨_,rfl⟩
   ·split
    ·exact fx fun s n=>eM fun lo=>eM fun hi=>⟨_,rfl⟩
    ·split
     ·exact fx fun s=>eM fun hi=>⟨_,rfl⟩
     ·exact fx fun s=>eM fun lo=>eM fun hi=>⟨_,rfl⟩
    ·exact trivial
  cases mx with
  | some m=>rcases vs with _ | ⟨v,r⟩ <;> exact trivial
  | none =>
   rcases vs with _ | ⟨v,r⟩
   ·exact trivial
   ·simp only [opL]
    split
    ·split
     ·split <;> first | exact trivial | exact sl
     ·exact trivial
    ·exact trivial
 | indexAddr t x y =>
  rcases vs with _ | ⟨v,_ | ⟨v',_ | ⟨v'',r⟩⟩⟩ <;> first | exact trivial | skip
  simp only [opL]
  split
  ·unfold pf
   split
   ·split
    ·exact fun v=>⟨_,rfl⟩
    ·split
     ·exact fx fun s n k=>⟨_,rfl⟩
     ·exact fx fun s k=>⟨_,rfl⟩
     ·exact trivial
   ·exact trivial
  ·unfold qO
   split
   ·split
    ·exact aE (fun k=>⟨_,rfl⟩) trivial
    ·exact trivial
   ·exact trivial
 | call c =>
  obtain ⟨callee,args,tys⟩:=c
  cases callee with
  | builtin b =>
   have mn:∀ {mx:Bool} {x y:AV},(xo mx x y).All cV:=by
    intro mx x y
    unfold xo
    split
    ·exact fun v=>⟨_,rfl⟩
    ·exact trivial
   cases b <;> simp [ao] at h
   all_goals simp only [opL]
   all_goals unfold dT
   all_goals split <;> first | exact trivial | exact mn | contradiction | skip
   split
   ·unfold xO
    split
    ·exact ⟨_,rfl⟩
    ·exact nB fun s v=>⟨_,rfl⟩
   ·exact trivial
  | value f=>cases f <;> simp [ao] at h
  | invoke r m=>simp [ao] at h
 | _=>simp [ao] at h
theorem cls_A {op:Op} (h:ao op=.A) (vs:List AV):(opL E id look op vs).All cX:=by
 cases op with
 | alloc t =>
  rcases vs with _ | ⟨v,r⟩ <;> first | exact trivial | skip
  simp only [opL]
  split
  ·exact ⟨_,_,rfl⟩
  ·exact trivial
 | box t x =>
  rcases vs with _ | ⟨v,_ | ⟨v',r⟩⟩ <;> first | exact trivial | skip
  simp only [opL]
  split
  ·exact dO (fun cs=>⟨_,_,rfl⟩)
  ·exact trivial
 | makeSlice t x y =>
  rcases vs with _ | ⟨v,_ | ⟨v',_ | ⟨v'',r⟩⟩⟩ <;> first | exact trivial | skip
  simp only [opL]
  split
  ·refine aE ?_ trivial
   exact fun n m=>⟨_,_,rfl⟩
  ·exact trivial
 | call c =>
  obtain ⟨callee,args,tys⟩:=c
  cases callee with
  | builtin b=>cases b <;> simp [ao] at h
  | value f=>cases f <;> simp [ao] at h
  | invoke r m=>simp [ao] at h
 | _=>simp [ao] at h
theorem iO {ps:List Prim} {b:BC} {v:AV}:(cD ps b v).plain=true→cV (cD ps b v)∨cX (cD ps b v):=by
 cases ps with
 | nil=>exact fun _=>.inr ⟨_,_,rfl⟩
 | cons q l=>exact fun h=>by cases h
theorem t7 {ps:List Prim} {v:AV}:(match ps with | []=>Eff.val v | _=>.gen ps v).plain=true→cV (match ps with | []=>Eff.val v | _=>.gen ps v)∨cX (match ps with | []=>Eff.val v | _=>.gen ps v):=by
 cases ps with
 | nil=>exact fun _=>.inl ⟨_,rfl⟩
 | cons q l=>exact fun h=>by cases h
theorem jZ {d:TyD} {x:TV} {k:Out} (h:k.All p):(iW d x k).All p:=by
 unfold iW
 exact aE h h
theorem qk {x:TV} {k:Out} (h:k.All p):∀ (ds:List TyD) (j:Nat),(f8 x ds j k).All p
 | [],j=>h
 | d :: ds,j=>jZ (qk h ds (j + 1))
theorem sV {ds:List TyD} {v:TV} {ps:List Prim}:(ta id ds v ps).All fun e=>e.plain=true→cV e∨cX e:=by
 have many:∀ ds:List TyD,(Prg.chk (v.isTup ds.length) (f8 v ds 0 (bif gj ds then .ret (cD ps (.tree (bg v ds 0)) (.tups (dB id v ds 0 0)))
   else .ret (match ps with | []=>.val (.tups (dB id v ds 0 0)) | _=>.gen ps (.tups (dB id v ds 0 0)))))).All fun e=>e.plain=true→cV e∨cX e:=by
  intro ds
  refine qk ?_ ds 0
  exact aE iO t7
 match ds with
 | []=>exact many []
 | [d] =>
  simp only [ta]
  refine jZ ?_
  split
  ·exact aE iO t7
  ·exact trivial
 | d :: d' :: l=>exact many _
theorem Cz {ds:List TyD} {v:TV} {k:AV→Out} {p:Eff→Prop} (h:∀ av,(k av).All p):(Bb id ds v k).All p:=by
 have some:∀ (ds:List TyD) (j:Nat) (k:Out),k.All p→(f8 v ds j k).All p:=by
  intro ds
  induction ds with
  | nil=>intro j k h; exact h
  | cons d ds ih=>intro j k h; exact jZ (ih (j + 1) k h)
 unfold Bb
 split
 ·refine jZ ?_
  split
  ·exact h _
  ·exact trivial
 ·exact some _ 0 _ (h _)
theorem zP {f:FuncId} {ld:eY} {vs:List AV}:(nz E id look f ld vs).All fun e=>e.plain=true→cV e∨cX e:=by
 unfold nz
 split
 ·split
  ·refine aE trivial ?_
   exact oM fun xs rs=>d0 fun ys qs ts=>aE (fun v=>Cz fun av=>fun h=>by simp [Eff.plain] at h) trivial
  ·exact trivial
 ·exact trivial
theorem Aa {f:FuncId} {c:Nat × Nat} {vs:List AV}:(oA look f c vs).All fun e=>e.plain=true→cV e∨cX e:=by
 unfold oA
 split
 ·split
  ·split
   ·exact aE (fJ fun xs=>fun v=>fun _=>.inl ⟨_,rfl⟩) trivial
   ·exact trivial
  ·exact trivial
 ·exact trivial
theorem tJ {p:Eff→Prop} {q:Way} {x y:TV} {k:TV→Out} (h:∀ y,(k y).All p):(wB q x y k).All p:=by
 unfold wB
 split
 ·exact h _
 ·exact fun v=>h _
theorem AN {f:FuncId} {vs:List AV}:(la look f vs).All fun e=>e.plain=true→cV e∨cX e:=by
 unfold la
 split
 ·split
  ·exact iq fun z=>fJ fun xs=>fun v=>fun y=>tJ fun x'=>fun h=>by cases h
  ·exact trivial
 ·split
  ·exact iq fun z=>fun z1=>fJ fun xs=>fun v=>fun y=>tJ fun x'=>fun h=>by cases h
  ·exact trivial
 ·exact trivial
theorem Ba {f:FuncId} {i:Nat} {vs:List AV}:(wO E id look f i vs).All fun e=>e.plain=true→cV e∨cX e:=by
 unfold wO
 refine aE ?_ trivial
 split
 ·split
  ·exact fJ fun xs=>fun v=>sV
  ·exact trivial
 ·exact trivial
theorem cls_B {op:Op} (h:ao op=.B) (vs:List AV):(opL E id look op vs).All fun e=>e.plain=true→cV e∨cX e:=by
 cases op with
 | buildSlice t len parts =>
  simp only [opL]
  refine aE ?_ ?_
  ·unfold rL
   split
   ·refine ol (fun cs=>?_) _ _ _
    split
    ·exact aE (fun _=>.inr ⟨_,_,rfl⟩) trivial
    ·exact trivial
   ·exact trivial
  unfold iB
  split
  ·refine ol (fun cs=>?_) _ _ _
   refine dZ fun ys qs ts=>?_
   exact aE iO trivial
  ·exact trivial
 | call c =>
  obtain ⟨callee,args,tys⟩:=c
  cases callee with
  | builtin b=>cases b <;> simp [ao] at h
  | value f =>
   cases f with
   | func f =>
    rcases vs with _ | ⟨v,r⟩
    ·exact trivial
    ·simp only [opL,mr]
     refine aE AN (aE trivial ?_)
     split
     ·exact Aa
     split
     ·exact zP
     ·split
      ·refine aE ?_ ?_
       ·exact fJ fun xs=>fun v=>sV
       ·exact oM fun xs rs=>aE (fun v=>sV) trivial
      ·exact trivial
   | tmp t =>
    rcases vs with _ | ⟨v,r⟩
    ·exact trivial
    ·simp only [opL]
     split
     ·exact fun f=>fJ fun xs v=>fun _=>.inl ⟨_,rfl⟩
     ·split
      ·exact Ba
      ·exact trivial
   | _=>simp [ao] at h
  | invoke r m=>simp [ao] at h
 | _=>simp [ao] at h
abbrev isUpd (look:Look) (e:Eff):Prop:=∃ i b v,e=.upd i b v∧(look i).isSome=true
theorem BT {op : Op} (h : ao op = .W) (vs : List AV) : (opL E id look op vs).All fun e => e.plain = true → isUpd look e := by
 cases op with
 | store t x y =>
  rcases vs with _ | ⟨v,_ | ⟨v',_ | ⟨v'',r⟩⟩⟩ <;> first | exact trivial | skip
  simp only [opL]
  split
  ·unfold uY
   split
   ·refine aE trivial ?_
    split
    ·rename_i cs xs hrow
     refine dO (fun ps=>?_)
     split
     ·exact fun _=>⟨_,_,_,rfl,by simp [(iU hrow).1]⟩
     ·exact trivial
    ·exact trivial
   ·refine dO (fun ps=>?_)
    split
    ·rename_i cs hl
     exact aE (fun _=>⟨_,_,_,rfl,by simp [hl]⟩) trivial
    ·exact trivial
   ·refine dO (fun ps=>?_)
    split
    ·refine aE trivial (aE ?_ ?_)
     ·refine d0 fun ys qs ts=>aE ?_ trivial
      exact iq fun s e=>fun x' hp=>by cases hp
     ·refine d0 fun ys qs ts=>?_
      split
      ·refine aE ?_ trivial
       refine iq fun s e=>?_
       simp only [Prg.All]
       intro x'
       split
       ·rename_i b hb
        refine fun _=>⟨_,_,_,rfl,?_⟩
        unfold bV at hb
        split at hb
        ·rename_i hl; simp [hl]
        ·cases hb
       ·exact trivial
      ·exact trivial
    ·exact trivial
   ·exact trivial
  ·exact trivial
 | call c =>
  obtain ⟨callee,args,tys⟩:=c
  cases callee with
  | builtin b=>cases b <;> simp [ao] at h
  | value f=>cases f <;> simp [ao] at h
  | invoke r m=>simp [ao] at h
 | _=>simp [ao] at h
theorem qq {d:TyD} {s:AV} {news:List (List TV)} {ps:List Prim}:(lX id look d s news ps).All fun e=>e.plain=true→cV e∨cX e:=by
 unfold lX
 split
 ·exact aE (fun y=>iO) trivial
 ·split
  ·split
   ·split
    ·exact fun y h=>by cases h
    ·exact fun z y x' h=>by cases h
   ·exact trivial
  ·split
   ·split
    ·exact fun z y h=>by cases h
    ·exact fun z0 z y x' h=>by cases h
   ·exact trivial
  ·exact trivial
theorem BN {d:TyD} {dest:Option Nat} {x:AV} {k:List (List TV)→List Prim→Out} (h:∀ xs ps,(k xs ps).All p):(xh look d dest x k).All p:=by
 unfold xh
 split
 ·exact fun xs=>h _ _
 ·split
  ·refine aE ?_ ?_
   ·split
    ·split
     ·split
      ·exact aE trivial (fun xs=>h _ _)
      ·exact fun y=>fun xs=>h _ _
     ·exact trivial
    ·split
     ·split
      ·exact aE trivial (fun y xs=>h _ _)
      ·exact fun z y=>fun xs=>h _ _
     ·exact trivial
    ·exact trivial
   ·exact fx (fun s xs=>h _ _)
  ·exact trivial
theorem cls_P {op:Op} (h:ao op=.P) (vs:List AV):(opL E id look op vs).All fun e=>e.plain=true→cV e∨cX e:=by
 cases op with
 | call c =>
  obtain ⟨callee,args,tys⟩:=c
  cases callee with
  | builtin b =>
   cases b <;> simp [ao] at h
   simp only [opL]
   unfold dT
   split <;> try (first | exact trivial | contradiction)
   split
   ·refine aE ?_ ?_
    ·unfold nH
     exact aE (BN (fun xs ps=>qq)) trivial
    ·split
     ·unfold lp
      refine aE ?_ trivial
      split
      ·exact fun news=>qq
      ·exact trivial
     ·exact trivial
   ·exact trivial
  | value f=>cases f <;> simp [ao] at h
  | invoke r m=>simp [ao] at h
 | _=>simp [ao] at h
theorem tX {op:Op} (h:ao op=.N∨ao op=.A) (vs:List AV):opL E id look op vs=opL E id look' op vs:=by
 cases op <;> first
  | (rcases vs with _ | ⟨a,_ | ⟨b,_ | ⟨c,_ | ⟨d,r⟩⟩⟩⟩ <;> rfl)
  | (simp [ao] at h; done)
  | (rename_i fn _ _; cases fn <;> rfl)
  | (rename_i ok; cases ok <;> rcases vs with _ | ⟨a,_ | ⟨b,r⟩⟩ <;> rfl)
  | skip
 all_goals
  rename_i c
  obtain ⟨callee,args,tys⟩:=c
  cases callee with
  | builtin b=>cases b <;> simp [ao] at h
  | value f=>cases f <;> simp [ao] at h
  | invoke r m=>simp [ao] at h
end
end Go.Ab
end

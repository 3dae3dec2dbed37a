import Derived.Test.YtdfmiamebejhoaaGM12b
set_option linter.all false
section
namespace Go.Ab
open Go.RowKit
structure gq (P:Program) (G:Laid) (E:Env) (C:Cal):Prop where
 ty:∀ t d,E.T t=some d→aT P t d
 call:vJ P G E C
section
variable {P:Program} {E:Env} {C:Cal} {w0:Bs} {w w':World} {I0 I R:Nat→Prop} {g g':Gh} {st st':ASt} {a:Act} {ov:List Value} {look:Look} {Q:Exit→Act→World→Prop} {id:Nat}
theorem AJ (hE:gq P w0.G E C) (hlk:∀ i b,look i=some b→st.look i=some b) (hs:ai w0 I0 NoR g st a ov w) {o:Oper} {e:Eff} (hh:(opL E (st.nid o.dst) look o.op (o.op.operands.toList.map st.ev)).hits C e) (ha:e.app st o.dst=some st') :
  Good P w0 I0 ov o st' a w Q:=by
 obtain ⟨dst,op,type,pos,after,guard⟩:=o
 cases op with
 | move x=>exact Cl hs hh ha
 | assign x=>exact zB hs hh ha
 | pick c x y=>exact BO hs hh ha
 | alloc t=>exact Bg hE.ty hs hh ha
 | box t x=>exact op_box hE.ty hs hh ha
 | build t parts=>exact AO hE.ty hs hh ha
 | makeFunc fn first cap=>exact wu hs hh ha
 | buildSlice t len parts =>
  simp only [opL] at hh
  cases hc:E.cold t && !(len.beq 0) with
  | true=>rw [hc] at hh; exact Co hE.ty hlk hs hh ha
  | false=>rw [hc] at hh; exact sK hE.ty hlk hs hh ha
 | load t x=>exact B5 hE.ty hlk hs hh ha
 | store t x y=>exact BF hE.ty hlk hs hh ha
 | nilCheck x=>exact wt hs hh ha
 | binOp op xt x y yt=>exact op_bin hE.ty hlk hs hh ha
 | unOp op xt x=>exact op_un hs hh ha
 | convert xt dt x=>exact xd hE.ty hlk hs hh ha
 | makeSlice t x y=>exact uX hE.ty hs hh ha
 | makeInterface t x=>exact op_ifc hE.ty hs hh ha
 | typeAssert x xt t ok=>exact Cy hE.ty hs hh ha
 | slice t x lo hi mx=>exact Ai hE.ty hlk hs hh ha
 | fieldAddr t x f=>exact uT hE.ty hs hh ha
 | field t x f=>exact A9 hE.ty hs hh ha
 | indexAddr t x y=>exact uH hE.ty hlk hs hh ha
 | index t x y=>exact A7 hE.ty hs hh ha
 | extract x j=>exact xn hs hh ha
 | call c =>
  obtain ⟨callee,args,tys⟩:=c
  cases callee with
  | builtin b =>
   have hops:(Op.call ⟨.builtin b,args,tys⟩).operands.toList=args.toList:=by simp [Op.operands,Call.operands]
   simp only [hops] at hh
   simp only [opL] at hh
   unfold d6 at hh
   split at hh
   ·rename_i x ty hargs htys
    obtain ⟨ox,rfl,hox⟩:=list1 hargs
    have:=arr1 htys
    subst this
    split at hh
    ·rename_i d hT
     rw [← hox] at hh
     exact wK hlk hs (hE.ty _ _ hT) hh ha
    ·exact hh.elim
   ·rename_i s x ty ty' hargs htys
    obtain ⟨os,ox,rfl,hos,hox⟩:=list2 hargs
    have:=arr2 htys
    subst this
    split at hh
    ·rename_i e1 d hel
     cases hb:Nat.beq ty ty' with
     | false =>
      simp only [hb,cond_false] at hh
      split at hh
      ·rename_i hu
       rw [← hos,← hox] at hh
       exact qK hE.ty hlk hs hel hu rfl hh ha
      ·exact hh.elim
     | true =>
      simp only [hb,cond_true] at hh
      have:=(ao _ _).1 hb
      subst this
      rw [← hos,← hox] at hh
      exact sF hE.ty hlk hs hel hh ha
    ·exact hh.elim
   ·rename_i s x ty ty' hargs htys
    obtain ⟨os,ox,rfl,hos,hox⟩:=list2 hargs
    have:=arr2 htys
    subst this
    split at hh
    ·rename_i e1 d hel
     cases hb:Nat.beq ty ty' with
     | false=>simp [hb,Prg.hits] at hh
     | true =>
      simp only [hb,cond_true] at hh
      have:=(ao _ _).1 hb
      subst this
      rw [← hos,← hox] at hh
      exact va hE.ty hlk hs hel hh ha
    ·exact hh.elim
   ·rename_i s ty hargs htys
    obtain ⟨os,rfl,hos⟩:=list1 hargs
    have:=arr1 htys
    subst this
    split at hh
    ·rename_i e1 d hel
     rw [← hos] at hh
     exact uk hE.ty hlk hs hel hh ha
    ·exact hh.elim
   ·rename_i x y hargs
    obtain ⟨ox,oy,rfl,hox,hoy⟩:=list2 hargs
    rw [← hox,← hoy] at hh
    exact rf hs hh ha
   ·rename_i x y hargs
    obtain ⟨ox,oy,rfl,hox,hoy⟩:=list2 hargs
    rw [← hox,← hoy] at hh
    exact rf hs hh ha
   ·exact hh.elim
  | value f =>
   cases f with
   | func f =>
    have hops:(Op.call ⟨.value (.func f),args,tys⟩).operands.toList=.func f :: args.toList:=by simp [Op.operands,Call.operands]
    simp only [hops,List.map_cons] at hh
    exact Ch hE.call hE.ty hlk hs hh ha
   | tmp t =>
    have hops:(Op.call ⟨.value (.tmp t),args,tys⟩).operands.toList=.tmp t :: args.toList:=by simp [Op.operands,Call.operands]
    simp only [hops,List.map_cons] at hh
    exact op_dyn hE.call hE.ty hlk hs hh ha
   | _=>simp [opL,Prg.hits] at hh
  | invoke r m=>simp [opL,Prg.hits] at hh
 | _=>simp [opL,Prg.hits] at hh
def AV.nf:AV→AV
 | .one (.t (.lit (.bool b)))=>.bl b
 | .tv (.lit (.bool b))=>.bl b
 | v=>v
def Eff.nfE:Eff→Eff
 | .val v=>.val v.nf
 | .new b v=>.new b v.nf
 | .upd i b v=>.upd i b v.nf
 | .gen ps v=>.gen ps v.nf
def ASt.nfS (st:ASt):ASt:=⟨st.slots.map AV.nf,st.boxes,st.out⟩
theorem aF (v:AV):v.nf=v∨∃ b,v.nf=.bl b∧(v=.one (.t (.lit (.bool b)))∨v=.tv (.lit (.bool b))):=by
 unfold AV.nf
 split
 ·exact .inr ⟨_,rfl,.inl rfl⟩
 ·exact .inr ⟨_,rfl,.inr rfl⟩
 ·exact .inl rfl
theorem s9 (v:AV):v.nf.nf=v.nf:=by
 rcases aF v with h | ⟨b,h,_⟩
 ·rw [h,h]
 ·rw [h]; rfl
theorem gi (v:AV):v.nf.tv? = v.tv? := by
 rcases aF v with h | ⟨b,h,rfl | rfl⟩
 ·rw [h]
 ·rfl
 ·rfl
theorem zP {v:AV} {u:Value}:bG w g look v.nf u ↔ bG w g look v u:=by
 rcases aF v with h | ⟨b,h,rfl | rfl⟩
 ·rw [h]
 ·rw [h]
  constructor
  ·intro h'
   have:u=.bool b:=h'
   subst this
   exact ⟨.lit _,rfl⟩
  ·intro h'
   exact bu h'.1
 ·rw [h]
  constructor
  ·intro h'
   have:u=.bool b:=h'
   subst this
   exact .lit _
  ·intro h'
   exact bu h'
theorem lT (v:AV):v.nf.dI=v.dI:=by
 rcases aF v with h | ⟨b,h,rfl | rfl⟩
 ·rw [h]
 ·rw [h]; rfl
 ·rw [h]; rfl
theorem b9 (e:Eff):dc e.nfE=dc e:=by cases e <;> simp only [Eff.nfE,dc,lT]
theorem nw (e:Eff):e.nfE.plain=e.plain:=by cases e <;> rfl
theorem wo (base:Nat) (own:List (List Nat × List Nat)) (e:Eff):e.nfE.mm base own=e.mm base own:=by cases e <;> rfl
theorem vX {S:Type} {agg:Bool} {n:Nat} {v:AV} {k k':List CA→Prg S} {e:S} (hk:∀ cs,(k cs).hits C e→(k' cs).hits C e) (h:(v.aZ agg n k).hits C e):(v.aZ agg n k').hits C e:=by
 unfold AV.aZ at h ⊢
 split at h
 ·rename_i c
  cases hc:c.kept with
  | true=>rw [hc] at h; exact hk _ h
  | false=>rw [hc] at h; exact h.elim
 ·exact ⟨h.1,hk _ h.2⟩
 ·exact hk _ h
 ·exact hk _ h
 ·rename_i cs
  cases hc:cs.length.beq n with
  | true=>rw [hc] at h; exact hk _ h
  | false=>rw [hc] at h; exact h.elim
 ·exact ⟨h.1,hk _ h.2⟩
 ·exact h.elim
theorem eT {S:Type} {agg:Bool} {n:Nat} {v:AV} {k:List CA→Prg S} {e:S} (h:(v.aZ agg n k).hits C e):(v.nf.aZ agg n k).hits C e:=by
 rcases aF v with h1 | ⟨b,h1,rfl | rfl⟩
 ·rwa [h1]
 ·rw [h1]
  cases agg with
  | false=>exact h
  | true=>exact h.elim
 ·rw [h1]
  cases agg with
  | false=>exact h.2
  | true=>exact (by simp [AV.aZ,TV.isAgg,Prg.hits] at h)
theorem lw {S:Type} {e:S}:∀ {vs:List AV} {k:List CA→Prg S},(jZ vs k).hits C e→(jZ (vs.map AV.nf) k).hits C e
 | [],k,h=>h
 | x :: vs, k, h => by
  simp only [jZ,List.map_cons] at h ⊢
  refine eT ?_
  unfold AV.aZ at h ⊢
  split at h
  ·rename_i c _
   cases hc:c.kept with
   | false=>simp [hc,Prg.hits] at h
   | true=>simp only [hc,cond_true] at h ⊢; exact lw h
  ·exact ⟨h.1,lw h.2⟩
  ·exact lw h
  ·exact lw h
  ·rename_i cs' hb; cases hb
  ·rename_i cs' hb; cases hb
  ·exact h.elim
theorem jj {f:FuncId} {e:Eff}:∀ {vs:List AV} {k:List CA→List CA},(jZ vs fun cs=>(.ret (.val (.clo f (k cs))):Out)).hits C e→∃ cs,e=.val (.clo f cs)
 | [],k,h=>⟨_,h.symm⟩
 | x :: vs, k, h => by
  simp only [jZ] at h
  unfold AV.aZ at h
  split at h
  ·rename_i c _
   cases hc:c.kept with
   | false=>simp [hc,Prg.hits] at h
   | true=>simp only [hc,cond_true] at h; exact jj (k:=fun cs=>k (_ ++ cs)) h
  ·exact jj (k:=fun cs=>k (_ ++ cs)) h.2
  ·exact jj (k:=fun cs=>k (_ ++ cs)) h
  ·exact jj (k:=fun cs=>k (_ ++ cs)) h
  ·rename_i hb; cases hb
  ·rename_i hb; cases hb
  ·exact h.elim
theorem pZ {S:Type} {at_:Nat→Option (Nat × Bool × Nat)} {k:List CA→Prg S} {e:S}:∀ {is:List Nat} {vs:List AV} {cs:List CA},(bQ at_ is vs cs k).hits C e→(bQ at_ is (vs.map AV.nf) cs k).hits C e
 | [],[],cs,h=>h
 | i :: is, x :: vs, cs, h => by
  simp only [bQ,List.map_cons] at h ⊢
  split at h
  ·rename_i off agg n hat
   have key:∀ ps,((bif (off + ps.length).ble cs.length && ps.length.beq n then bQ at_ is vs (bU cs off ps) k else .fail):Prg S).hits C e→((bif (off + ps.length).ble cs.length && ps.length.beq n then bQ at_ is (vs.map AV.nf) (bU cs off ps) k else .fail):Prg S).hits C e:=by
    intro ps hp
    cases hb:(off + ps.length).ble cs.length && ps.length.beq n with
    | false=>simp [hb,Prg.hits] at hp
    | true=>simp only [hb,cond_true] at hp ⊢; exact pZ hp
   refine eT ?_
   unfold AV.aZ at h ⊢
   split at h
   ·rename_i c
    cases hc:c.kept with
    | false=>simp [hc,Prg.hits] at h
    | true=>simp only [hc,cond_true] at h ⊢; exact key _ h
   ·exact ⟨h.1,key _ h.2⟩
   ·exact key _ h
   ·exact key _ h
   ·rename_i cs'
    have:=key cs'
    cases hc:cs'.length.beq n with
    | false=>simp [hc,Prg.hits] at h
    | true=>simp only [hc,cond_true] at h this ⊢; exact this h
   ·exact ⟨h.1,key _ h.2⟩
   ·exact h.elim
  ·exact h.elim
 | [],_ :: _,cs,h=>h.elim
 | _ :: _,[],cs,h=>h.elim
theorem uj {S:Type} {v:AV} {k:TV→Prg S}:sJ look v.nf k=sJ look v k:=by
 rcases aF v with h | ⟨b,h,rfl | rfl⟩
 ·rw [h]
 ·rfl
 ·rfl
theorem By {S:Type} {v:AV} {k:TV→Prg S}:rI look v.nf k=rI look v k:=by
 rcases aF v with h | ⟨b,h,rfl | rfl⟩
 ·rw [h]
 ·rfl
 ·rfl
theorem A6 {S:Type} {v:AV} {k:TV→List (Nat × Nat)→Prg S}:sf look v.nf k=sf look v k:=by
 rcases aF v with h | ⟨b,h,rfl | rfl⟩
 ·rw [h]
 ·rfl
 ·rfl
theorem jx {S:Type}:∀ {vs:List AV} {k:List TV→Prg S},lends look (vs.map AV.nf) k=lends look vs k
 | [],k=>rfl
 | v :: vs,k=>by simp only [List.map_cons,lends,By,jx]
theorem rK {S:Type}:∀ {vs:List AV} {k:List TV→List (Nat × Nat)→Prg S},hands look (vs.map AV.nf) k=hands look vs k
 | [],k=>rfl
 | v :: vs,k=>by simp only [List.map_cons,hands,A6,rK]
theorem AI {E:Env} {id:Nat} {look:Look} {f:FuncId} {ld:eZ} (vs:List AV):nF E id look f ld (vs.map AV.nf)=nF E id look f ld vs:=by
 cases vs with
 | nil=>rfl
 | cons v l =>
  rcases aF v with h | ⟨b,h,rfl | rfl⟩
  ·simp only [List.map_cons,h]
   cases v with
   | one c =>
    cases c with
    | ptr i off =>
     cases off with
     | zero=>simp only [nF,rK]
     | succ n=>rfl
    | _=>rfl
   | _=>rfl
  ·simp only [List.map_cons,h]; rfl
  ·simp only [List.map_cons,h]; rfl
theorem Bt {look:Look} {f:FuncId} {c:Nat × Nat} (vs:List AV):m6 look f c (vs.map AV.nf)=m6 look f c vs:=by
 cases vs with
 | nil=>rfl
 | cons v l =>
  rcases aF v with h | ⟨b,h,rfl | rfl⟩
  ·simp only [List.map_cons,h]
   cases v with
   | one c =>
    cases c with
    | ptr i off =>
     cases off with
     | zero=>simp only [m6,jx]
     | succ n=>rfl
    | _=>rfl
   | _=>rfl
  ·simp only [List.map_cons,h]; rfl
  ·simp only [List.map_cons,h]; rfl
theorem BD {look:Look} {f:FuncId} (vs:List AV):kM look f (vs.map AV.nf)=kM look f vs:=by
 cases vs with
 | nil=>rfl
 | cons v l =>
  rcases aF v with h | ⟨b,h,rfl | rfl⟩
  ·simp only [List.map_cons,h]
   cases v with
   | one c=>cases c <;> simp only [kM,jx]
   | _=>rfl
  ·simp only [List.map_cons,h]; rfl
  ·simp only [List.map_cons,h]; rfl
theorem Cd {E:Env} {id:Nat} {look:Look} {f:FuncId} {i:Nat} (vs:List AV):vi E id look f i (vs.map AV.nf)=vi E id look f i vs:=by
 simp only [vi,jx]
theorem Ca (d:TyD) (t:TypeId) (v:AV):Al d t v.nf=Al d t v:=by
 rcases aF v with h | ⟨b,h,rfl | rfl⟩
 ·rw [h]
 ·rfl
 ·rfl
theorem zT (d:TyD) (t:TypeId) (v:AV):sR d t v.nf=sR d t v:=by
 simp only [sR,gi]
theorem zy {S:Type} {v:Option AV} {k:Option Nat→Prg S}:fd (v.map AV.nf) k=fd v k:=by
 cases v with
 | none=>rfl
 | some v=>simp only [fd,Df,gi]
theorem tw (v:AV):qz v.nf=qz v:=by
 rcases aF v with h | ⟨b,h,rfl | rfl⟩
 ·rw [h]
 ·rfl
 ·rfl
theorem yq {S:Type} {d:TyD} {dest:Option Nat} {v:AV} {k:List (List TV)→List Prim→Prg S}:wv look d dest v.nf k=wv look d dest v k:=by
 rcases aF v with h | ⟨b,h,rfl | rfl⟩
 ·rw [h]
 ·rfl
 ·rfl
theorem lK {kd:Kd} {sz:Nat} {x:AV} {lo hi:Option AV}:iv look kd sz x.nf (lo.map AV.nf) (hi.map AV.nf)=iv look kd sz x lo hi:=by
 simp only [iv,gi,zy]
 rcases aF x with h | ⟨b,h,rfl | rfl⟩
 ·rw [h]
  cases lo <;> rfl
 ·rfl
 ·rfl
theorem BI (v:AV):tI v.nf=tI v:=by
 rcases aF v with h | ⟨b,h,rfl | rfl⟩
 ·rw [h]
 ·rfl
 ·rfl
theorem opL_nf {op : Op} {vs : List AV} {e : Eff} (h : (opL E id look op vs).hits C e) : ∃ e', (opL E id look op (vs.map AV.nf)).hits C e' ∧ e'.nfE = e.nfE := by
 cases op with
 | move x =>
  rcases vs with _ | ⟨v,_ | ⟨v',r⟩⟩ <;> first | exact h.elim | skip
  cases h
  exact ⟨_,rfl,by simp [Eff.nfE,s9]⟩
 | assign x =>
  rcases vs with _ | ⟨v,_ | ⟨v',r⟩⟩ <;> first | exact h.elim | skip
  cases h
  exact ⟨_,rfl,by simp [Eff.nfE,s9]⟩
 | pick c x y =>
  rcases vs with _ | ⟨v,_ | ⟨v',_ | ⟨v'',_ | ⟨v3,r⟩⟩⟩⟩ <;> first | exact h.elim | skip
  simp only [opL] at h
  split at h
  ·rename_i b
   cases h
   refine ⟨_,rfl,?_⟩
   cases b <;> simp [Eff.nfE,s9]
  ·rename_i v
   obtain ⟨b,hb,h⟩:=h
   have hv:v=.lit (.bool b):=by
    unfold asBool at hb
    split at hb
    ·cases hb; rfl
    ·cases hb
   subst hv
   rcases h with ⟨rfl,h⟩ | ⟨rfl,h⟩ <;> (cases h; exact ⟨_,rfl,by simp [Eff.nfE,s9]⟩)
  ·rename_i v
   obtain ⟨b,hb,h⟩:=h
   have hv:v=.lit (.bool b):=by
    unfold asBool at hb
    split at hb
    ·cases hb; rfl
    ·cases hb
   subst hv
   rcases h with ⟨rfl,h⟩ | ⟨rfl,h⟩ <;> (cases h; exact ⟨_,rfl,by simp [Eff.nfE,s9]⟩)
  ·exact h.elim
 | alloc t =>
  rcases vs with _ | ⟨v,r⟩ <;> first | exact h.elim | exact ⟨e,h,rfl⟩
 | box t x =>
  rcases vs with _ | ⟨v,_ | ⟨v',r⟩⟩ <;> first | exact h.elim | skip
  refine ⟨e,?_,rfl⟩
  simp only [opL,List.map_cons,List.map_nil] at h ⊢
  split at h
  ·exact eT h
  ·exact h.elim
 | makeFunc fn first cap =>
  cases fn with
  | func f =>
   have:∃ cs,e=.val (.clo f cs):=by
    simp only [opL] at h
    cases hb:first.size.beq 0 with
    | false=>simp [hb,Prg.hits] at h
    | true =>
     simp only [hb,cond_true] at h
     exact jj (k:=fun l=>l) h
   obtain ⟨cs,rfl⟩:=this
   refine ⟨_,?_,rfl⟩
   simp only [opL] at h ⊢
   cases hb:first.size.beq 0 with
   | false=>simp [hb,Prg.hits] at h
   | true=>simp only [hb,cond_true] at h ⊢; exact lw h
  | _=>exact h.elim
 | build t parts =>
  refine ⟨e,?_,rfl⟩
  simp only [opL] at h ⊢
  split at h
  ·rename_i d hd
   cases hb:kF E.T d.kd with
   | false=>simp [hb,Prg.hits] at h
   | true=>simp only [hb,cond_true] at h ⊢; exact pZ h
  ·exact h.elim
 | buildSlice t len parts =>
  refine ⟨e,?_,rfl⟩
  simp only [opL] at h ⊢
  cases hc:E.cold t && !(len.beq 0) with
  | true =>
   rw [hc] at h
   simp only [cond_true] at h ⊢
   unfold rS at h ⊢
   split at h
   ·exact pZ h
   ·exact h.elim
  | false =>
   rw [hc] at h
   simp only [cond_false] at h ⊢
   unfold ij at h ⊢
   split at h
   ·exact pZ h
   ·exact h.elim
 | load t x =>
  rcases vs with _ | ⟨v,_ | ⟨v',r⟩⟩ <;> first | exact h.elim | skip
  refine ⟨e,?_,rfl⟩
  rcases aF v with h1 | ⟨b,h1,rfl | rfl⟩
  ·simpa only [List.map_cons,List.map_nil,h1] using h
  ·simp only [opL] at h; split at h <;> exact h.elim
  ·simp only [opL] at h; split at h <;> exact h.elim
 | store t x y =>
  rcases vs with _ | ⟨v,_ | ⟨v',_ | ⟨v'',r⟩⟩⟩ <;> first | exact h.elim | skip
  refine ⟨e,?_,rfl⟩
  simp only [opL,List.map_cons,List.map_nil] at h ⊢
  split at h
  ·rcases aF v with h1 | ⟨b,h1,rfl | rfl⟩
   ·rw [h1]
    unfold uK at h ⊢
    split at h
    ·rename_i e0 _ _ i0 off0 len0 n0
     cases hk0:e0.kd.isAgg with
     | true=>rw [hk0] at h; exact h.elim
     | false =>
      rw [hk0] at h
      simp only [cond_false] at h ⊢
      split at h
      ·exact eT h
      ·exact h.elim
    ·exact eT h
    ·exact eT h
    ·exact h.elim
   ·exact h.elim
   ·exact h.elim
  ·exact h.elim
 | nilCheck x =>
  rcases vs with _ | ⟨v,_ | ⟨v',r⟩⟩ <;> first | exact h.elim | skip
  refine ⟨e,?_,rfl⟩
  rcases aF v with h1 | ⟨b,h1,rfl | rfl⟩
  ·simpa only [List.map_cons,List.map_nil,h1] using h
  ·exact h.elim
  ·exact h.elim
 | binOp op xt x y yt =>
  rcases vs with _ | ⟨v,_ | ⟨v',_ | ⟨v'',r⟩⟩⟩ <;> first | exact h.elim | skip
  refine ⟨e,?_,rfl⟩
  simp only [opL,List.map_cons,List.map_nil] at h ⊢
  split at h
  ·unfold Cf at h ⊢
   split at h
   ·split at h
    ·exact eT (vX (fun cs h=>eT h) h)
    ·exact h.elim
   ·simp only [Ct,BI] at h ⊢
    exact h
   ·simp only [Cr,uj,gi] at h ⊢
    exact h
  ·exact h.elim
 | unOp op xt x =>
  rcases vs with _ | ⟨v,_ | ⟨v',r⟩⟩ <;> first | exact h.elim | skip
  rcases aF v with h1 | ⟨b,h1,h2⟩
  ·refine ⟨e,?_,rfl⟩
   simpa only [List.map_cons,List.map_nil,h1] using h
  ·have hv:∃ t,(opL E id look (.unOp op xt x) [v]).hits C e→(Prg.tv (pun op (.lit (.bool b))) vt).hits C e:=⟨(),by rcases h2 with rfl | rfl <;> intro h <;> cases op <;> exact h⟩
   obtain ⟨_,hv⟩:=hv
   obtain ⟨z,hz,hh⟩:=hv h
   cases op with
   | not =>
    simp only [pun,C4] at hz
    subst hz
    cases hh
    refine ⟨.val (.bl !b),?_,rfl⟩
    simp only [List.map_cons,List.map_nil,h1]
    rfl
   | _=>simp [pun] at hz
 | convert xt dt x =>
  rcases vs with _ | ⟨v,_ | ⟨v',r⟩⟩ <;> first | exact h.elim | skip
  refine ⟨e,?_,rfl⟩
  simp only [opL,List.map_cons,List.map_nil,yh,gi,uj] at h ⊢
  exact h
 | makeSlice t x y =>
  rcases vs with _ | ⟨v,_ | ⟨v',_ | ⟨v'',r⟩⟩⟩ <;> first | exact h.elim | skip
  refine ⟨e,?_,rfl⟩
  simp only [opL,List.map_cons,List.map_nil,gi] at h ⊢
  exact h
 | slice t x lo hi mx =>
  refine ⟨e,?_,rfl⟩
  cases mx with
  | some m=>rcases vs with _ | ⟨v,r⟩ <;> exact h.elim
  | none =>
   rcases vs with _ | ⟨v,r⟩
   ·exact h.elim
   ·simp only [opL, List.map_cons] at h ⊢
    split at h
    ·rename_i d hT
     split at h
     ·rename_i sz hsz
      cases lo with
      | none =>
       cases hi with
       | none =>
        rcases r with _ | ⟨l,r⟩
        ·have:=lK (look:=look) (kd:=d.kd) (sz:=sz) (x:=v) (lo:=none) (hi:=none)
         simp only [Option.map_none] at this
         simp only [List.map_nil]
         rw [this]; exact h
        ·exact h.elim
       | some hh =>
        rcases r with _ | ⟨l,_ | ⟨l',r⟩⟩
        ·exact h.elim
        ·have:=lK (look:=look) (kd:=d.kd) (sz:=sz) (x:=v) (lo:=none) (hi:=some l)
         simp only [Option.map_none,Df] at this
         simp only [List.map_cons,List.map_nil]
         rw [this]; exact h
        ·exact h.elim
      | some ll =>
       cases hi with
       | none =>
        rcases r with _ | ⟨l,_ | ⟨l',r⟩⟩
        ·exact h.elim
        ·have:=lK (look:=look) (kd:=d.kd) (sz:=sz) (x:=v) (lo:=some l) (hi:=none)
         simp only [Option.map_none,Df] at this
         simp only [List.map_cons,List.map_nil]
         rw [this]; exact h
        ·exact h.elim
       | some hh =>
        rcases r with _ | ⟨l,_ | ⟨l',_ | ⟨l'',r⟩⟩⟩
        ·exact h.elim
        ·exact h.elim
        ·have:=lK (look:=look) (kd:=d.kd) (sz:=sz) (x:=v) (lo:=some l) (hi:=some l')
         simp only [Df] at this
         simp only [List.map_cons,List.map_nil]
         rw [this]; exact h
        ·exact h.elim
     ·exact h.elim
    ·exact h.elim
 | fieldAddr t x f =>
  rcases vs with _ | ⟨v,_ | ⟨v',r⟩⟩ <;> first | exact h.elim | skip
  refine ⟨e,?_,rfl⟩
  rcases aF v with h1 | ⟨b,h1,rfl | rfl⟩
  ·simpa only [List.map_cons,List.map_nil,h1] using h
  ·simp only [opL] at h
   split at h
   ·rename_i hv
    cases hv
    split at h
    ·rename_i n _ _
     cases hb:Nat.blt 0 n <;> simp [hb,CA.add,Prg.hits] at h
    ·exact h.elim
   ·exact h.elim
  ·simp only [opL] at h
   split at h
   ·rename_i hv; cases hv
   ·exact h.elim
 | field t x f =>
  rcases vs with _ | ⟨v,_ | ⟨v',r⟩⟩ <;> first | exact h.elim | skip
  refine ⟨e,?_,rfl⟩
  rcases aF v with h1 | ⟨b,h1,rfl | rfl⟩
  ·simpa only [List.map_cons,List.map_nil,h1] using h
  ·simp only [opL] at h
   split at h
   ·split at h <;> exact h.elim
   ·exact h.elim
  ·simp only [opL] at h
   split at h
   ·split at h
    ·simp [uJ,TV.isAgg,Prg.hits] at h
    ·exact h.elim
   ·exact h.elim
 | indexAddr t x y =>
  rcases vs with _ | ⟨v,_ | ⟨v',_ | ⟨v'',r⟩⟩⟩ <;> first | exact h.elim | skip
  refine ⟨e,?_,rfl⟩
  simp only [opL,List.map_cons,List.map_nil] at h ⊢
  split at h
  ·rcases aF v with h1 | ⟨b,h1,rfl | rfl⟩
   ·simp only [h1,oE,gi] at h ⊢; exact h
   ·simp only [oE,gi] at h ⊢; exact h
   ·simp only [oE,gi] at h ⊢; exact h
  ·unfold pX at h ⊢
   rw [gi]
   rcases aF v with h1 | ⟨b,h1,rfl | rfl⟩
   ·rw [h1]; exact h
   ·split at h
    ·split at h <;> first | exact h.elim | (rename_i hx _; cases hx)
    ·exact h.elim
   ·split at h
    ·split at h <;> first | exact h.elim | (rename_i hx _; cases hx)
    ·exact h.elim
 | index t x y =>
  rcases vs with _ | ⟨v,_ | ⟨v',_ | ⟨v'',r⟩⟩⟩ <;> first | exact h.elim | skip
  refine ⟨e,?_,rfl⟩
  simp only [opL,List.map_cons,List.map_nil,gi] at h ⊢
  split at h
  ·exact h
  ·unfold qa at h ⊢
   rw [gi]
   rcases aF v with h1 | ⟨b,h1,rfl | rfl⟩
   ·rw [h1]; exact h
   ·split at h
    ·split at h <;> first | exact h.elim | (rename_i hx _; cases hx)
    ·exact h.elim
   ·split at h
    ·split at h <;> first | exact h.elim | (rename_i hx _; cases hx)
    ·exact h.elim
 | extract x j =>
  rcases vs with _ | ⟨v,_ | ⟨v',r⟩⟩ <;> first | exact h.elim | skip
  refine ⟨e,?_,rfl⟩
  rcases aF v with h1 | ⟨b,h1,rfl | rfl⟩
  ·simpa only [List.map_cons,List.map_nil,h1] using h
  ·exact h.elim
  ·exact h.elim
 | call c =>
  refine ⟨e,?_,rfl⟩
  obtain ⟨callee,args,tys⟩:=c
  cases callee with
  | builtin b =>
   simp only [opL] at h ⊢
   unfold d6 at h
   split at h
   ·rename_i x ty htys
    simp only [htys,d6,List.map_cons,List.map_nil]
    split at h
    ·rename_i d hd
     have key:∀ kd,(xA look kd x).hits C e→(xA look kd x.nf).hits C e:=by intro kd; cases kd <;> simp only [xA,uj] <;> exact fun h=>h
     exact key _ h
    ·exact h.elim
   ·rename_i s x ty ty' htys
    simp only [htys,d6,List.map_cons,List.map_nil]
    split at h
    ·rename_i _ d hel
     cases hb:Nat.beq ty ty' with
     | false =>
      simp only [hb,cond_false] at h ⊢
      split at h
      ·rename_i hu
       unfold lj at h ⊢
       rw [gi]
       rcases aF s with h1 | ⟨b,h1,rfl | rfl⟩
       ·rw [h1]; exact h
       ·exact h
       ·exact h
      ·exact h.elim
     | true =>
      simp only [hb,cond_true] at h ⊢
      unfold nz at h ⊢
      rw [yq,tw]
      rcases aF s with h1 | ⟨b,h1,rfl | rfl⟩
      ·rw [h1]; exact h
      ·exact h
      ·exact h
    ·exact h.elim
   ·rename_i s x ty ty' htys
    simp only [htys,d6,List.map_cons,List.map_nil]
    split at h
    ·rename_i _ d hel
     cases hb:Nat.beq ty ty' with
     | false=>simp [hb,Prg.hits] at h
     | true =>
      simp only [hb,cond_true] at h ⊢
      unfold yz at h ⊢
      rw [yq,tw]
      rcases aF s with h1 | ⟨b,h1,rfl | rfl⟩
      ·rw [h1]; exact h
      ·exact h
      ·exact h
    ·exact h.elim
   ·rename_i s ty htys
    simp only [htys,d6,List.map_cons,List.map_nil]
    split at h
    ·unfold ut at h ⊢
     rcases aF s with h1 | ⟨b,h1,rfl | rfl⟩
     ·rw [h1]; exact h
     ·exfalso
      revert h
      cases Nat.blt 0 _ <;> exact fun h=>h.elim
     ·exfalso
      revert h
      cases Nat.blt 0 _ <;> exact fun h=>h.elim
    ·exact h.elim
   ·simp only [d6,List.map_cons,List.map_nil,wk,gi] at h ⊢
    exact h
   ·simp only [d6,List.map_cons,List.map_nil,wk,gi] at h ⊢
    exact h
   ·exact h.elim
  | value f =>
   cases f with
   | func f =>
    rcases vs with _ | ⟨v,r⟩
    ·exact h.elim
    ·simp only [opL,List.map_cons,mg,jx,rK,AI,Bt,BD] at h ⊢
     exact h
   | tmp t =>
    rcases vs with _ | ⟨v,r⟩
    ·exact h.elim
    ·simp only [opL,List.map_cons,gi,jx,Cd] at h ⊢
     rcases aF v with h1 | ⟨b,h1,rfl | rfl⟩
     ·rw [h1]; exact h
     ·exact h
     ·exact h
   | _=>exact h.elim
  | invoke r m=>exact h.elim
 | makeInterface t x =>
  rcases vs with _ | ⟨v,_ | ⟨v',r⟩⟩ <;> first | exact h.elim | skip
  refine ⟨e,?_,rfl⟩
  simp only [opL,List.map_cons,List.map_nil,Ca] at h ⊢
  exact h
 | typeAssert x xt t ok =>
  rcases vs with _ | ⟨v,_ | ⟨v',r⟩⟩ <;> cases ok <;> first | exact h.elim | skip
  refine ⟨e,?_,rfl⟩
  simp only [opL,List.map_cons,List.map_nil,zT] at h ⊢
  exact h
 | _=>exact h.elim
theorem kT (st:ASt):st.nfS.look=st.look:=rfl
theorem nr (st:ASt):st.nfS.base=st.base:=rfl
theorem uB (st:ASt) (d:Option Tmp):st.nfS.nid d=st.nid d:=by cases d <;> rfl
theorem iD (st:ASt) (d:Option Tmp) (v:AV):(st.put d v).nfS=st.nfS.put d v.nf:=by
 cases d with
 | none=>rfl
 | some d=>simp [ASt.nfS,ASt.put,ah,List.map_set]
theorem rh (st:ASt) (i:Nat) (b:Option BC):(st.ab i b).nfS=st.nfS.ab i b:=rfl
theorem iZ (st:ASt) (t:Nat):nth (.one .junk) st.nfS.slots t=(nth (.one .junk) st.slots t).nf:=by
 simp only [ASt.nfS,aR,C8]
 cases st.slots[t]? <;> rfl
theorem zI (ps:List Nat) (st:ASt) (d:Option Nat) (e:Eff):ca ps st.nfS d e.nfE=ca ps st d e:=by
 unfold ca
 congr 1
 funext k
 cases d with
 | none=>rw [nr,b9]
 | some d=>simp only [nr,b9,iZ,lT]
theorem m0 (k s:Nat):∀ (l:List AV) (n:Nat),e9 k s n (l.map AV.nf)=e9 k s n l
 | [],n=>rfl
 | v :: l,n=>by simp only [List.map_cons,e9,lT,m0 k s l (n + 1)]
theorem we {k:Nat} {v:AV} (h:jq k v=true):jq k v.nf=true:=by
 unfold jq at h
 split at h
 ·exact h
 ·cases h
theorem ig {e:Eff} {i:Nat} {y:TV} (h:i7 e=some (i,y)):e=.gen [.drop i 0 [] false,.root i 0 y] (.one (.sref i 0 [])):=by
 unfold i7 at h
 split at h
 ·rename_i i' j y' k
  cases hb:i'.beq j && i'.beq k with
  | false=>rw [hb] at h; cases h
  | true =>
   simp only [hb,cond_true,C4,Prod.mk.injEq] at h
   simp only [C5] at hb
   obtain ⟨rfl,rfl⟩:=h
   rw [← (ao _ _).1 hb.1,← (ao _ _).1 hb.2]
 ·cases h
theorem mc (i:Nat) (y:TV):i7 (.gen [.drop i 0 [] false,.root i 0 y] (.one (.sref i 0 [])))=some (i,y):=by
 simp only [i7,(ao i i).2 rfl,Bool.and_self,cond_true]
theorem zt {o:Item} {st:ASt} {e:Eff} (h:cR o st e=true):cR o st.nfS e.nfE=true:=by
 unfold cR at h ⊢
 split at h
 ·rename_i s i y h1 h2
  have:=ig h2
  subst this
  simp only [C5] at h
  simp only [h1,Eff.nfE,AV.nf,mc,C5]
  refine ⟨⟨⟨⟨⟨h.1.1.1.1.1,?_⟩,h.1.1.1.2⟩,?_⟩,h.1.2⟩,h.2⟩
  ·rw [iZ]; exact we h.1.1.1.1.2
  ·rw [show st.nfS.slots=st.slots.map AV.nf from rfl,m0]; exact h.1.1.2
 ·cases h
theorem qT (st:ASt) (x:Operand):st.nfS.ev x=(st.ev x).nf:=by
 cases x with
 | tmp t=>exact iZ st t
 | const v =>
  cases v with
  | bool b=>rfl
  | _=>first | rfl | (simp only [ASt.ev]; cases Value.oneCell' _ <;> rfl)
 | global g=>rfl
 | func f=>rfl
theorem rJ:∀ (l:List AV),ck (l.map AV.nf)=ck l
 | []=>rfl
 | v :: l=>by simp only [List.map_cons,ck,gi,rJ l]
theorem jA (e:Eff):gY e.nfE=gY e:=by
 cases e with
 | new b v=>cases b <;> rfl
 | _=>rfl
theorem zH {i:Item} {st:ASt} {e:Eff}:gI i st.nfS e.nfE=gI i st e:=by
 unfold gI
 have:i.o.op.operands.toList.map st.nfS.ev=(i.o.op.operands.toList.map st.ev).map AV.nf:=by
  rw [List.map_map]
  exact List.map_congr_left fun x _=>qT st x
 rw [this,rJ,jA,b9]
 rfl
theorem vS:∀ (l:List AV),fw (l.map AV.nf)=fw l
 | []=>rfl
 | v :: l=>by simp only [List.map_cons,fw,lT,vS l]
theorem oL (e:Eff):kO e.nfE=kO e:=by cases e <;> rfl
theorem xp (e:Eff):drE e.nfE=drE e:=by cases e <;> rfl
theorem sk (k:Nat) (e:Eff):tS k e.nfE=tS k e:=by cases e <;> rfl
theorem qe (v:AV):(v.nf.bN CA.deep).dI=(v.bN CA.deep).dI:=by
 rcases aF v with h | ⟨b,h,rfl | rfl⟩
 ·rw [h]
 ·rw [h]; rfl
 ·rw [h]; rfl
theorem vU:∀ (l:List AV),fw (bS CA.deep (l.map AV.nf))=fw (bS CA.deep l)
 | []=>rfl
 | v :: l=>by simp only [List.map_cons,bS,fw,qe,vU l]
theorem pF (e:Eff):nM e.nfE=nM e:=by
 cases e with
 | val v=>exact qe v
 | new b v=>exact b9 (.new b v)
 | upd i b v=>exact b9 (.upd i b v)
 | gen ps v=>exact b9 (.gen ps v)
theorem yU {i:Item} {st:ASt} {e:Eff}:cj i st.nfS e.nfE=cj i st e:=by
 unfold cj
 simp only [oL,xp,sk]
 rfl
theorem zm {i:Item} {st:ASt} {e:Eff}:cP i st.nfS e.nfE=cP i st e:=by
 unfold cP
 have hd:∀ d b,iF st.nfS d b=iF st d b:=fun d b=>by
  cases d with
  | none=>rfl
  | some d =>
   have:=qT st (.tmp d)
   simp only [ASt.ev] at this
   simp only [iF,this,lT]
 have hd2:∀ d b,gh st.nfS d b=gh st d b:=fun d b=>by
  cases d with
  | none=>rfl
  | some d =>
   have:=qT st (.tmp d)
   simp only [ASt.ev] at this
   simp only [gh,this,qe]
 simp only [hd,hd2,b9,pF]
 have:i.o.op.operands.toList.map st.nfS.ev=(i.o.op.operands.toList.map st.ev).map AV.nf:=by
  rw [List.map_map]
  exact List.map_congr_left fun x _=>qT st x
 rw [this,vS,vU]
 rfl
theorem okE_nf {i:Item} {st:ASt} {e:Eff} (h:okE i st e=true):okE i st.nfS e.nfE=true:=by
 unfold okE at h ⊢
 rw [Bool.or_eq_true] at h ⊢
 rcases h with h | h
 ·rw [yU]; exact .inl h
 refine .inr ?_
 rw [Bool.or_eq_true] at h ⊢
 rcases h with h | h
 ·rw [nw,wo,nr,zI,zH,zm]; exact .inl h
 ·exact .inr (zt h)
theorem uR (hs:Sim w0 I0 st a ov w):Sim w0 I0 st.nfS a ov w:=by
 obtain ⟨g,hs⟩:=hs
 refine ⟨g,hs.below,hs.sub,hs.lt,hs.old,by simp [ASt.nfS,hs.len],hs.defers,fun t v hv=>?_,hs.olen,hs.outs,hs.cells,hs.trees,hs.foot,hs.apart,hs.apartR,hs.res,hs.base,hs.out⟩
 simp only [ASt.nfS,C8] at hv
 cases hsl:st.slots[t]? with
 | none=>simp [hsl] at hv
 | some u =>
  simp only [hsl,Df,C4] at hv
  subst hv
  exact zP.2 (hs.slots t u hsl)
theorem eb (hs:Sim w0 I0 st.nfS a ov w):Sim w0 I0 st a ov w:=by
 obtain ⟨g,hs⟩:=hs
 refine ⟨g,hs.below,hs.sub,hs.lt,hs.old,by have:=hs.len; simpa [ASt.nfS] using this,hs.defers,fun t v hv=>?_,hs.olen,hs.outs,hs.cells,hs.trees,hs.foot,hs.apart,hs.apartR,hs.res,hs.base,hs.out⟩
 exact zP.1 (hs.slots t v.nf (by simp [ASt.nfS,hv]))
theorem m9 (i r:Nat) (js:List Nat) (b:Bool) (v:AV):(v.bN (CA.drop i r js b)).nf=v.nf.bN (CA.drop i r js b):=by
 rcases aF v with h | ⟨b,h,rfl | rfl⟩
 ·rw [h]
  cases v with
  | one c =>
   have key:∀ c:CA,c.drop i r js b=c∨c.drop i r js b=.junk:=fun c=>by
    rcases ep i r js b c with ⟨h,_⟩ | h
    ·exact .inl h
    ·exact .inr h
   simp only [AV.bN]
   rcases key c with h' | h'
   ·rw [h',h]
   ·rw [h']; rfl
  | tv x=>exact h
  | _=>rfl
 ·rfl
 ·rfl
theorem Bj (st:ASt) (i r:Nat) (js:List Nat) (b:Bool):(st.aq (CA.drop i r js b)).nfS=st.nfS.aq (CA.drop i r js b):=by
 simp only [ASt.nfS,ASt.aq]
 congr 1
 apply List.ext_getElem?
 intro t
 simp only [C8,lG]
 cases st.slots[t]? with
 | none=>rfl
 | some v=>simp [m9]
theorem pl (i:Nat) (v:AV):(v.bN (CA.unM i)).nf=v.nf.bN (CA.unM i):=by
 cases v with
 | one c =>
  cases c with
  | t x =>
   cases x with
   | lit u=>cases u <;> rfl
   | _=>rfl
  | may j ty =>
   simp only [AV.bN,CA.unM,AV.nf]
   cases j.beq i <;> rfl
  | _=>rfl
 | tv x =>
  cases x with
  | lit u=>cases u <;> rfl
  | _=>rfl
 | _=>rfl
theorem BY (st:ASt) (i:Nat):(st.aq (CA.unM i)).nfS=st.nfS.aq (CA.unM i):=by
 simp only [ASt.aq,ASt.nfS]
 congr 1
 induction st.slots with
 | nil=>rfl
 | cons v l ih=>simp only [bS,List.map_cons,pl,ih]
theorem tB {i:Nat} {b:BC} (h:st.bq i b=some st'):st.nfS.bq i b=some st'.nfS:=by
 obtain ⟨h1,h2,rfl⟩:=bk h
 have h2':i.blt st.nfS.boxes.length=true:=by simpa [ASt.nfS] using h2
 simp only [ASt.bq,kT,h1,h2',cond_true,rh]
theorem pA {d:Option Tmp}:∀ {ps:List Prim} {st st':ASt},ae d ps st=some st'→ae d ps st.nfS=some st'.nfS
 | [],st,st',h=>by simp only [ae,C4] at h; subst h; rfl
 | p :: ps, st, st', h => by
  simp only [ae] at h ⊢
  cases h1:p.app st d with
  | none=>simp [h1] at h
  | some s1 =>
   simp only [h1] at h
   have:p.app st.nfS d=some s1.nfS:=by
    cases p with
    | drop i r js b =>
     simp only [Prim.app,C4] at h1 ⊢
     subst h1
     rw [Bj]
    | root i r x =>
     simp only [Prim.app,kT] at h1 ⊢
     split at h1
     ·rename_i b hb
      simp only [C4] at h1
      subst h1
      rfl
     ·cases h1
    | frz i r =>
     simp only [Prim.app,kT] at h1 ⊢
     split at h1
     ·rename_i x hx
      split at h1
      ·rename_i b hb
       simp only [C4] at h1
       subst h1
       rfl
      ·cases h1
     ·cases h1
    | unmay i =>
     simp only [Prim.app,C4] at h1 ⊢
     subst h1
     rw [BY]
    | newB b =>
     cases d with
     | none=>simp [Prim.app] at h1
     | some d =>
      simp only [Prim.app] at h1 ⊢
      rw [uB]
      exact tB h1
    | setB i cs =>
     simp only [Prim.app,kT] at h1 ⊢
     split at h1
     ·simp only [C4] at h1
      subst h1
      rfl
     ·cases h1
   rw [this]
   exact pA h
theorem app_nf {e:Eff} {d:Option Tmp} (h:e.app st d=some st'):e.nfE.app st.nfS d=some st'.nfS:=by
 cases e with
 | val v =>
  simp only [Eff.app,Eff.nfE,C4] at h ⊢
  subst h
  rw [iD]
 | new b v =>
  cases d with
  | none=>simp [Eff.app] at h
  | some d =>
   simp only [Eff.app,Eff.nfE] at h ⊢
   rw [uB]
   split at h
   ·rename_i s1 hs1
    simp only [C4] at h
    subst h
    rw [tB hs1]
    simp only [iD]
   ·cases h
 | upd i b v =>
  simp only [Eff.app,Eff.nfE,C4] at h ⊢
  subst h
  rw [iD,rh]
 | gen ps v =>
  simp only [Eff.app,Eff.nfE] at h ⊢
  split at h
  ·rename_i s1 hs1
   simp only [C4] at h
   subst h
   rw [pA hs1]
   simp only [iD]
  ·cases h
theorem ka {d:Option Tmp} {v:AV} (hs:Sim w0 I0 (st.put d v) a ov w):Sim w0 I0 (st.put d v.nf) a ov w:=by
 apply eb
 have:=uR hs
 rw [iD] at this ⊢
 rwa [s9]
theorem yE {e:Eff} {d:Option Tmp} (h:e.nfE.app st d=some st'):∃ st1,e.app st d=some st1∧∀ w0 I0 a ov w,Sim w0 I0 st1 a ov w→Sim w0 I0 st' a ov w:=by
 cases e with
 | val v =>
  simp only [Eff.app,Eff.nfE,C4] at h ⊢
  subst h
  exact ⟨_,rfl,fun w0 I0 a ov w hs=>ka hs⟩
 | new b v =>
  cases d with
  | none=>simp [Eff.app,Eff.nfE] at h
  | some d =>
   simp only [Eff.app,Eff.nfE] at h ⊢
   split at h
   ·rename_i s1 hs1
    simp only [C4] at h
    subst h
    exact ⟨_,rfl,fun w0 I0 a ov w hs=>ka hs⟩
   ·cases h
 | upd i b v =>
  simp only [Eff.app,Eff.nfE,C4] at h ⊢
  subst h
  exact ⟨_,rfl,fun w0 I0 a ov w hs=>ka hs⟩
 | gen ps v =>
  simp only [Eff.app,Eff.nfE] at h ⊢
  split at h
  ·rename_i s1 hs1
   simp only [C4] at h
   subst h
   exact ⟨_,rfl,fun w0 I0 a ov w hs=>ka hs⟩
  ·cases h
end
end Go.Ab
end
section
namespace Go.Ab
open Go.RowKit
def Prg.All {R:Type} (p:R→Prop):Prg R→Prop
 | .fail=>True
 | .ret e=>p e
 | .tv _ k=>∀ v,(k v).All p
 | .tvs _ k=>∀ v,(k v).All p
 | .rws _ k=>∀ v,(k v).All p
 | .nat _ k=>∀ v,(k v).All p
 | .chk _ k=>k.All p
 | .ite _ t e=>t.All p∧e.All p
 | .call _ _ k=>∀ v,(k v).All p
 | .jmp _ _=>True
theorem Prg.All.hits {R:Type} {C:Cal} {p:R→Prop} {e:R}:∀ {o:Prg R},o.All p→o.hits C e→p e
 | .ret e',h,h'=>by cases h'; exact h
 | .tv _ k,h,⟨v,_,h'⟩=>(h v).hits h'
 | .tvs _ k,h,⟨v,_,h'⟩=>(h v).hits h'
 | .rws _ k,h,⟨v,_,h'⟩=>(h v).hits h'
 | .nat _ k,h,⟨v,_,h'⟩=>(h v).hits h'
 | .chk _ k,h,⟨_,h'⟩=>Prg.All.hits (o:=k) h h'
 | .ite _ t e,h,⟨v,_,.inl ⟨_,h'⟩⟩=>Prg.All.hits (o:=t) h.1 h'
 | .ite _ t e,h,⟨v,_,.inr ⟨_,h'⟩⟩=>Prg.All.hits (o:=e) h.2 h'
 | .call _ _ k,h,⟨v,_,h'⟩=>(h v).hits h'
section
variable {E:Env} {look look':Look} {p:Eff→Prop} {id:Nat}
theorem aG {b:Bool} {x y:Out} (hx:x.All p) (hy:y.All p):(bif b then x else y).All p:=by cases b <;> assumption
theorem iu {q:Way} {x:TV} {k:TV→Out} (h:∀ y,(k y).All p):(mz q x k).All p:=by
 unfold mz
 split
 ·exact h _
 ·exact h
theorem ft {c:CA} {k:TV→Out} (h:∀ y,(k y).All p):(ii look c k).All p:=by
 unfold ii
 split
 ·exact h _
 ·split
  ·exact iu h
  ·exact trivial
 ·split
  ·exact iu fun y z=>h z
  ·exact trivial
 ·exact trivial
theorem nl {v:AV} {k:TV→Out} (h:∀ y,(k y).All p):(sJ look v k).All p:=by
 unfold sJ
 split
 ·exact ft h
 ·exact h _
 ·exact h _
 ·exact trivial
theorem tz {c:CA} {k:TV→Out} (h:∀ y,(k y).All p):(rm look c k).All p:=by
 unfold rm
 split
 ·exact h _
 ·exact ft fun y=>h _
 ·exact ft fun y=>h _
 ·exact trivial
theorem tJ {k:List TV→Out}:∀ {cs:List CA} {k:List TV→Out},(∀ y,(k y).All p)→(xJ look cs k).All p
 | [],k,h=>h _
 | c :: cs,k,h=>tz fun y=>tJ (k:=fun _=>.fail) fun ys=>h _
theorem zb {v:AV} {k:TV→Out} (h:∀ y,(k y).All p):(rI look v k).All p:=by
 unfold rI
 split
 ·exact tz h
 ·exact h _
 ·exact tJ (k:=fun _=>.fail) fun ys=>h _
 ·exact trivial
 ·exact trivial
 ·exact h _
theorem fx:∀ {vs:List AV} {k:List TV→Out},(∀ y,(k y).All p)→(lends look vs k).All p
 | [],k,h=>h _
 | v :: vs,k,h=>zb fun y=>fx fun ys=>h _
theorem tD {c:CA} {k:TV→List (Nat × Nat)→Out} (h:∀ y r,(k y r).All p):(qJ look c k).All p:=by
 unfold qJ
 split
 ·exact h _ _
 ·split
  ·split
   ·exact h _ _
   ·exact fun y=>h _ _
  ·exact trivial
 ·split
  ·split
   ·exact fun y=>h _ _
   ·exact fun z y=>h _ _
  ·exact trivial
 ·exact trivial
theorem sZ:∀ {cs:List CA} {k:List TV→List (Nat × Nat)→Out},(∀ y r,(k y r).All p)→(xL look cs k).All p
 | [],k,h=>h _ _
 | c :: cs,k,h=>tD fun y r=>sZ fun ys rs=>h _ _
theorem zK {v:AV} {k:TV→List (Nat × Nat)→Out} (h:∀ y r,(k y r).All p):(sf look v k).All p:=by
 unfold sf
 split
 ·exact tD h
 ·exact h _ _
 ·exact sZ fun ys rs=>h _ _
 ·exact trivial
 ·exact trivial
 ·exact h _ _
theorem o7:∀ {vs:List AV} {k:List TV→List (Nat × Nat)→Out},(∀ y r,(k y r).All p)→(hands look vs k).All p
 | [],k,h=>h _ _
 | v :: vs,k,h=>zK fun y r=>o7 fun ys rs=>h _ _
theorem dO:∀ {cs:List CA} {k:List TV→List Prim→List (Nat × Nat)→Out},(∀ y q r,(k y q r).All p)→(cq look cs k).All p
 | [],k,h=>h _ _ _
 | .t x :: l,k,h=>by
  simp only [cq]
  exact dO (cs:=l) fun xs ps ts=>h _ _ _
 | .sref i r q :: l, k, h => by
  simp only [cq]
  split
  ·split
   ·exact dO (cs:=l) fun xs ps ts=>h _ _ _
   ·exact fun y=>dO (cs:=l) fun xs ps ts=>h _ _ _
  ·exact trivial
 | .swin i r q lo len :: l, k, h => by
  simp only [cq]
  split
  ·split
   ·exact fun y=>dO (cs:=l) fun xs ps ts=>h _ _ _
   ·exact fun z y=>dO (cs:=l) fun xs ps ts=>h _ _ _
  ·exact trivial
 | .ptr _ _ :: l,k,h=>trivial
 | .ref _ _ :: l,k,h=>trivial
 | .tptr _ _ _ _ _ :: l,k,h=>trivial
 | .may _ _ :: l,k,h=>trivial
 | .aptr _ _ _ _ :: l,k,h=>trivial
 | .ifp _ _ :: l,k,h=>trivial
 | .fn1 _ _ :: l,k,h=>trivial
 | .yl _ :: l,k,h=>trivial
 | .undef :: l,k,h=>trivial
 | .junk :: l,k,h=>trivial
theorem dP:∀ {cs:List CA} {k:List TV→List Prim→List (Nat × Nat)→Out},(∀ y q r,(k y q r).All p)→(bZ look cs k).All p
 | [],k,h=>h _ _ _
 | .t x :: l,k,h=>by
  simp only [bZ]
  exact dP (cs:=l) fun xs ps ts=>h _ _ _
 | .sref i r q :: l, k, h => by
  simp only [bZ]
  split
  ·split
   ·exact dP (cs:=l) fun xs ps ts=>h _ _ _
   ·exact fun y=>⟨dP (cs:=l) fun xs ps ts=>h _ _ _,fun x'=>dP (cs:=l) fun xs ps ts=>h _ _ _⟩
  ·exact trivial
 | .swin i r q lo len :: l, k, h => by
  simp only [bZ]
  split
  ·split
   ·exact fun y=>dP (cs:=l) fun xs ps ts=>h _ _ _
   ·exact fun z y=>dP (cs:=l) fun xs ps ts=>h _ _ _
  ·exact trivial
 | .ptr _ _ :: l,k,h=>trivial
 | .ref _ _ :: l,k,h=>trivial
 | .tptr _ _ _ _ _ :: l,k,h=>trivial
 | .may _ _ :: l,k,h=>trivial
 | .aptr _ _ _ _ :: l,k,h=>trivial
 | .ifp _ _ :: l,k,h=>trivial
 | .fn1 _ _ :: l,k,h=>trivial
 | .yl _ :: l,k,h=>trivial
 | .undef :: l,k,h=>trivial
 | .junk :: l,k,h=>trivial
theorem dZ {agg:Bool} {n:Nat} {x:AV} {k:List CA→Out} (h:∀ cs,(k cs).All p):(x.aZ agg n k).All p:=by
 unfold AV.aZ
 split
 ·rename_i c; cases c.kept <;> first | exact trivial | exact h _
 ·exact h _
 ·exact h _
 ·exact h _
 ·rename_i cs; cases cs.length.beq n <;> first | exact trivial | exact h _
 ·exact h _
 ·exact trivial
theorem mZ {at_:Nat→Option (Nat × Bool × Nat)} {k:List CA→Out} (h:∀ cs,(k cs).All p):∀ (is:List Nat) (vs:List AV) (cs:List CA),(bQ at_ is vs cs k).All p
 | [],[],cs=>h cs
 | i :: is, x :: vs, cs => by
  simp only [bQ]
  split
  ·refine dZ (fun ps=>?_)
   exact aG (mZ h is vs _) trivial
  ·exact trivial
 | [],_ :: _,cs=>trivial
 | _ :: _,[],cs=>trivial
theorem eN {v:Option AV} {k:Option Nat→Out} (h:∀ n,(k n).All p):(fd v k).All p:=by
 unfold fd
 split
 ·exact h _
 ·split
  ·exact fun v=>h _
  ·exact trivial
abbrev cX (e:Eff):Prop:=∃ v,e=.val v
abbrev cZ (e:Eff):Prop:=∃ b v,e=.new b v
theorem vH {d:TyD} {x:List TV} {off:Nat}:(jR d x off).All cX:=by
 unfold jR
 cases d.kd.isAgg
 ·exact ⟨_,rfl⟩
 ·exact ⟨_,rfl⟩
theorem tC:∀ {vs:List AV} {k:List CA→Out},(∀ cs,(k cs).All p)→(jZ vs k).All p
 | [],k,h=>h _
 | v :: vs,k,h=>dZ fun cs=>tC fun cs'=>h _
theorem CO {op:Op} (h:al op=.N) (vs:List AV):(opL E id look op vs).All cX:=by
 cases op with
 | move x=>rcases vs with _ | ⟨v,_ | ⟨v',r⟩⟩ <;> first | exact trivial | exact ⟨_,rfl⟩
 | assign x=>rcases vs with _ | ⟨v,_ | ⟨v',r⟩⟩ <;> first | exact trivial | exact ⟨_,rfl⟩
 | pick c x y =>
  rcases vs with _ | ⟨v,_ | ⟨v',_ | ⟨v'',_ | ⟨v3,r⟩⟩⟩⟩ <;> first | exact trivial | skip
  simp only [opL]
  split <;> first | exact trivial | exact ⟨_,rfl⟩ | exact ⟨⟨_,rfl⟩,⟨_,rfl⟩⟩
 | build t parts =>
  simp only [opL]
  split
  ·refine aG ?_ trivial
   refine mZ ?_ _ _ _
   exact fun cs=>⟨_,rfl⟩
  ·exact trivial
 | nilCheck x =>
  rcases vs with _ | ⟨v,_ | ⟨v',r⟩⟩ <;> first | exact trivial | skip
  simp only [opL]
  split <;> first | exact trivial | exact ⟨_,rfl⟩
 | unOp op xt x =>
  rcases vs with _ | ⟨v,_ | ⟨v',r⟩⟩ <;> first | exact trivial | skip
  simp only [opL]
  split
  ·exact ⟨_,rfl⟩
  ·split
   ·exact fun v=>⟨_,rfl⟩
   ·exact trivial
 | fieldAddr t x f =>
  rcases vs with _ | ⟨v,_ | ⟨v',r⟩⟩ <;> first | exact trivial | skip
  simp only [opL]
  split
  ·split
   ·refine aG ?_ trivial
    split <;> first | exact trivial | exact ⟨_,rfl⟩
   ·exact trivial
  ·exact trivial
 | field t x f =>
  rcases vs with _ | ⟨v,_ | ⟨v',r⟩⟩ <;> first | exact trivial | skip
  simp only [opL]
  split
  ·split
   ·unfold uJ
    split
    ·split
     ·split <;> first | exact trivial | exact ⟨_,rfl⟩
     ·exact trivial
    ·exact ⟨_,rfl⟩
    ·exact trivial
   ·exact trivial
  ·exact trivial
 | index t x y =>
  rcases vs with _ | ⟨v,_ | ⟨v',_ | ⟨v'',r⟩⟩⟩ <;> first | exact trivial | skip
  simp only [opL]
  split
  ·exact fun v=>⟨_,rfl⟩
  ·unfold qa
   split
   ·split
    ·refine aG ?_ trivial
     split
     ·exact fun k v=>⟨_,rfl⟩
     ·exact trivial
    ·exact trivial
   ·exact trivial
 | extract x j =>
  rcases vs with _ | ⟨v,_ | ⟨v',r⟩⟩ <;> first | exact trivial | skip
  simp only [opL]
  split
  ·split
   ·split <;> first | exact trivial | exact ⟨_,rfl⟩
   ·exact trivial
  ·exact trivial
 | makeFunc fn first cap =>
  cases fn with
  | func f =>
   simp only [opL]
   exact aG (tC fun cs=>⟨_,rfl⟩) trivial
  | _=>exact trivial
 | call c =>
  obtain ⟨callee,args,tys⟩:=c
  cases callee with
  | builtin b=>cases b <;> simp [al] at h
  | value f=>cases f <;> simp [al] at h
  | invoke r m=>simp [al] at h
 | makeInterface t x =>
  rcases vs with _ | ⟨v,_ | ⟨v',r⟩⟩ <;> first | exact trivial | skip
  simp only [opL]
  split
  ·unfold Al
   refine aG ?_ trivial
   split
   ·exact ⟨_,rfl⟩
   ·split
    ·exact fun v=>⟨_,rfl⟩
    ·exact trivial
  ·exact trivial
 | typeAssert x xt t ok =>
  rcases vs with _ | ⟨v,_ | ⟨v',r⟩⟩ <;> cases ok <;> first | exact trivial | skip
  simp only [opL]
  split
  ·unfold sR
   refine aG ?_ trivial
   split
   ·exact fun v=>⟨_,rfl⟩
   ·exact trivial
  ·exact trivial
 | _=>simp [al] at h
theorem Bw {op:Op} (h:al op=.R) (vs:List AV):(opL E id look op vs).All cX:=by
 cases op with
 | load t x =>
  rcases vs with _ | ⟨v,_ | ⟨v',r⟩⟩ <;> first | exact trivial | skip
  simp only [opL]
  split
  ·unfold yy
   split
   ·refine aG trivial ?_
    split
    ·exact fun v=>⟨_,rfl⟩
    ·exact trivial
   ·split
    ·split
     ·split
      ·exact ⟨_,rfl⟩
      ·exact trivial
     ·exact trivial
    ·exact trivial
   ·exact vH
   ·split
    ·refine iu (fun s e=>?_)
     simp only [Prg.All]
     split
     ·exact ⟨_,rfl⟩
     ·exact trivial
    ·exact trivial
   ·exact trivial
  ·exact trivial
 | convert xt dt x =>
  rcases vs with _ | ⟨v,_ | ⟨v',r⟩⟩ <;> first | exact trivial | skip
  simp only [opL]
  split
  ·unfold yh
   split
   ·split
    ·exact aG (nl fun y=>fun rows=>fun v=>⟨_,rfl⟩) trivial
    ·exact trivial
   ·split
    ·exact fun v=>⟨_,rfl⟩
    ·exact trivial
  ·exact trivial
 | binOp op xt x y yt =>
  rcases vs with _ | ⟨v,_ | ⟨v',_ | ⟨v'',r⟩⟩⟩ <;> first | exact trivial | skip
  simp only [opL]
  split
  ·unfold Cf
   split
   ·split
    ·refine dZ fun cs=>dZ fun cs'=>?_
     split
     ·exact fun v=>⟨_,rfl⟩
     ·exact trivial
    ·exact trivial
   ·unfold Ct
    split
    ·exact ⟨_,rfl⟩
    ·exact ⟨_,rfl⟩
    ·exact trivial
   unfold Cr
   refine aG (nl fun x=>nl fun y=>fun v=>⟨_,rfl⟩) ?_
   split
   ·exact fun v=>⟨_,rfl⟩
   ·exact trivial
  ·exact trivial
 | slice t x lo hi mx =>
  have sl:∀ {kd:Kd} {sz:Nat} {x:AV} {lo hi:Option AV},(iv look kd sz x lo hi).All cX:=by
   intro kd sz x lo hi
   unfold iv
   split
   ·exact eN fun lo=>eN fun hi=>fun v=>⟨_,rfl⟩
   ·split
    ·exact ft fun s n=>eN fun lo=>eN fun hi=>⟨_,rfl⟩
    ·split
     ·exact ft fun s=>eN fun hi=>⟨_,rfl⟩
     ·exact ft fun s=>eN fun lo=>eN fun hi=>⟨_,rfl⟩
    ·exact trivial
  cases mx with
  | some m=>rcases vs with _ | ⟨v,r⟩ <;> exact trivial
  | none =>
   rcases vs with _ | ⟨v,r⟩
   ·exact trivial
   ·simp only [opL]
    split
    ·split
     ·split <;> first | exact trivial | exact sl
     ·exact trivial
    ·exact trivial
 | indexAddr t x y =>
  rcases vs with _ | ⟨v,_ | ⟨v',_ | ⟨v'',r⟩⟩⟩ <;> first | exact trivial | skip
  simp only [opL]
  split
  ·unfold oE
   split
   ·split
    ·exact fun v=>⟨_,rfl⟩
    ·split
     ·exact ft fun s n k=>⟨_,rfl⟩
     ·exact ft fun s k=>⟨_,rfl⟩
     ·exact trivial
   ·exact trivial
  ·unfold pX
   split
   ·split
    ·exact aG (fun k=>⟨_,rfl⟩) trivial
    ·exact trivial
   ·exact trivial
 | call c =>
  obtain ⟨callee,args,tys⟩:=c
  cases callee with
  | builtin b =>
   have mn:∀ {mx:Bool} {x y:AV},(wk mx x y).All cX:=by
    intro mx x y
    unfold wk
    split
    ·exact fun v=>⟨_,rfl⟩
    ·exact trivial
   cases b <;> simp [al] at h
   all_goals simp only [opL]
   all_goals unfold d6
   all_goals split <;> first | exact trivial | exact mn | contradiction | skip
   split
   ·unfold xA
    split
    ·exact ⟨_,rfl⟩
    ·exact nl fun s v=>⟨_,rfl⟩
   ·exact trivial
  | value f=>cases f <;> simp [al] at h
  | invoke r m=>simp [al] at h
 | _=>simp [al] at h
theorem cls_A {op:Op} (h:al op=.A) (vs:List AV):(opL E id look op vs).All cZ:=by
 cases op with
 | alloc t =>
  rcases vs with _ | ⟨v,r⟩ <;> first | exact trivial | skip
  simp only [opL]
  split
  ·exact ⟨_,_,rfl⟩
  ·exact trivial
 | box t x =>
  rcases vs with _ | ⟨v,_ | ⟨v',r⟩⟩ <;> first | exact trivial | skip
  simp only [opL]
  split
  ·exact dZ (fun cs=>⟨_,_,rfl⟩)
  ·exact trivial
 | makeSlice t x y =>
  rcases vs with _ | ⟨v,_ | ⟨v',_ | ⟨v'',r⟩⟩⟩ <;> first | exact trivial | skip
  simp only [opL]
  split
  ·refine aG ?_ trivial
   exact fun n m=>⟨_,_,rfl⟩
  ·exact trivial
 | call c =>
  obtain ⟨callee,args,tys⟩:=c
  cases callee with
  | builtin b=>cases b <;> simp [al] at h
  | value f=>cases f <;> simp [al] at h
  | invoke r m=>simp [al] at h
 | _=>simp [al] at h
theorem iL {ps:List Prim} {b:BC} {v:AV}:(cB ps b v).plain=true→cX (cB ps b v)∨cZ (cB ps b v):=by
 cases ps with
 | nil=>exact fun _=>.inr ⟨_,_,rfl⟩
 | cons q l=>exact fun h=>by cases h
theorem tg {ps:List Prim} {v:AV}:(match ps with | []=>Eff.val v | _=>.gen ps v).plain=true→cX (match ps with | []=>Eff.val v | _=>.gen ps v)∨cZ (match ps with | []=>Eff.val v | _=>.gen ps v):=by
 cases ps with
 | nil=>exact fun _=>.inl ⟨_,rfl⟩
 | cons q l=>exact fun h=>by cases h
theorem j5 {d:TyD} {x:TV} {k:Out} (h:k.All p):(iT d x k).All p:=by
 unfold iT
 exact aG h h
theorem pw {x:TV} {k:Out} (h:k.All p):∀ (ds:List TyD) (j:Nat),(fS x ds j k).All p
 | [],j=>h
 | d :: ds,j=>j5 (pw h ds (j + 1))
theorem se {ds:List TyD} {v:TV} {ps:List Prim}:(sI id ds v ps).All fun e=>e.plain=true→cX e∨cZ e:=by
 have many:∀ ds:List TyD,(Prg.chk (v.isTup ds.length) (fS v ds 0 (bif gB ds then .ret (cB ps (.tree (bj v ds 0)) (.tups (dC id v ds 0 0)))
   else .ret (match ps with | []=>.val (.tups (dC id v ds 0 0)) | _=>.gen ps (.tups (dC id v ds 0 0)))))).All fun e=>e.plain=true→cX e∨cZ e:=by
  intro ds
  refine pw ?_ ds 0
  exact aG iL tg
 match ds with
 | []=>exact many []
 | [d] =>
  simp only [sI]
  refine j5 ?_
  split
  ·exact aG iL tg
  ·exact trivial
 | d :: d' :: l=>exact many _
theorem Ah {ds:List TyD} {v:TV} {k:AV→Out} {p:Eff→Prop} (h:∀ av,(k av).All p):(As id ds v k).All p:=by
 have some:∀ (ds:List TyD) (j:Nat) (k:Out),k.All p→(fS v ds j k).All p:=by
  intro ds
  induction ds with
  | nil=>intro j k h; exact h
  | cons d ds ih=>intro j k h; exact j5 (ih (j + 1) k h)
 unfold As
 split
 ·refine j5 ?_
  split
  ·exact h _
  ·exact trivial
 ·exact some _ 0 _ (h _)
theorem yZ {f:FuncId} {ld:eZ} {vs:List AV}:(nF E id look f ld vs).All fun e=>e.plain=true→cX e∨cZ e:=by
 unfold nF
 split
 ·split
  ·refine aG trivial ?_
   exact o7 fun xs rs=>dO fun ys qs ts=>aG (fun v=>Ah fun av=>fun h=>by simp [Eff.plain] at h) trivial
  ·exact trivial
 ·exact trivial
theorem yQ {f:FuncId} {c:Nat × Nat} {vs:List AV}:(m6 look f c vs).All fun e=>e.plain=true→cX e∨cZ e:=by
 unfold m6
 split
 ·split
  ·split
   ·exact aG (fx fun xs=>fun v=>fun _=>.inl ⟨_,rfl⟩) trivial
   ·exact trivial
  ·exact trivial
 ·exact trivial
theorem tN {p:Eff→Prop} {q:Way} {x y:TV} {k:TV→Out} (h:∀ y,(k y).All p):(vB q x y k).All p:=by
 unfold vB
 split
 ·exact h _
 ·exact fun v=>h _
theorem yH {f:FuncId} {vs:List AV}:(kM look f vs).All fun e=>e.plain=true→cX e∨cZ e:=by
 unfold kM
 split
 ·split
  ·exact iu fun z=>fx fun xs=>fun v=>fun y=>tN fun x'=>fun h=>by cases h
  ·exact trivial
 ·split
  ·exact iu fun z=>fun z1=>fx fun xs=>fun v=>fun y=>tN fun x'=>fun h=>by cases h
  ·exact trivial
 ·exact trivial
theorem AR {f:FuncId} {i:Nat} {vs:List AV}:(vi E id look f i vs).All fun e=>e.plain=true→cX e∨cZ e:=by
 unfold vi
 refine aG ?_ trivial
 split
 ·split
  ·exact fx fun xs=>fun v=>se
  ·exact trivial
 ·exact trivial
theorem cls_B {op:Op} (h:al op=.B) (vs:List AV):(opL E id look op vs).All fun e=>e.plain=true→cX e∨cZ e:=by
 cases op with
 | buildSlice t len parts =>
  simp only [opL]
  refine aG ?_ ?_
  ·unfold rS
   split
   ·refine mZ (fun cs=>?_) _ _ _
    split
    ·exact aG (fun _=>.inr ⟨_,_,rfl⟩) trivial
    ·exact trivial
   ·exact trivial
  unfold ij
  split
  ·refine mZ (fun cs=>?_) _ _ _
   refine dP fun ys qs ts=>?_
   exact aG iL trivial
  ·exact trivial
 | call c =>
  obtain ⟨callee,args,tys⟩:=c
  cases callee with
  | builtin b=>cases b <;> simp [al] at h
  | value f =>
   cases f with
   | func f =>
    rcases vs with _ | ⟨v,r⟩
    ·exact trivial
    ·simp only [opL,mg]
     refine aG yH (aG trivial ?_)
     split
     ·exact yQ
     split
     ·exact yZ
     ·split
      ·refine aG ?_ ?_
       ·exact fx fun xs=>fun v=>se
       ·exact o7 fun xs rs=>aG (fun v=>se) trivial
      ·exact trivial
   | tmp t =>
    rcases vs with _ | ⟨v,r⟩
    ·exact trivial
    ·simp only [opL]
     split
     ·exact fun f=>fx fun xs v=>fun _=>.inl ⟨_,rfl⟩
     ·split
      ·exact AR
      ·exact trivial
   | _=>simp [al] at h
  | invoke r m=>simp [al] at h
 | _=>simp [al] at h
abbrev isUpd (look:Look) (e:Eff):Prop:=∃ i b v,e=.upd i b v∧(look i).isSome=true
theorem zV {op : Op} (h : al op = .W) (vs : List AV) : (opL E id look op vs).All fun e => e.plain = true → isUpd look e := by
 cases op with
 | store t x y =>
  rcases vs with _ | ⟨v,_ | ⟨v',_ | ⟨v'',r⟩⟩⟩ <;> first | exact trivial | skip
  simp only [opL]
  split
  ·unfold uK
   split
   ·refine aG trivial ?_
    split
    ·rename_i cs xs hrow
     refine dZ (fun ps=>?_)
     split
     ·exact fun _=>⟨_,_,_,rfl,by simp [(iA hrow).1]⟩
     ·exact trivial
    ·exact trivial
   ·refine dZ (fun ps=>?_)
    split
    ·rename_i cs hl
     exact aG (fun _=>⟨_,_,_,rfl,by simp [hl]⟩) trivial
    ·exact trivial
   ·refine dZ (fun ps=>?_)
    split
    ·refine aG trivial (aG ?_ ?_)
     ·refine dO fun ys qs ts=>aG ?_ trivial
      exact iu fun s e=>fun x' hp=>by cases hp
     ·refine dO fun ys qs ts=>?_
      split
      ·refine aG ?_ trivial
       refine iu fun s e=>?_
       simp only [Prg.All]
       intro x'
       split
       ·rename_i b hb
        refine fun _=>⟨_,_,_,rfl,?_⟩
        unfold bX at hb
        split at hb
        ·rename_i hl; simp [hl]
        ·cases hb
       ·exact trivial
      ·exact trivial
    ·exact trivial
   ·exact trivial
  ·exact trivial
 | call c =>
  obtain ⟨callee,args,tys⟩:=c
  cases callee with
  | builtin b=>cases b <;> simp [al] at h
  | value f=>cases f <;> simp [al] at h
  | invoke r m=>simp [al] at h
 | _=>simp [al] at h
theorem pr {d:TyD} {s:AV} {news:List (List TV)} {ps:List Prim}:(lZ id look d s news ps).All fun e=>e.plain=true→cX e∨cZ e:=by
 unfold lZ
 split
 ·exact aG (fun y=>iL) trivial
 ·split
  ·split
   ·split
    ·exact fun y h=>by cases h
    ·exact fun z y x' h=>by cases h
   ·exact trivial
  ·split
   ·split
    ·exact fun z y h=>by cases h
    ·exact fun z0 z y x' h=>by cases h
   ·exact trivial
  ·exact trivial
theorem zW {d:TyD} {dest:Option Nat} {x:AV} {k:List (List TV)→List Prim→Out} (h:∀ xs ps,(k xs ps).All p):(wv look d dest x k).All p:=by
 unfold wv
 split
 ·exact fun xs=>h _ _
 ·split
  ·refine aG ?_ ?_
   ·split
    ·split
     ·split
      ·exact aG trivial (fun xs=>h _ _)
      ·exact fun y=>fun xs=>h _ _
     ·exact trivial
    ·split
     ·split
      ·exact aG trivial (fun y xs=>h _ _)
      ·exact fun z y=>fun xs=>h _ _
     ·exact trivial
    ·exact trivial
   ·exact ft (fun s xs=>h _ _)
  ·exact trivial
theorem cls_P {op:Op} (h:al op=.P) (vs:List AV):(opL E id look op vs).All fun e=>e.plain=true→cX e∨cZ e:=by
 cases op with
 | call c =>
  obtain ⟨callee,args,tys⟩:=c
  cases callee with
  | builtin b =>
   cases b <;> simp [al] at h
   simp only [opL]
   unfold d6
   split <;> try (first | exact trivial | contradiction)
   split
   ·refine aG ?_ ?_
    ·unfold nz
     exact aG (zW (fun xs ps=>pr)) trivial
    ·split
     ·unfold lj
      refine aG ?_ trivial
      split
      ·exact fun news=>pr
      ·exact trivial
     ·exact trivial
   ·exact trivial
  | value f=>cases f <;> simp [al] at h
  | invoke r m=>simp [al] at h
 | _=>simp [al] at h
theorem tp {op:Op} (h:al op=.N∨al op=.A) (vs:List AV):opL E id look op vs=opL E id look' op vs:=by
 cases op <;> first
  | (rcases vs with _ | ⟨a,_ | ⟨b,_ | ⟨c,_ | ⟨d,r⟩⟩⟩⟩ <;> rfl)
  | (simp [al] at h; done)
  | (rename_i fn _ _; cases fn <;> rfl)
  | (rename_i ok; cases ok <;> rcases vs with _ | ⟨a,_ | ⟨b,r⟩⟩ <;> rfl)
  | skip
 all_goals
  rename_i c
  obtain ⟨callee,args,tys⟩:=c
  cases callee with
  | builtin b=>cases b <;> simp [al] at h
  | value f=>cases f <;> simp [al] at h
  | invoke r m=>simp [al] at h
end
end Go.Ab
end

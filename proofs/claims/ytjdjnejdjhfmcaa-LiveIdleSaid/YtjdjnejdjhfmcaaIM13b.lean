import Derived.Test.YtjdjnejdjhfmcaaIM12b
set_option linter.all false
section
namespace Go.Ab
open Go.RowKit
structure iV (P:Program) (G:Laid) (E:Env) (C:Cal):Prop where
 ty:∀ t d,E.T t=some d→bp P t d
 call:sd P G E C
section
variable {P:Program} {E:Env} {C:Cal} {w0:Bs} {w w':World} {I0 I R:Nat→Prop} {g g':Gh} {st st':ASt} {a:Act} {ov:List Value} {look:Look} {Q:Exit→Act→World→Prop} {id:Nat}
theorem CD (hE:iV P w0.G E C) (hlk:∀ i b,look i=some b→st.look i=some b) (hs:al w0 I0 NoR g st a ov w) {o:Oper} {e:Eff} (hh:(opL E (st.nid o.dst) look o.op (o.op.operands.toList.map st.ev)).hits C e) (ha:e.app st o.dst=some st') :
  Good P w0 I0 ov o st' a w Q:=by
 obtain ⟨dst,op,type,pos,after,guard⟩:=o
 cases op with
 | move x=>exact DM hs hh ha
 | assign x=>exact Bg hs hh ha
 | pick c x y=>exact D1 hs hh ha
 | alloc t=>exact Cp hE.ty hs hh ha
 | box t x=>exact op_box hE.ty hs hh ha
 | build t parts=>exact Bt hE.ty hs hh ha
 | makeFunc fn first cap=>exact xz hs hh ha
 | buildSlice t len parts=>exact tK hE.ty hlk hs hh ha
 | load t x=>exact DU hE.ty hlk hs hh ha
 | store t x y=>exact Bx hE.ty hlk hs hh ha
 | nilCheck x=>exact wo hs hh ha
 | binOp op xt x y yt=>exact op_bin hE.ty hlk hs hh ha
 | unOp op xt x=>exact op_un hs hh ha
 | convert xt dt x=>exact yT hE.ty hlk hs hh ha
 | makeSlice t x y=>exact vS hE.ty hs hh ha
 | slice t x lo hi mx=>exact B6 hE.ty hlk hs hh ha
 | fieldAddr t x f=>exact vv hE.ty hs hh ha
 | field t x f=>exact De hE.ty hs hh ha
 | indexAddr t x y=>exact vu hE.ty hlk hs hh ha
 | index t x y=>exact CG hE.ty hs hh ha
 | extract x j=>exact za hs hh ha
 | call c =>
  obtain ⟨callee,args,tys⟩:=c
  cases callee with
  | builtin b =>
   have hops:(Op.call ⟨.builtin b,args,tys⟩).operands.toList=args.toList:=by simp [Op.operands,Call.operands]
   simp only [hops] at hh
   simp only [opL] at hh
   unfold d8 at hh
   split at hh
   ·rename_i x ty hargs htys
    obtain ⟨ox,rfl,hox⟩:=list1 hargs
    have:=arr1 htys
    subst this
    split at hh
    ·rename_i d hT
     rw [← hox] at hh
     exact xY hlk hs (hE.ty _ _ hT) hh ha
    ·exact hh.elim
   ·rename_i s x ty ty' hargs htys
    obtain ⟨os,ox,rfl,hos,hox⟩:=list2 hargs
    have:=arr2 htys
    subst this
    split at hh
    ·rename_i e1 d hel
     cases hb:Nat.beq ty ty' with
     | false =>
      simp only [hb,cond_false] at hh
      split at hh
      ·rename_i hu
       exact hh.elim
      ·exact hh.elim
     | true =>
      simp only [hb,cond_true] at hh
      have:=(aJ _ _).1 hb
      subst this
      rw [← hos,← hox] at hh
      exact tL hE.ty hlk hs hel hh ha
    ·exact hh.elim
   ·rename_i s x ty ty' hargs htys
    obtain ⟨os,ox,rfl,hos,hox⟩:=list2 hargs
    have:=arr2 htys
    subst this
    split at hh
    ·rename_i e1 d hel
     cases hb:Nat.beq ty ty' with
     | false=>simp [hb,Prg.hits] at hh
     | true =>
      simp only [hb,cond_true] at hh
      have:=(aJ _ _).1 hb
      subst this
      rw [← hos,← hox] at hh
      exact xL hE.ty hlk hs hel hh ha
    ·exact hh.elim
   ·rename_i s ty hargs htys
    obtain ⟨os,rfl,hos⟩:=list1 hargs
    have:=arr1 htys
    subst this
    split at hh
    ·rename_i e1 d hel
     exact hh.elim
    ·exact hh.elim
   ·rename_i x y hargs
    obtain ⟨ox,oy,rfl,hox,hoy⟩:=list2 hargs
    rw [← hox,← hoy] at hh
    exact sW hs hh ha
   ·rename_i x y hargs
    obtain ⟨ox,oy,rfl,hox,hoy⟩:=list2 hargs
    rw [← hox,← hoy] at hh
    exact sW hs hh ha
   ·exact hh.elim
  | value f =>
   cases f with
   | func f =>
    have hops:(Op.call ⟨.value (.func f),args,tys⟩).operands.toList=.func f :: args.toList:=by simp [Op.operands,Call.operands]
    simp only [hops,List.map_cons] at hh
    exact DX hE.call hE.ty hlk hs hh ha
   | tmp t =>
    have hops:(Op.call ⟨.value (.tmp t),args,tys⟩).operands.toList=.tmp t :: args.toList:=by simp [Op.operands,Call.operands]
    simp only [hops,List.map_cons] at hh
    simp [opL,Prg.hits] at hh
   | _=>simp [opL,Prg.hits] at hh
  | invoke r m=>simp [opL,Prg.hits] at hh
 | _=>simp [opL,Prg.hits] at hh
def AV.nf:AV→AV
 | .one (.t (.lit (.bool b)))=>.bl b
 | .tv (.lit (.bool b))=>.bl b
 | v=>v
def Eff.nfE:Eff→Eff
 | .val v=>.val v.nf
 | .new b v=>.new b v.nf
 | .upd i b v=>.upd i b v.nf
 | .gen ps v=>.gen ps v.nf
def ASt.nfS (st:ASt):ASt:=⟨st.slots.map AV.nf,st.boxes,st.out⟩
theorem aL (v:AV):v.nf=v∨∃ b,v.nf=.bl b∧(v=.one (.t (.lit (.bool b)))∨v=.tv (.lit (.bool b))):=by
 unfold AV.nf
 split
 ·exact .inr ⟨_,rfl,.inl rfl⟩
 ·exact .inr ⟨_,rfl,.inr rfl⟩
 ·exact .inl rfl
theorem zS (v:AV):v.nf.nf=v.nf:=by
 rcases aL v with h | ⟨b,h,_⟩
 ·rw [h,h]
 ·rw [h]; rfl
theorem jR (v:AV):v.nf.tv? = v.tv? := by
 rcases aL v with h | ⟨b,h,rfl | rfl⟩
 ·rw [h]
 ·rfl
 ·rfl
theorem B5 {v:AV} {u:Value}:cm w g look v.nf u ↔ cm w g look v u:=by
 rcases aL v with h | ⟨b,h,rfl | rfl⟩
 ·rw [h]
 ·rw [h]
  constructor
  ·intro h'
   have:u=.bool b:=h'
   subst this
   exact ⟨.lit _,rfl⟩
  ·intro h'
   exact ci h'.1
 ·rw [h]
  constructor
  ·intro h'
   have:u=.bool b:=h'
   subst this
   exact .lit _
  ·intro h'
   exact ci h'
theorem oO (v:AV):v.nf.ip=v.ip:=by
 rcases aL v with h | ⟨b,h,rfl | rfl⟩
 ·rw [h]
 ·rw [h]; rfl
 ·rw [h]; rfl
theorem cD (e:Eff):eN e.nfE=eN e:=by cases e <;> simp only [Eff.nfE,eN,oO]
theorem nH (e:Eff):e.nfE.plain=e.plain:=by cases e <;> rfl
theorem wZ (base:Nat) (own:List (List Nat × List Nat)) (e:Eff):e.nfE.qI base own=e.qI base own:=by cases e <;> rfl
theorem ww {S:Type} {agg:Bool} {n:Nat} {v:AV} {k k':List CA→Prg S} {e:S} (hk:∀ cs,(k cs).hits C e→(k' cs).hits C e) (h:(v.bd agg n k).hits C e):(v.bd agg n k').hits C e:=by
 unfold AV.bd at h ⊢
 split at h
 ·rename_i c
  cases hc:c.kept with
  | true=>rw [hc] at h; exact hk _ h
  | false=>rw [hc] at h; exact h.elim
 ·exact ⟨h.1,hk _ h.2⟩
 ·exact hk _ h
 ·rename_i cs
  cases hc:cs.length.beq n with
  | true=>rw [hc] at h; exact hk _ h
  | false=>rw [hc] at h; exact h.elim
 ·exact ⟨h.1,hk _ h.2⟩
 ·exact h.elim
theorem fg {S:Type} {agg:Bool} {n:Nat} {v:AV} {k:List CA→Prg S} {e:S} (h:(v.bd agg n k).hits C e):(v.nf.bd agg n k).hits C e:=by
 rcases aL v with h1 | ⟨b,h1,rfl | rfl⟩
 ·rwa [h1]
 ·rw [h1]
  cases agg with
  | false=>exact h
  | true=>exact h.elim
 ·rw [h1]
  cases agg with
  | false=>exact h.2
  | true=>exact (by simp [AV.bd,TV.isAgg,Prg.hits] at h)
theorem ot {S:Type} {e:S}:∀ {vs:List AV} {k:List CA→Prg S},(kR vs k).hits C e→(kR (vs.map AV.nf) k).hits C e
 | [],k,h=>h
 | x :: vs, k, h => by
  simp only [kR,List.map_cons] at h ⊢
  refine fg ?_
  unfold AV.bd at h ⊢
  split at h
  ·rename_i c _
   cases hc:c.kept with
   | false=>simp [hc,Prg.hits] at h
   | true=>simp only [hc,cond_true] at h ⊢; exact ot h
  ·exact ⟨h.1,ot h.2⟩
  ·exact ot h
  ·rename_i cs' hb; cases hb
  ·rename_i cs' hb; cases hb
  ·exact h.elim
theorem mj {f:FuncId} {e:Eff}:∀ {vs:List AV} {k:List CA→List CA},(kR vs fun cs=>(.ret (.val (.clo f (k cs))):Out)).hits C e→∃ cs,e=.val (.clo f cs)
 | [],k,h=>⟨_,h.symm⟩
 | x :: vs, k, h => by
  simp only [kR] at h
  unfold AV.bd at h
  split at h
  ·rename_i c _
   cases hc:c.kept with
   | false=>simp [hc,Prg.hits] at h
   | true=>simp only [hc,cond_true] at h; exact mj (k:=fun cs=>k (_ ++ cs)) h
  ·exact mj (k:=fun cs=>k (_ ++ cs)) h.2
  ·exact mj (k:=fun cs=>k (_ ++ cs)) h
  ·rename_i hb; cases hb
  ·rename_i hb; cases hb
  ·exact h.elim
theorem vM {S:Type} {at_:Nat→Option (Nat × Bool × Nat)} {k:List CA→Prg S} {e:S}:∀ {is:List Nat} {vs:List AV} {cs:List CA},(bW at_ is vs cs k).hits C e→(bW at_ is (vs.map AV.nf) cs k).hits C e
 | [],[],cs,h=>h
 | i :: is, x :: vs, cs, h => by
  simp only [bW,List.map_cons] at h ⊢
  split at h
  ·rename_i off agg n hat
   have key:∀ ps,((bif (off + ps.length).ble cs.length && ps.length.beq n then bW at_ is vs (bo cs off ps) k else .fail):Prg S).hits C e→((bif (off + ps.length).ble cs.length && ps.length.beq n then bW at_ is (vs.map AV.nf) (bo cs off ps) k else .fail):Prg S).hits C e:=by
    intro ps hp
    cases hb:(off + ps.length).ble cs.length && ps.length.beq n with
    | false=>simp [hb,Prg.hits] at hp
    | true=>simp only [hb,cond_true] at hp ⊢; exact vM hp
   refine fg ?_
   unfold AV.bd at h ⊢
   split at h
   ·rename_i c
    cases hc:c.kept with
    | false=>simp [hc,Prg.hits] at h
    | true=>simp only [hc,cond_true] at h ⊢; exact key _ h
   ·exact ⟨h.1,key _ h.2⟩
   ·exact key _ h
   ·rename_i cs'
    have:=key cs'
    cases hc:cs'.length.beq n with
    | false=>simp [hc,Prg.hits] at h
    | true=>simp only [hc,cond_true] at h this ⊢; exact this h
   ·exact ⟨h.1,key _ h.2⟩
   ·exact h.elim
  ·exact h.elim
 | [],_ :: _,cs,h=>h.elim
 | _ :: _,[],cs,h=>h.elim
theorem vG {S:Type} {v:AV} {k:TV→Prg S}:vW look v.nf k=vW look v k:=by
 rcases aL v with h | ⟨b,h,rfl | rfl⟩
 ·rw [h]
 ·rfl
 ·rfl
theorem B7 {S:Type} {v:AV} {k:TV→Prg S}:sf look v.nf k=sf look v k:=by
 rcases aL v with h | ⟨b,h,rfl | rfl⟩
 ·rw [h]
 ·rfl
 ·rfl
theorem Bp {S:Type} {v:AV} {k:TV→List (Nat × Nat)→Prg S}:tj look v.nf k=tj look v k:=by
 rcases aL v with h | ⟨b,h,rfl | rfl⟩
 ·rw [h]
 ·rfl
 ·rfl
theorem sO {S:Type}:∀ {vs:List AV} {k:List TV→Prg S},lends look (vs.map AV.nf) k=lends look vs k
 | [],k=>rfl
 | v :: vs,k=>by simp only [List.map_cons,lends,B7,sO]
theorem rx {S:Type}:∀ {vs:List AV} {k:List TV→List (Nat × Nat)→Prg S},hands look (vs.map AV.nf) k=hands look vs k
 | [],k=>rfl
 | v :: vs,k=>by simp only [List.map_cons,hands,Bp,rx]
theorem BG {E:Env} {id:Nat} {look:Look} {f:FuncId} {ld:fh} (vs:List AV):ow E id look f ld (vs.map AV.nf)=ow E id look f ld vs:=by
 cases vs with
 | nil=>rfl
 | cons v l =>
  rcases aL v with h | ⟨b,h,rfl | rfl⟩
  ·simp only [List.map_cons,h]
   cases v with
   | one c =>
    cases c with
    | ptr i off =>
     cases off with
     | zero=>simp only [ow,rx]
     | succ n=>rfl
    | _=>rfl
   | _=>rfl
  ·simp only [List.map_cons,h]; rfl
  ·simp only [List.map_cons,h]; rfl
theorem Ce {look:Look} {f:FuncId} {c:Nat × Nat} (vs:List AV):nN look f c (vs.map AV.nf)=nN look f c vs:=by
 cases vs with
 | nil=>rfl
 | cons v l =>
  rcases aL v with h | ⟨b,h,rfl | rfl⟩
  ·simp only [List.map_cons,h]
   cases v with
   | one c =>
    cases c with
    | ptr i off =>
     cases off with
     | zero=>simp only [nN,sO]
     | succ n=>rfl
    | _=>rfl
   | _=>rfl
  ·simp only [List.map_cons,h]; rfl
  ·simp only [List.map_cons,h]; rfl
theorem A6 {S:Type} {v:Option AV} {k:Option Nat→Prg S}:im (v.map AV.nf) k=im v k:=by
 cases v with
 | none=>rfl
 | some v=>simp only [im,EW,jR]
theorem uZ (v:AV):rU v.nf=rU v:=by
 rcases aL v with h | ⟨b,h,rfl | rfl⟩
 ·rw [h]
 ·rfl
 ·rfl
theorem zh {S:Type} {d:TyD} {dest:Option Nat} {v:AV} {k:List (List TV)→List Prim→Prg S}:xi look d dest v.nf k=xi look d dest v k:=by
 rcases aL v with h | ⟨b,h,rfl | rfl⟩
 ·rw [h]
 ·rfl
 ·rfl
theorem lU {kd:Kd} {sz:Nat} {x:AV} {lo hi:Option AV}:jd look kd sz x.nf (lo.map AV.nf) (hi.map AV.nf)=jd look kd sz x lo hi:=by
 simp only [jd,jR,A6]
 rcases aL x with h | ⟨b,h,rfl | rfl⟩
 ·rw [h]
  cases lo <;> rfl
 ·rfl
 ·rfl
theorem C3 (v:AV):ub v.nf=ub v:=by
 rcases aL v with h | ⟨b,h,rfl | rfl⟩
 ·rw [h]
 ·rfl
 ·rfl
theorem opL_nf {op : Op} {vs : List AV} {e : Eff} (h : (opL E id look op vs).hits C e) : ∃ e', (opL E id look op (vs.map AV.nf)).hits C e' ∧ e'.nfE = e.nfE := by
 cases op with
 | move x =>
  rcases vs with _ | ⟨v,_ | ⟨v',r⟩⟩ <;> first | exact h.elim | skip
  cases h
  exact ⟨_,rfl,by simp [Eff.nfE,zS]⟩
 | assign x =>
  rcases vs with _ | ⟨v,_ | ⟨v',r⟩⟩ <;> first | exact h.elim | skip
  cases h
  exact ⟨_,rfl,by simp [Eff.nfE,zS]⟩
 | pick c x y =>
  rcases vs with _ | ⟨v,_ | ⟨v',_ | ⟨v'',_ | ⟨v3,r⟩⟩⟩⟩ <;> first | exact h.elim | skip
  simp only [opL] at h
  split at h
  ·rename_i b
   cases h
   refine ⟨_,rfl,?_⟩
   cases b <;> simp [Eff.nfE,zS]
  ·exact h.elim
 | alloc t =>
  rcases vs with _ | ⟨v,r⟩ <;> first | exact h.elim | exact ⟨e,h,rfl⟩
 | box t x =>
  rcases vs with _ | ⟨v,_ | ⟨v',r⟩⟩ <;> first | exact h.elim | skip
  refine ⟨e,?_,rfl⟩
  simp only [opL,List.map_cons,List.map_nil] at h ⊢
  split at h
  ·exact fg h
  ·exact h.elim
 | makeFunc fn first cap =>
  cases fn with
  | func f =>
   have:∃ cs,e=.val (.clo f cs):=by
    simp only [opL] at h
    cases hb:first.size.beq 0 with
    | false=>simp [hb,Prg.hits] at h
    | true =>
     simp only [hb,cond_true] at h
     exact mj (k:=fun l=>l) h
   obtain ⟨cs,rfl⟩:=this
   refine ⟨_,?_,rfl⟩
   simp only [opL] at h ⊢
   cases hb:first.size.beq 0 with
   | false=>simp [hb,Prg.hits] at h
   | true=>simp only [hb,cond_true] at h ⊢; exact ot h
  | _=>exact h.elim
 | build t parts =>
  refine ⟨e,?_,rfl⟩
  simp only [opL] at h ⊢
  split at h
  ·rename_i d hd
   cases hb:ls E.T d.kd with
   | false=>simp [hb,Prg.hits] at h
   | true=>simp only [hb,cond_true] at h ⊢; exact vM h
  ·exact h.elim
 | buildSlice t len parts =>
  refine ⟨e,?_,rfl⟩
  simp only [opL] at h ⊢
  split at h
  ·exact vM h
  ·exact h.elim
 | load t x =>
  rcases vs with _ | ⟨v,_ | ⟨v',r⟩⟩ <;> first | exact h.elim | skip
  refine ⟨e,?_,rfl⟩
  rcases aL v with h1 | ⟨b,h1,rfl | rfl⟩
  ·simpa only [List.map_cons,List.map_nil,h1] using h
  ·simp only [opL] at h; split at h <;> exact h.elim
  ·simp only [opL] at h; split at h <;> exact h.elim
 | store t x y =>
  rcases vs with _ | ⟨v,_ | ⟨v',_ | ⟨v'',r⟩⟩⟩ <;> first | exact h.elim | skip
  refine ⟨e,?_,rfl⟩
  simp only [opL,List.map_cons,List.map_nil] at h ⊢
  split at h
  ·rcases aL v with h1 | ⟨b,h1,rfl | rfl⟩
   ·rw [h1]
    unfold vy at h ⊢
    split at h
    ·rename_i e0 _ _ i0 off0 len0 n0
     cases hk0:e0.kd.isAgg with
     | true=>rw [hk0] at h; exact h.elim
     | false =>
      rw [hk0] at h
      simp only [cond_false] at h ⊢
      split at h
      ·exact fg h
      ·exact h.elim
    ·exact fg h
    ·exact fg h
    ·exact h.elim
   ·exact h.elim
   ·exact h.elim
  ·exact h.elim
 | nilCheck x =>
  rcases vs with _ | ⟨v,_ | ⟨v',r⟩⟩ <;> first | exact h.elim | skip
  refine ⟨e,?_,rfl⟩
  rcases aL v with h1 | ⟨b,h1,rfl | rfl⟩
  ·simpa only [List.map_cons,List.map_nil,h1] using h
  ·exact h.elim
  ·exact h.elim
 | binOp op xt x y yt =>
  rcases vs with _ | ⟨v,_ | ⟨v',_ | ⟨v'',r⟩⟩⟩ <;> first | exact h.elim | skip
  refine ⟨e,?_,rfl⟩
  simp only [opL,List.map_cons,List.map_nil] at h ⊢
  split at h
  ·unfold Ec at h ⊢
   split at h
   ·split at h
    ·exact fg (ww (fun cs h=>fg h) h)
    ·exact h.elim
   ·simp only [DG,C3] at h ⊢
    exact h
   ·simp only [DV,vG,jR] at h ⊢
    exact h
  ·exact h.elim
 | unOp op xt x =>
  rcases vs with _ | ⟨v,_ | ⟨v',r⟩⟩ <;> first | exact h.elim | skip
  rcases aL v with h1 | ⟨b,h1,h2⟩
  ·refine ⟨e,?_,rfl⟩
   simpa only [List.map_cons,List.map_nil,h1] using h
  ·have hv:∃ t,(opL E id look (.unOp op xt x) [v]).hits C e→(Prg.tv (pun op (.lit (.bool b))) vt).hits C e:=⟨(),by rcases h2 with rfl | rfl <;> intro h <;> cases op <;> exact h⟩
   obtain ⟨_,hv⟩:=hv
   obtain ⟨z,hz,hh⟩:=hv h
   cases op with
   | not =>
    simp only [pun,EL] at hz
    subst hz
    cases hh
    refine ⟨.val (.bl !b),?_,rfl⟩
    simp only [List.map_cons,List.map_nil,h1]
    rfl
   | _=>simp [pun] at hz
 | convert xt dt x =>
  rcases vs with _ | ⟨v,_ | ⟨v',r⟩⟩ <;> first | exact h.elim | skip
  refine ⟨e,?_,rfl⟩
  simp only [opL,List.map_cons,List.map_nil,zF,jR,vG] at h ⊢
  exact h
 | makeSlice t x y =>
  rcases vs with _ | ⟨v,_ | ⟨v',_ | ⟨v'',r⟩⟩⟩ <;> first | exact h.elim | skip
  refine ⟨e,?_,rfl⟩
  simp only [opL,List.map_cons,List.map_nil,jR] at h ⊢
  exact h
 | slice t x lo hi mx =>
  refine ⟨e,?_,rfl⟩
  cases mx with
  | some m=>rcases vs with _ | ⟨v,r⟩ <;> exact h.elim
  | none =>
   rcases vs with _ | ⟨v,r⟩
   ·exact h.elim
   ·simp only [opL, List.map_cons] at h ⊢
    split at h
    ·rename_i d hT
     split at h
     ·rename_i sz hsz
      cases lo with
      | none =>
       cases hi with
       | none =>
        rcases r with _ | ⟨l,r⟩
        ·have:=lU (look:=look) (kd:=d.kd) (sz:=sz) (x:=v) (lo:=none) (hi:=none)
         simp only [Option.map_none] at this
         simp only [List.map_nil]
         rw [this]; exact h
        ·exact h.elim
       | some hh =>
        rcases r with _ | ⟨l,_ | ⟨l',r⟩⟩
        ·exact h.elim
        ·have:=lU (look:=look) (kd:=d.kd) (sz:=sz) (x:=v) (lo:=none) (hi:=some l)
         simp only [Option.map_none,EW] at this
         simp only [List.map_cons,List.map_nil]
         rw [this]; exact h
        ·exact h.elim
      | some ll =>
       cases hi with
       | none =>
        rcases r with _ | ⟨l,_ | ⟨l',r⟩⟩
        ·exact h.elim
        ·have:=lU (look:=look) (kd:=d.kd) (sz:=sz) (x:=v) (lo:=some l) (hi:=none)
         simp only [Option.map_none,EW] at this
         simp only [List.map_cons,List.map_nil]
         rw [this]; exact h
        ·exact h.elim
       | some hh =>
        rcases r with _ | ⟨l,_ | ⟨l',_ | ⟨l'',r⟩⟩⟩
        ·exact h.elim
        ·exact h.elim
        ·have:=lU (look:=look) (kd:=d.kd) (sz:=sz) (x:=v) (lo:=some l) (hi:=some l')
         simp only [EW] at this
         simp only [List.map_cons,List.map_nil]
         rw [this]; exact h
        ·exact h.elim
     ·exact h.elim
    ·exact h.elim
 | fieldAddr t x f =>
  rcases vs with _ | ⟨v,_ | ⟨v',r⟩⟩ <;> first | exact h.elim | skip
  refine ⟨e,?_,rfl⟩
  rcases aL v with h1 | ⟨b,h1,rfl | rfl⟩
  ·simpa only [List.map_cons,List.map_nil,h1] using h
  ·simp only [opL] at h
   split at h
   ·rename_i hv
    cases hv
    split at h
    ·rename_i n _ _
     cases hb:Nat.blt 0 n <;> simp [hb,CA.add,Prg.hits] at h
    ·exact h.elim
   ·exact h.elim
  ·simp only [opL] at h
   split at h
   ·rename_i hv; cases hv
   ·exact h.elim
 | field t x f =>
  rcases vs with _ | ⟨v,_ | ⟨v',r⟩⟩ <;> first | exact h.elim | skip
  refine ⟨e,?_,rfl⟩
  rcases aL v with h1 | ⟨b,h1,rfl | rfl⟩
  ·simpa only [List.map_cons,List.map_nil,h1] using h
  ·simp only [opL] at h
   split at h
   ·split at h <;> exact h.elim
   ·exact h.elim
  ·simp only [opL] at h
   split at h
   ·split at h
    ·simp [vQ,TV.isAgg,Prg.hits] at h
    ·exact h.elim
   ·exact h.elim
 | indexAddr t x y =>
  rcases vs with _ | ⟨v,_ | ⟨v',_ | ⟨v'',r⟩⟩⟩ <;> first | exact h.elim | skip
  refine ⟨e,?_,rfl⟩
  simp only [opL,List.map_cons,List.map_nil] at h ⊢
  split at h
  ·rcases aL v with h1 | ⟨b,h1,rfl | rfl⟩
   ·simp only [h1,pz,jR] at h ⊢; exact h
   ·simp only [pz,jR] at h ⊢; exact h
   ·simp only [pz,jR] at h ⊢; exact h
  ·unfold rf at h ⊢
   rw [jR]
   rcases aL v with h1 | ⟨b,h1,rfl | rfl⟩
   ·rw [h1]; exact h
   ·split at h
    ·split at h <;> first | exact h.elim | (rename_i hx _; cases hx)
    ·exact h.elim
   ·split at h
    ·split at h <;> first | exact h.elim | (rename_i hx _; cases hx)
    ·exact h.elim
 | index t x y =>
  rcases vs with _ | ⟨v,_ | ⟨v',_ | ⟨v'',r⟩⟩⟩ <;> first | exact h.elim | skip
  refine ⟨e,?_,rfl⟩
  simp only [opL,List.map_cons,List.map_nil,jR] at h ⊢
  exact h
 | extract x j =>
  rcases vs with _ | ⟨v,_ | ⟨v',r⟩⟩ <;> first | exact h.elim | skip
  refine ⟨e,?_,rfl⟩
  rcases aL v with h1 | ⟨b,h1,rfl | rfl⟩
  ·simpa only [List.map_cons,List.map_nil,h1] using h
  ·exact h.elim
  ·exact h.elim
 | call c =>
  refine ⟨e,?_,rfl⟩
  obtain ⟨callee,args,tys⟩:=c
  cases callee with
  | builtin b =>
   simp only [opL] at h ⊢
   unfold d8 at h
   split at h
   ·rename_i x ty htys
    simp only [htys,d8,List.map_cons,List.map_nil]
    split at h
    ·rename_i d hd
     have key:∀ kd,(yA look kd x).hits C e→(yA look kd x.nf).hits C e:=by intro kd; cases kd <;> simp only [yA,vG] <;> exact fun h=>h
     exact key _ h
    ·exact h.elim
   ·rename_i s x ty ty' htys
    simp only [htys,d8,List.map_cons,List.map_nil]
    split at h
    ·rename_i _ d hel
     cases hb:Nat.beq ty ty' with
     | false =>
      simp only [hb,cond_false] at h ⊢
      split at h
      ·rename_i hu
       exact h.elim
      ·exact h.elim
     | true =>
      simp only [hb,cond_true] at h ⊢
      unfold nB at h ⊢
      rw [zh,uZ]
      rcases aL s with h1 | ⟨b,h1,rfl | rfl⟩
      ·rw [h1]; exact h
      ·exact h
      ·exact h
    ·exact h.elim
   ·rename_i s x ty ty' htys
    simp only [htys,d8,List.map_cons,List.map_nil]
    split at h
    ·rename_i _ d hel
     cases hb:Nat.beq ty ty' with
     | false=>simp [hb,Prg.hits] at h
     | true =>
      simp only [hb,cond_true] at h ⊢
      unfold zj at h ⊢
      rw [zh,uZ]
      rcases aL s with h1 | ⟨b,h1,rfl | rfl⟩
      ·rw [h1]; exact h
      ·exact h
      ·exact h
    ·exact h.elim
   ·rename_i s ty htys
    simp only [htys,d8,List.map_cons,List.map_nil]
    split at h
    ·exact h.elim
    ·exact h.elim
   ·simp only [d8,List.map_cons,List.map_nil,wr,jR] at h ⊢
    exact h
   ·simp only [d8,List.map_cons,List.map_nil,wr,jR] at h ⊢
    exact h
   ·exact h.elim
  | value f =>
   cases f with
   | func f =>
    rcases vs with _ | ⟨v,r⟩
    ·exact h.elim
    ·simp only [opL,List.map_cons,mI,sO,rx,BG,Ce] at h ⊢
     exact h
   | tmp t =>
    rcases vs with _ | ⟨v,r⟩
    ·exact h.elim
    ·exact h.elim
   | _=>exact h.elim
  | invoke r m=>exact h.elim
 | _=>exact h.elim
theorem lI (st:ASt):st.nfS.look=st.look:=rfl
theorem nw (st:ASt):st.nfS.base=st.base:=rfl
theorem vz (st:ASt) (d:Option Tmp):st.nfS.nid d=st.nid d:=by cases d <;> rfl
theorem kg (st:ASt) (d:Option Tmp) (v:AV):(st.put d v).nfS=st.nfS.put d v.nf:=by
 cases d with
 | none=>rfl
 | some d=>simp [ASt.nfS,ASt.put,ai,List.map_set]
theorem rN (st:ASt) (i:Nat) (b:Option BC):(st.ac i b).nfS=st.nfS.ac i b:=rfl
theorem tg (st:ASt) (t:Nat):nth (.one .junk) st.nfS.slots t=(nth (.one .junk) st.slots t).nf:=by
 simp only [ASt.nfS,bj,EP]
 cases st.slots[t]? <;> rfl
theorem Az (ps:List Nat) (st:ASt) (d:Option Nat) (e:Eff):cL ps st.nfS d e.nfE=cL ps st d e:=by
 unfold cL
 congr 1
 funext k
 cases d with
 | none=>rw [nw,cD]
 | some d=>simp only [nw,cD,tg,oO]
theorem Bm {o:Item} {st:ASt} {e:Eff} (h:ko o st e=true):ko o st.nfS e.nfE=true:=nomatch h
theorem si (st:ASt) (x:Operand):st.nfS.ev x=(st.ev x).nf:=by
 cases x with
 | tmp t=>exact tg st t
 | const v =>
  cases v with
  | bool b=>rfl
  | _=>first | rfl | (simp only [ASt.ev]; cases Value.oneCell' _ <;> rfl)
 | global g=>rfl
 | func f=>rfl
theorem sU:∀ (l:List AV),dh (l.map AV.nf)=dh l
 | []=>rfl
 | v :: l=>by simp only [List.map_cons,dh,jR,sU l]
theorem kX (e:Eff):iK e.nfE=iK e:=by
 cases e with
 | new b v=>cases b <;> rfl
 | _=>rfl
theorem AP {i:Item} {st:ASt} {e:Eff}:ic i st.nfS e.nfE=ic i st e:=by
 unfold ic
 have:i.o.op.operands.toList.map st.nfS.ev=(i.o.op.operands.toList.map st.ev).map AV.nf:=by
  rw [List.map_map]
  exact List.map_congr_left fun x _=>si st x
 rw [this,sU,kX,cD]
 rfl
theorem xl:∀ (l:List AV),jo (l.map AV.nf)=jo l
 | []=>rfl
 | v :: l=>by simp only [List.map_cons,jo,oO,xl l]
theorem pK (e:Eff):mT e.nfE=mT e:=by cases e <;> rfl
theorem yK (e:Eff):drE e.nfE=drE e:=by cases e <;> rfl
theorem rW (k:Nat) (e:Eff):uf k e.nfE=uf k e:=by cases e <;> rfl
theorem qU (v:AV):(v.nf.ce CA.deep).ip=(v.ce CA.deep).ip:=by
 rcases aL v with h | ⟨b,h,rfl | rfl⟩
 ·rw [h]
 ·rw [h]; rfl
 ·rw [h]; rfl
theorem xf:∀ (l:List AV),jo (cF CA.deep (l.map AV.nf))=jo (cF CA.deep l)
 | []=>rfl
 | v :: l=>by simp only [List.map_cons,cF,jo,qU,xf l]
theorem qd (e:Eff):nI e.nfE=nI e:=by
 cases e with
 | val v=>exact qU v
 | new b v=>exact cD (.new b v)
 | upd i b v=>exact cD (.upd i b v)
 | gen ps v=>exact cD (.gen ps v)
theorem A5 {i:Item} {st:ASt} {e:Eff}:cH i st.nfS e.nfE=cH i st e:=by
 unfold cH
 simp only [pK,yK,rW]
 rfl
theorem AE {i:Item} {st:ASt} {e:Eff}:dz i st.nfS e.nfE=dz i st e:=by
 unfold dz
 have hd:∀ d b,ju st.nfS d b=ju st d b:=fun d b=>by
  cases d with
  | none=>rfl
  | some d =>
   have:=si st (.tmp d)
   simp only [ASt.ev] at this
   simp only [ju,this,oO]
 have hd2:∀ d b,gT st.nfS d b=gT st d b:=fun d b=>by
  cases d with
  | none=>rfl
  | some d =>
   have:=si st (.tmp d)
   simp only [ASt.ev] at this
   simp only [gT,this,qU]
 simp only [hd,hd2,cD,qd]
 have:i.o.op.operands.toList.map st.nfS.ev=(i.o.op.operands.toList.map st.ev).map AV.nf:=by
  rw [List.map_map]
  exact List.map_congr_left fun x _=>si st x
 rw [this,xl,xf]
 rfl
theorem okE_nf {i:Item} {st:ASt} {e:Eff} (h:okE i st e=true):okE i st.nfS e.nfE=true:=by
 unfold okE at h ⊢
 rw [Bool.or_eq_true] at h ⊢
 rcases h with h | h
 ·rw [A5]; exact .inl h
 refine .inr ?_
 rw [Bool.or_eq_true] at h ⊢
 rcases h with h | h
 ·rw [nH,wZ,nw,Az,AP,AE]; exact .inl h
 ·exact .inr (Bm h)
theorem vT (hs:Sim w0 I0 st a ov w):Sim w0 I0 st.nfS a ov w:=by
 obtain ⟨g,hs⟩:=hs
 refine ⟨g,hs.below,hs.sub,hs.lt,hs.old,by simp [ASt.nfS,hs.len],hs.defers,fun t v hv=>?_,hs.olen,hs.outs,hs.cells,hs.trees,hs.foot,hs.apart,hs.apartR,hs.res,hs.base,hs.out⟩
 simp only [ASt.nfS,EP] at hv
 cases hsl:st.slots[t]? with
 | none=>simp [hsl] at hv
 | some u =>
  simp only [hsl,EW,EL] at hv
  subst hv
  exact B5.2 (hs.slots t u hsl)
theorem gf (hs:Sim w0 I0 st.nfS a ov w):Sim w0 I0 st a ov w:=by
 obtain ⟨g,hs⟩:=hs
 refine ⟨g,hs.below,hs.sub,hs.lt,hs.old,by have:=hs.len; simpa [ASt.nfS] using this,hs.defers,fun t v hv=>?_,hs.olen,hs.outs,hs.cells,hs.trees,hs.foot,hs.apart,hs.apartR,hs.res,hs.base,hs.out⟩
 exact B5.1 (hs.slots t v.nf (by simp [ASt.nfS,hv]))
theorem od (i r:Nat) (js:List Nat) (b:Bool) (v:AV):(v.ce (CA.drop i r js b)).nf=v.nf.ce (CA.drop i r js b):=by
 rcases aL v with h | ⟨b,h,rfl | rfl⟩
 ·rw [h]
  cases v with
  | one c =>
   have key:∀ c:CA,c.drop i r js b=c∨c.drop i r js b=.junk:=fun c=>by
    rcases iB i r js b c with ⟨h,_⟩ | h
    ·exact .inl h
    ·exact .inr h
   simp only [AV.ce]
   rcases key c with h' | h'
   ·rw [h',h]
   ·rw [h']; rfl
  | tv x=>exact h
  | _=>rfl
 ·rfl
 ·rfl
theorem BJ (st:ASt) (i r:Nat) (js:List Nat) (b:Bool):(st.az (CA.drop i r js b)).nfS=st.nfS.az (CA.drop i r js b):=by
 simp only [ASt.nfS,ASt.az]
 congr 1
 apply List.ext_getElem?
 intro t
 simp only [EP,mf]
 cases st.slots[t]? with
 | none=>rfl
 | some v=>simp [od]
theorem qo (i:Nat) (v:AV):(v.ce (CA.unM i)).nf=v.nf.ce (CA.unM i):=by
 cases v with
 | one c =>
  cases c with
  | t x =>
   cases x with
   | lit u=>cases u <;> rfl
   | _=>rfl
  | may j ty =>
   simp only [AV.ce,CA.unM,AV.nf]
   cases j.beq i <;> rfl
  | _=>rfl
 | tv x =>
  cases x with
  | lit u=>cases u <;> rfl
  | _=>rfl
 | _=>rfl
theorem Dx (st:ASt) (i:Nat):(st.az (CA.unM i)).nfS=st.nfS.az (CA.unM i):=by
 simp only [ASt.az,ASt.nfS]
 congr 1
 induction st.slots with
 | nil=>rfl
 | cons v l ih=>simp only [cF,List.map_cons,qo,ih]
theorem uW {i:Nat} {b:BC} (h:st.bB i b=some st'):st.nfS.bB i b=some st'.nfS:=by
 obtain ⟨h1,h2,rfl⟩:=bk h
 have h2':i.blt st.nfS.boxes.length=true:=by simpa [ASt.nfS] using h2
 simp only [ASt.bB,lI,h1,h2',cond_true,rN]
theorem qm {d:Option Tmp}:∀ {ps:List Prim} {st st':ASt},ae d ps st=some st'→ae d ps st.nfS=some st'.nfS
 | [],st,st',h=>by simp only [ae,EL] at h; subst h; rfl
 | p :: ps, st, st', h => by
  simp only [ae] at h ⊢
  cases h1:p.app st d with
  | none=>simp [h1] at h
  | some s1 =>
   simp only [h1] at h
   have:p.app st.nfS d=some s1.nfS:=by
    cases p with
    | drop i r js b =>
     simp only [Prim.app,EL] at h1 ⊢
     subst h1
     rw [BJ]
    | root i r x =>
     simp only [Prim.app,lI] at h1 ⊢
     split at h1
     ·rename_i b hb
      simp only [EL] at h1
      subst h1
      rfl
     ·cases h1
    | frz i r =>
     simp only [Prim.app,lI] at h1 ⊢
     split at h1
     ·rename_i x hx
      split at h1
      ·rename_i b hb
       simp only [EL] at h1
       subst h1
       rfl
      ·cases h1
     ·cases h1
    | unmay i =>
     simp only [Prim.app,EL] at h1 ⊢
     subst h1
     rw [Dx]
    | newB b =>
     cases d with
     | none=>simp [Prim.app] at h1
     | some d =>
      simp only [Prim.app] at h1 ⊢
      rw [vz]
      exact uW h1
    | setB i cs =>
     simp only [Prim.app,lI] at h1 ⊢
     split at h1
     ·simp only [EL] at h1
      subst h1
      rfl
     ·cases h1
   rw [this]
   exact qm h
theorem app_nf {e:Eff} {d:Option Tmp} (h:e.app st d=some st'):e.nfE.app st.nfS d=some st'.nfS:=by
 cases e with
 | val v =>
  simp only [Eff.app,Eff.nfE,EL] at h ⊢
  subst h
  rw [kg]
 | new b v =>
  cases d with
  | none=>simp [Eff.app] at h
  | some d =>
   simp only [Eff.app,Eff.nfE] at h ⊢
   rw [vz]
   split at h
   ·rename_i s1 hs1
    simp only [EL] at h
    subst h
    rw [uW hs1]
    simp only [kg]
   ·cases h
 | upd i b v =>
  simp only [Eff.app,Eff.nfE,EL] at h ⊢
  subst h
  rw [kg,rN]
 | gen ps v =>
  simp only [Eff.app,Eff.nfE] at h ⊢
  split at h
  ·rename_i s1 hs1
   simp only [EL] at h
   subst h
   rw [qm hs1]
   simp only [kg]
  ·cases h
theorem kP {d:Option Tmp} {v:AV} (hs:Sim w0 I0 (st.put d v) a ov w):Sim w0 I0 (st.put d v.nf) a ov w:=by
 apply gf
 have:=vT hs
 rw [kg] at this ⊢
 rwa [zS]
theorem DI {e:Eff} {d:Option Tmp} (h:e.nfE.app st d=some st'):∃ st1,e.app st d=some st1∧∀ w0 I0 a ov w,Sim w0 I0 st1 a ov w→Sim w0 I0 st' a ov w:=by
 cases e with
 | val v =>
  simp only [Eff.app,Eff.nfE,EL] at h ⊢
  subst h
  exact ⟨_,rfl,fun w0 I0 a ov w hs=>kP hs⟩
 | new b v =>
  cases d with
  | none=>simp [Eff.app,Eff.nfE] at h
  | some d =>
   simp only [Eff.app,Eff.nfE] at h ⊢
   split at h
   ·rename_i s1 hs1
    simp only [EL] at h
    subst h
    exact ⟨_,rfl,fun w0 I0 a ov w hs=>kP hs⟩
   ·cases h
 | upd i b v =>
  simp only [Eff.app,Eff.nfE,EL] at h ⊢
  subst h
  exact ⟨_,rfl,fun w0 I0 a ov w hs=>kP hs⟩
 | gen ps v =>
  simp only [Eff.app,Eff.nfE] at h ⊢
  split at h
  ·rename_i s1 hs1
   simp only [EL] at h
   subst h
   exact ⟨_,rfl,fun w0 I0 a ov w hs=>kP hs⟩
  ·cases h
end
end Go.Ab
end
section
namespace Go.Ab
open Go.RowKit
def Prg.All {R:Type} (p:R→Prop):Prg R→Prop
 | .fail=>True
 | .ret e=>p e
 | .tv _ k=>∀ v,(k v).All p
 | .tvs _ k=>∀ v,(k v).All p
 | .rws _ k=>∀ v,(k v).All p
 | .nat _ k=>∀ v,(k v).All p
 | .chk _ k=>k.All p
 | .ite _ t e=>t.All p∧e.All p
 | .call _ _ k=>∀ v,(k v).All p
 | .jmp _ _=>True
theorem Prg.All.hits {R:Type} {C:Cal} {p:R→Prop} {e:R}:∀ {o:Prg R},o.All p→o.hits C e→p e
 | .ret e',h,h'=>by cases h'; exact h
 | .tv _ k,h,⟨v,_,h'⟩=>(h v).hits h'
 | .tvs _ k,h,⟨v,_,h'⟩=>(h v).hits h'
 | .rws _ k,h,⟨v,_,h'⟩=>(h v).hits h'
 | .nat _ k,h,⟨v,_,h'⟩=>(h v).hits h'
 | .chk _ k,h,⟨_,h'⟩=>Prg.All.hits (o:=k) h h'
 | .ite _ t e,h,⟨v,_,.inl ⟨_,h'⟩⟩=>Prg.All.hits (o:=t) h.1 h'
 | .ite _ t e,h,⟨v,_,.inr ⟨_,h'⟩⟩=>Prg.All.hits (o:=e) h.2 h'
 | .call _ _ k,h,⟨v,_,h'⟩=>(h v).hits h'
section
variable {E:Env} {look look':Look} {p:Eff→Prop} {id:Nat}
theorem aU {b:Bool} {x y:Out} (hx:x.All p) (hy:y.All p):(bif b then x else y).All p:=by cases b <;> assumption
theorem lz {q:Way} {x:TV} {k:TV→Out} (h:∀ y,(k y).All p):(qP q x k).All p:=by
 unfold qP
 split
 ·exact h _
 ·exact h
theorem gM {c:CA} {k:TV→Out} (h:∀ y,(k y).All p):(jg look c k).All p:=by
 unfold jg
 split
 ·exact h _
 ·split
  ·exact lz h
  ·exact trivial
 ·split
  ·exact lz fun y z=>h z
  ·exact trivial
 ·exact trivial
theorem sB {v:AV} {k:TV→Out} (h:∀ y,(k y).All p):(vW look v k).All p:=by
 unfold vW
 split
 ·exact gM h
 ·exact h _
 ·exact h _
 ·exact trivial
theorem uY {c:CA} {k:TV→Out} (h:∀ y,(k y).All p):(rV look c k).All p:=by
 unfold rV
 split
 ·exact h _
 ·exact gM fun y=>h _
 ·exact gM fun y=>h _
 ·exact trivial
theorem u1 {k:List TV→Out}:∀ {cs:List CA} {k:List TV→Out},(∀ y,(k y).All p)→(Ac look cs k).All p
 | [],k,h=>h _
 | c :: cs,k,h=>uY fun y=>u1 (k:=fun _=>.fail) fun ys=>h _
theorem A3 {v:AV} {k:TV→Out} (h:∀ y,(k y).All p):(sf look v k).All p:=by
 unfold sf
 split
 ·exact uY h
 ·exact h _
 ·exact u1 (k:=fun _=>.fail) fun ys=>h _
 ·exact trivial
 ·exact trivial
 ·exact h _
theorem pn:∀ {vs:List AV} {k:List TV→Out},(∀ y,(k y).All p)→(lends look vs k).All p
 | [],k,h=>h _
 | v :: vs,k,h=>A3 fun y=>pn fun ys=>h _
theorem ux {c:CA} {k:TV→List (Nat × Nat)→Out} (h:∀ y r,(k y r).All p):(tE look c k).All p:=by
 unfold tE
 split
 ·exact h _ _
 ·split
  ·split
   ·exact h _ _
   ·exact fun y=>h _ _
  ·exact trivial
 ·split
  ·split
   ·exact fun y=>h _ _
   ·exact fun z y=>h _ _
  ·exact trivial
 ·exact trivial
theorem uR:∀ {cs:List CA} {k:List TV→List (Nat × Nat)→Out},(∀ y r,(k y r).All p)→(zy look cs k).All p
 | [],k,h=>h _ _
 | c :: cs,k,h=>ux fun y r=>uR fun ys rs=>h _ _
theorem Ah {v:AV} {k:TV→List (Nat × Nat)→Out} (h:∀ y r,(k y r).All p):(tj look v k).All p:=by
 unfold tj
 split
 ·exact ux h
 ·exact h _ _
 ·exact uR fun ys rs=>h _ _
 ·exact trivial
 ·exact trivial
 ·exact h _ _
theorem pm:∀ {vs:List AV} {k:List TV→List (Nat × Nat)→Out},(∀ y r,(k y r).All p)→(hands look vs k).All p
 | [],k,h=>h _ _
 | v :: vs,k,h=>Ah fun y r=>pm fun ys rs=>h _ _
theorem du:∀ {cs:List CA} {k:List TV→List Prim→List (Nat × Nat)→Out},(∀ y q r,(k y q r).All p)→(bH look cs k).All p
 | [],k,h=>h _ _ _
 | .t x :: l,k,h=>by
  simp only [bH]
  exact du (cs:=l) fun xs ps ts=>h _ _ _
 | .sref i r q :: l, k, h => by
  simp only [bH]
  split
  ·split
   ·exact du (cs:=l) fun xs ps ts=>h _ _ _
   ·exact fun y=>du (cs:=l) fun xs ps ts=>h _ _ _
  ·exact trivial
 | .swin i r q lo len :: l, k, h => by
  simp only [bH]
  split
  ·split
   ·exact fun y=>du (cs:=l) fun xs ps ts=>h _ _ _
   ·exact fun z y=>du (cs:=l) fun xs ps ts=>h _ _ _
  ·exact trivial
 | .ptr _ _ :: l,k,h=>trivial
 | .ref _ _ :: l,k,h=>trivial
 | .tptr _ _ _ _ _ :: l,k,h=>trivial
 | .may _ _ :: l,k,h=>trivial
 | .aptr _ _ _ _ :: l,k,h=>trivial
 | .yl _ :: l,k,h=>trivial
 | .undef :: l,k,h=>trivial
 | .junk :: l,k,h=>trivial
theorem dZ {agg:Bool} {n:Nat} {x:AV} {k:List CA→Out} (h:∀ cs,(k cs).All p):(x.bd agg n k).All p:=by
 unfold AV.bd
 split
 ·rename_i c; cases c.kept <;> first | exact trivial | exact h _
 ·exact h _
 ·exact h _
 ·rename_i cs; cases cs.length.beq n <;> first | exact trivial | exact h _
 ·exact h _
 ·exact trivial
theorem tG {at_:Nat→Option (Nat × Bool × Nat)} {k:List CA→Out} (h:∀ cs,(k cs).All p):∀ (is:List Nat) (vs:List AV) (cs:List CA),(bW at_ is vs cs k).All p
 | [],[],cs=>h cs
 | i :: is, x :: vs, cs => by
  simp only [bW]
  split
  ·refine dZ (fun ps=>?_)
   exact aU (tG h is vs _) trivial
  ·exact trivial
 | [],_ :: _,cs=>trivial
 | _ :: _,[],cs=>trivial
theorem i6 {v:Option AV} {k:Option Nat→Out} (h:∀ n,(k n).All p):(im v k).All p:=by
 unfold im
 split
 ·exact h _
 ·split
  ·exact fun v=>h _
  ·exact trivial
abbrev jr (e:Eff):Prop:=∃ v,e=.val v
abbrev mB (e:Eff):Prop:=∃ b v,e=.new b v
theorem wA {d:TyD} {x:List TV} {off:Nat}:(nz d x off).All jr:=by
 unfold nz
 cases d.kd.isAgg
 ·exact ⟨_,rfl⟩
 ·exact ⟨_,rfl⟩
theorem um:∀ {vs:List AV} {k:List CA→Out},(∀ cs,(k cs).All p)→(kR vs k).All p
 | [],k,h=>h _
 | v :: vs,k,h=>dZ fun cs=>um fun cs'=>h _
theorem EB {op:Op} (h:aq op=.N) (vs:List AV):(opL E id look op vs).All jr:=by
 cases op with
 | move x=>rcases vs with _ | ⟨v,_ | ⟨v',r⟩⟩ <;> first | exact trivial | exact ⟨_,rfl⟩
 | assign x=>rcases vs with _ | ⟨v,_ | ⟨v',r⟩⟩ <;> first | exact trivial | exact ⟨_,rfl⟩
 | pick c x y =>
  rcases vs with _ | ⟨v,_ | ⟨v',_ | ⟨v'',_ | ⟨v3,r⟩⟩⟩⟩ <;> first | exact trivial | skip
  simp only [opL]
  split <;> first | exact trivial | exact ⟨_,rfl⟩
 | build t parts =>
  simp only [opL]
  split
  ·refine aU ?_ trivial
   refine tG ?_ _ _ _
   exact fun cs=>⟨_,rfl⟩
  ·exact trivial
 | nilCheck x =>
  rcases vs with _ | ⟨v,_ | ⟨v',r⟩⟩ <;> first | exact trivial | skip
  simp only [opL]
  split <;> first | exact trivial | exact ⟨_,rfl⟩
 | unOp op xt x =>
  rcases vs with _ | ⟨v,_ | ⟨v',r⟩⟩ <;> first | exact trivial | skip
  simp only [opL]
  split
  ·exact ⟨_,rfl⟩
  ·split
   ·exact fun v=>⟨_,rfl⟩
   ·exact trivial
 | fieldAddr t x f =>
  rcases vs with _ | ⟨v,_ | ⟨v',r⟩⟩ <;> first | exact trivial | skip
  simp only [opL]
  split
  ·split
   ·refine aU ?_ trivial
    split <;> first | exact trivial | exact ⟨_,rfl⟩
   ·exact trivial
  ·exact trivial
 | field t x f =>
  rcases vs with _ | ⟨v,_ | ⟨v',r⟩⟩ <;> first | exact trivial | skip
  simp only [opL]
  split
  ·split
   ·unfold vQ
    split
    ·split
     ·split <;> first | exact trivial | exact ⟨_,rfl⟩
     ·exact trivial
    ·exact ⟨_,rfl⟩
    ·exact trivial
   ·exact trivial
  ·exact trivial
 | index t x y =>
  rcases vs with _ | ⟨v,_ | ⟨v',_ | ⟨v'',r⟩⟩⟩ <;> first | exact trivial | skip
  simp only [opL]
  split <;> first | exact trivial | exact fun v=>⟨_,rfl⟩
 | extract x j =>
  rcases vs with _ | ⟨v,_ | ⟨v',r⟩⟩ <;> first | exact trivial | skip
  simp only [opL]
  split
  ·split
   ·split <;> first | exact trivial | exact ⟨_,rfl⟩
   ·exact trivial
  ·exact trivial
 | makeFunc fn first cap =>
  cases fn with
  | func f =>
   simp only [opL]
   exact aU (um fun cs=>⟨_,rfl⟩) trivial
  | _=>exact trivial
 | call c =>
  obtain ⟨callee,args,tys⟩:=c
  cases callee with
  | builtin b=>cases b <;> simp [aq] at h
  | value f=>cases f <;> simp [aq] at h
  | invoke r m=>simp [aq] at h
 | _=>simp [aq] at h
theorem Er {op:Op} (h:aq op=.R) (vs:List AV):(opL E id look op vs).All jr:=by
 cases op with
 | load t x =>
  rcases vs with _ | ⟨v,_ | ⟨v',r⟩⟩ <;> first | exact trivial | skip
  simp only [opL]
  split
  ·unfold Ds
   split
   ·refine aU trivial ?_
    split
    ·exact fun v=>⟨_,rfl⟩
    ·exact trivial
   ·split
    ·split
     ·split
      ·exact ⟨_,rfl⟩
      ·exact trivial
     ·exact trivial
    ·exact trivial
   ·exact wA
   ·split
    ·refine lz (fun s e=>?_)
     simp only [Prg.All]
     split
     ·exact ⟨_,rfl⟩
     ·exact trivial
    ·exact trivial
   ·exact trivial
  ·exact trivial
 | convert xt dt x =>
  rcases vs with _ | ⟨v,_ | ⟨v',r⟩⟩ <;> first | exact trivial | skip
  simp only [opL]
  split
  ·unfold zF
   split
   ·exact trivial
   ·split
    ·exact fun v=>⟨_,rfl⟩
    ·exact trivial
  ·exact trivial
 | binOp op xt x y yt =>
  rcases vs with _ | ⟨v,_ | ⟨v',_ | ⟨v'',r⟩⟩⟩ <;> first | exact trivial | skip
  simp only [opL]
  split
  ·unfold Ec
   split
   ·split
    ·refine dZ fun cs=>dZ fun cs'=>?_
     split
     ·exact fun v=>⟨_,rfl⟩
     ·exact trivial
    ·exact trivial
   ·unfold DG
    split
    ·exact ⟨_,rfl⟩
    ·exact ⟨_,rfl⟩
    ·exact trivial
   unfold DV
   refine aU (sB fun x=>sB fun y=>fun v=>⟨_,rfl⟩) ?_
   split
   ·exact fun v=>⟨_,rfl⟩
   ·exact trivial
  ·exact trivial
 | slice t x lo hi mx =>
  have sl:∀ {kd:Kd} {sz:Nat} {x:AV} {lo hi:Option AV},(jd look kd sz x lo hi).All jr:=by
   intro kd sz x lo hi
   unfold jd
   split
   ·exact i6 fun lo=>i6 fun hi=>fun v=>⟨_,rfl⟩
   ·split
    ·exact gM fun s n=>i6 fun lo=>i6 fun hi=>⟨_,rfl⟩
    ·split
     ·exact gM fun s=>i6 fun hi=>⟨_,rfl⟩
     ·exact trivial
    ·exact trivial
  cases mx with
  | some m=>rcases vs with _ | ⟨v,r⟩ <;> exact trivial
  | none =>
   rcases vs with _ | ⟨v,r⟩
   ·exact trivial
   ·simp only [opL]
    split
    ·split
     ·split <;> first | exact trivial | exact sl
     ·exact trivial
    ·exact trivial
 | indexAddr t x y =>
  rcases vs with _ | ⟨v,_ | ⟨v',_ | ⟨v'',r⟩⟩⟩ <;> first | exact trivial | skip
  simp only [opL]
  split
  ·unfold pz
   split
   ·split
    ·exact fun v=>⟨_,rfl⟩
    ·split
     ·exact gM fun s n k=>⟨_,rfl⟩
     ·exact gM fun s k=>⟨_,rfl⟩
     ·exact trivial
   ·exact trivial
  ·unfold rf
   split
   ·split
    ·exact aU (fun k=>⟨_,rfl⟩) trivial
    ·exact trivial
   ·exact trivial
 | call c =>
  obtain ⟨callee,args,tys⟩:=c
  cases callee with
  | builtin b =>
   have mn:∀ {mx:Bool} {x y:AV},(wr mx x y).All jr:=by
    intro mx x y
    unfold wr
    split
    ·exact fun v=>⟨_,rfl⟩
    ·exact trivial
   cases b <;> simp [aq] at h
   all_goals simp only [opL]
   all_goals unfold d8
   all_goals split <;> first | exact trivial | exact mn | contradiction | skip
   split
   ·unfold yA
    split
    ·exact ⟨_,rfl⟩
    ·exact sB fun s v=>⟨_,rfl⟩
   ·exact trivial
  | value f=>cases f <;> simp [aq] at h
  | invoke r m=>simp [aq] at h
 | _=>simp [aq] at h
theorem cls_A {op:Op} (h:aq op=.A) (vs:List AV):(opL E id look op vs).All mB:=by
 cases op with
 | alloc t =>
  rcases vs with _ | ⟨v,r⟩ <;> first | exact trivial | skip
  simp only [opL]
  split
  ·exact ⟨_,_,rfl⟩
  ·exact trivial
 | box t x =>
  rcases vs with _ | ⟨v,_ | ⟨v',r⟩⟩ <;> first | exact trivial | skip
  simp only [opL]
  split
  ·exact dZ (fun cs=>⟨_,_,rfl⟩)
  ·exact trivial
 | makeSlice t x y =>
  rcases vs with _ | ⟨v,_ | ⟨v',_ | ⟨v'',r⟩⟩⟩ <;> first | exact trivial | skip
  simp only [opL]
  split
  ·refine aU ?_ trivial
   exact fun n m=>⟨_,_,rfl⟩
  ·exact trivial
 | call c =>
  obtain ⟨callee,args,tys⟩:=c
  cases callee with
  | builtin b=>cases b <;> simp [aq] at h
  | value f=>cases f <;> simp [aq] at h
  | invoke r m=>simp [aq] at h
 | _=>simp [aq] at h
theorem jm {ps:List Prim} {b:BC} {v:AV}:(cV ps b v).plain=true→jr (cV ps b v)∨mB (cV ps b v):=by
 cases ps with
 | nil=>exact fun _=>.inr ⟨_,_,rfl⟩
 | cons q l=>exact fun h=>by cases h
theorem u6 {ps:List Prim} {v:AV}:(match ps with | []=>Eff.val v | _=>.gen ps v).plain=true→jr (match ps with | []=>Eff.val v | _=>.gen ps v)∨mB (match ps with | []=>Eff.val v | _=>.gen ps v):=by
 cases ps with
 | nil=>exact fun _=>.inl ⟨_,rfl⟩
 | cons q l=>exact fun h=>by cases h
theorem kv {d:TyD} {x:TV} {k:Out} (h:k.All p):(jF d x k).All p:=by
 unfold jF
 exact aU h h
theorem qg {x:TV} {k:Out} (h:k.All p):∀ (ds:List TyD) (j:Nat),(gA x ds j k).All p
 | [],j=>h
 | d :: ds,j=>kv (qg h ds (j + 1))
theorem xG {ds:List TyD} {v:TV} {ps:List Prim}:(wd id ds v ps).All fun e=>e.plain=true→jr e∨mB e:=by
 have many:∀ ds:List TyD,(Prg.chk (v.isTup ds.length) (gA v ds 0 (bif gN ds then .ret (cV ps (.tree (bn v ds 0)) (.tups (dK id v ds 0 0)))
   else .ret (match ps with | []=>.val (.tups (dK id v ds 0 0)) | _=>.gen ps (.tups (dK id v ds 0 0)))))).All fun e=>e.plain=true→jr e∨mB e:=by
  intro ds
  refine qg ?_ ds 0
  exact aU jm u6
 match ds with
 | []=>exact many []
 | [d] =>
  simp only [wd]
  refine kv ?_
  split
  ·exact aU jm u6
  ·exact trivial
 | d :: d' :: l=>exact many _
theorem Cj {ds:List TyD} {v:TV} {k:AV→Out} {p:Eff→Prop} (h:∀ av,(k av).All p):(C7 id ds v k).All p:=by
 have some:∀ (ds:List TyD) (j:Nat) (k:Out),k.All p→(gA v ds j k).All p:=by
  intro ds
  induction ds with
  | nil=>intro j k h; exact h
  | cons d ds ih=>intro j k h; exact kv (ih (j + 1) k h)
 unfold C7
 split
 ·refine kv ?_
  split
  ·exact h _
  ·exact trivial
 ·exact some _ 0 _ (h _)
theorem AK {f:FuncId} {ld:fh} {vs:List AV}:(ow E id look f ld vs).All fun e=>e.plain=true→jr e∨mB e:=by
 unfold ow
 split
 ·split
  ·refine aU trivial ?_
   exact pm fun xs rs=>du fun ys qs ts=>aU (fun v=>Cj fun av=>fun h=>by simp [Eff.plain] at h) trivial
  ·exact trivial
 ·exact trivial
theorem AY {f:FuncId} {c:Nat × Nat} {vs:List AV}:(nN look f c vs).All fun e=>e.plain=true→jr e∨mB e:=by
 unfold nN
 split
 ·split
  ·split
   ·exact aU (pn fun xs=>fun v=>fun _=>.inl ⟨_,rfl⟩) trivial
   ·exact trivial
  ·exact trivial
 ·exact trivial
theorem cls_B {op:Op} (h:aq op=.B) (vs:List AV):(opL E id look op vs).All fun e=>e.plain=true→jr e∨mB e:=by
 cases op with
 | buildSlice t len parts =>
  simp only [opL]
  split
  ·refine tG (fun cs=>?_) _ _ _
   refine du fun ys qs ts=>?_
   exact aU jm trivial
  ·exact trivial
 | call c =>
  obtain ⟨callee,args,tys⟩:=c
  cases callee with
  | builtin b=>cases b <;> simp [aq] at h
  | value f =>
   cases f with
   | func f =>
    rcases vs with _ | ⟨v,r⟩
    ·exact trivial
    ·simp only [opL,mI]
     split
     ·exact AY
     split
     ·exact AK
     ·split
      ·refine aU ?_ ?_
       ·exact pn fun xs=>fun v=>xG
       ·exact pm fun xs rs=>aU (fun v=>xG) trivial
      ·exact trivial
   | tmp t =>
    rcases vs with _ | ⟨v,r⟩
    ·exact trivial
    ·exact trivial
   | _=>simp [aq] at h
  | invoke r m=>simp [aq] at h
 | _=>simp [aq] at h
abbrev isUpd (look:Look) (e:Eff):Prop:=∃ i b v,e=.upd i b v∧(look i).isSome=true
theorem CT {op : Op} (h : aq op = .W) (vs : List AV) : (opL E id look op vs).All fun e => e.plain = true → isUpd look e := by
 cases op with
 | store t x y =>
  rcases vs with _ | ⟨v,_ | ⟨v',_ | ⟨v'',r⟩⟩⟩ <;> first | exact trivial | skip
  simp only [opL]
  split
  ·unfold vy
   split
   ·refine aU trivial ?_
    split
    ·rename_i cs xs hrow
     refine dZ (fun ps=>?_)
     split
     ·exact fun _=>⟨_,_,_,rfl,by simp [(lm hrow).1]⟩
     ·exact trivial
    ·exact trivial
   ·refine dZ (fun ps=>?_)
    split
    ·rename_i cs hl
     exact aU (fun _=>⟨_,_,_,rfl,by simp [hl]⟩) trivial
    ·exact trivial
   ·refine dZ (fun ps=>?_)
    split
    ·refine aU trivial (aU ?_ ?_)
     ·refine du fun ys qs ts=>aU ?_ trivial
      exact lz fun s e=>fun x' hp=>by cases hp
     ·refine du fun ys qs ts=>?_
      split
      ·refine aU ?_ trivial
       refine lz fun s e=>?_
       simp only [Prg.All]
       intro x'
       split
       ·rename_i b hb
        refine fun _=>⟨_,_,_,rfl,?_⟩
        unfold ct at hb
        split at hb
        ·rename_i hl; simp [hl]
        ·cases hb
       ·exact trivial
      ·exact trivial
    ·exact trivial
   ·exact trivial
  ·exact trivial
 | call c =>
  obtain ⟨callee,args,tys⟩:=c
  cases callee with
  | builtin b=>cases b <;> simp [aq] at h
  | value f=>cases f <;> simp [aq] at h
  | invoke r m=>simp [aq] at h
 | _=>simp [aq] at h
theorem wv {d:TyD} {s:AV} {news:List (List TV)} {ps:List Prim}:(nD id look d s news ps).All fun e=>e.plain=true→jr e∨mB e:=by
 unfold nD
 split
 ·exact aU (fun y=>jm) trivial
 ·split
  ·split
   ·split
    ·exact fun y h=>by cases h
    ·exact fun z y x' h=>by cases h
   ·exact trivial
  ·split
   ·split
    ·exact fun z y h=>by cases h
    ·exact fun z0 z y x' h=>by cases h
   ·exact trivial
  ·exact trivial
theorem Ci {d:TyD} {dest:Option Nat} {x:AV} {k:List (List TV)→List Prim→Out} (h:∀ xs ps,(k xs ps).All p):(xi look d dest x k).All p:=by
 unfold xi
 split
 ·exact fun xs=>h _ _
 ·split
  ·refine aU ?_ ?_
   ·split
    ·split
     ·split
      ·exact aU trivial (fun xs=>h _ _)
      ·exact fun y=>fun xs=>h _ _
     ·exact trivial
    ·split
     ·split
      ·exact aU trivial (fun y xs=>h _ _)
      ·exact fun z y=>fun xs=>h _ _
     ·exact trivial
    ·exact trivial
   ·exact gM (fun s xs=>h _ _)
  ·exact trivial
theorem cls_P {op:Op} (h:aq op=.P) (vs:List AV):(opL E id look op vs).All fun e=>e.plain=true→jr e∨mB e:=by
 cases op with
 | call c =>
  obtain ⟨callee,args,tys⟩:=c
  cases callee with
  | builtin b =>
   cases b <;> simp [aq] at h
   simp only [opL]
   unfold d8
   split <;> try (first | exact trivial | contradiction)
   split
   ·refine aU ?_ ?_
    ·unfold nB
     exact aU (Ci (fun xs ps=>wv)) trivial
    ·split
     ·exact trivial
     ·exact trivial
   ·exact trivial
  | value f=>cases f <;> simp [aq] at h
  | invoke r m=>simp [aq] at h
 | _=>simp [aq] at h
theorem uB {op:Op} (h:aq op=.N∨aq op=.A) (vs:List AV):opL E id look op vs=opL E id look' op vs:=by
 cases op <;> first
  | (rcases vs with _ | ⟨a,_ | ⟨b,_ | ⟨c,_ | ⟨d,r⟩⟩⟩⟩ <;> rfl)
  | (simp [aq] at h; done)
  | (rename_i fn _ _; cases fn <;> rfl)
  | skip
 all_goals
  rename_i c
  obtain ⟨callee,args,tys⟩:=c
  cases callee with
  | builtin b=>cases b <;> simp [aq] at h
  | value f=>cases f <;> simp [aq] at h
  | invoke r m=>simp [aq] at h
end
end Go.Ab
end

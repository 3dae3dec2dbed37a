import Derived.Test.YthfcodidfelpoaaGD13F205
set_option linter.all false
section
set_option maxRecDepth 10000
namespace Go.Ab
def nmd (fs:List DFunc) (i:Nat):List Int:=match fs[i]? with | some u=>dY u.blocks | none=>[]
theorem BP {fs:List DFunc} {i:Nat} {u:DFunc} (h:fs[i]? = some u):nmd fs i=dY u.blocks:=by unfold nmd; rw [h]
theorem wP {bs:List DBlock} {g:Int} (h:g ∈ dY bs):∃ b ∈ bs,(∃ x ∈ b.ins,x.op=11/\x.f=g)\/b.fin.kind=4/\b.fin.f=g:=by
 unfold dY at h
 obtain ⟨l,hl,hg⟩:=List.mem_flatten.1 h
 obtain ⟨b,hb,rfl⟩:=List.mem_map.1 hl
 refine ⟨b,hb,?_⟩
 rcases List.mem_append.1 hg with hg | hg
 ·unfold sM at hg
  obtain ⟨x,hx,rfl⟩:=List.mem_map.1 hg
  obtain ⟨h1,h2⟩:=List.mem_filter.1 hx
  exact .inl ⟨x,h1,of_decide_eq_true h2,rfl⟩
 ·split at hg
  ·rename_i h4
   exact .inr ⟨h4,(List.mem_singleton.1 hg).symm⟩
  ·cases hg
structure UI (fs:List DFunc) (R:Nat->Prop) (M:List Bool) (st:List (Nat × List Int)) (o:List Int):Prop where
 len:M.length=fs.length
 at_:∀ p ∈ st,p.1 < fs.length/\R p.1/\∀ g ∈ p.2,g ∈ nmd fs p.1
 sound:∀ i,M[i]? = some true->R i
 zero:M[0]? = some true
 lft:∀ i:Nat,(i:Int) ∈ o\/(∃ p ∈ st,p.1=i) ↔ M[i]? = some true
 ints:∀ a ∈ o,∃ i:Nat,a=(i:Int)
 clo:∀ i:Nat,M[i]? = some true->∀ g ∈ nmd fs i,M[g.toNat]? = some true\/∃ p ∈ st,p.1=i/\g ∈ p.2
 room:st.length + o.length<=M.count true
section
variable {fs:List DFunc} {R:Nat->Prop} {M:List Bool} {st:List (Nat × List Int)} {o:List Int} {n:Nat} {g:Int} {l:List Int}
theorem UI.leave (h:UI fs R M ((n,[]) :: st) o):UI fs R M st ((n:Int) :: o):=by
 refine ⟨h.len,fun p hp=>h.at_ p (EB _ hp),h.sound,h.zero,fun i=>?_,fun a ha=>?_,fun i hi g hg=>?_,by have:=h.room; simp at this ⊢; omega⟩
 ·rw [<- h.lft i]
  constructor
  ·rintro (hi | ⟨p,hp,e⟩)
   ·rcases List.mem_cons.1 hi with e | hi
    ·exact .inr ⟨(n,[]),EA,by omega⟩
    ·exact .inl hi
   ·exact .inr ⟨p,EB _ hp,e⟩
  ·rintro (hi | ⟨p,hp,e⟩)
   ·exact .inl (EB _ hi)
   ·rcases List.mem_cons.1 hp with rfl | hp
    ·exact .inl (by rw [<- e]; exact EA)
    ·exact .inr ⟨p,hp,e⟩
 ·rcases List.mem_cons.1 ha with e | ha
  ·exact ⟨n,e⟩
  ·exact h.ints a ha
 ·rcases h.clo i hi g hg with h1 | ⟨p,hp,e,hgp⟩
  ·exact .inl h1
  ·rcases List.mem_cons.1 hp with rfl | hp
   ·cases hgp
   ·exact .inr ⟨p,hp,e,hgp⟩
theorem UI.skip (h:UI fs R M ((n,g :: l) :: st) o) (hg:M[g.toNat]? = some true):UI fs R M ((n,l) :: st) o:=by
 refine ⟨h.len,fun p hp=>?_,h.sound,h.zero,fun i=>?_,h.ints,fun i hi g' hg'=>?_,by have:=h.room; simp at this ⊢; omega⟩
 ·rcases List.mem_cons.1 hp with rfl | hp
  ·obtain ⟨a,b,c⟩:=h.at_ _ EA
   exact ⟨a,b,fun g' hg'=>c g' (EB _ hg')⟩
  ·exact h.at_ p (EB _ hp)
 ·rw [<- h.lft i]
  simp only [List.mem_cons,exists_eq_or_imp]
 ·rcases h.clo i hi g' hg' with h1 | ⟨p,hp,e,hgp⟩
  ·exact .inl h1
  ·rcases List.mem_cons.1 hp with rfl | hp
   ·rcases List.mem_cons.1 hgp with rfl | hgp
    ·exact .inl hg
    ·exact .inr ⟨(n,l),EA,e,hgp⟩
   ·exact .inr ⟨p,EB _ hp,e,hgp⟩
theorem UI.enter (h:UI fs R M ((n,g :: l) :: st) o) (hgM:M[g.toNat]? = some false) (hR:∀ i,R i->∀ g ∈ nmd fs i,R g.toNat):UI fs R (M.set g.toNat true) ((g.toNat,nmd fs g.toNat) :: (n,l) :: st) o:=by
 have hlt:=(Et.1 hgM).1
 have hRg:R g.toNat:=by
  obtain ⟨a,b,c⟩:=h.at_ _ EA
  exact hR n b g (c g EA)
 have hset:∀ i,(M.set g.toNat true)[i]? = some true ↔ M[i]? = some true\/i=g.toNat:=fun i=>by
  by_cases e:i=g.toNat
  ·subst e; rw [List.getElem?_set_self hlt]; simp
  ·rw [List.getElem?_set_ne (Ne.symm e)]; simp [e]
 refine ⟨by rw [List.length_set]; exact h.len,fun p hp=>?_,fun i hi=>?_,(hset 0).2 (.inl h.zero),fun i=>?_,h.ints,fun i hi g' hg'=>?_,?_⟩
 ·rcases List.mem_cons.1 hp with rfl | hp
  ·exact ⟨by have:=h.len; show g.toNat < _; omega,hRg,fun g' hg'=>hg'⟩
  ·rcases List.mem_cons.1 hp with rfl | hp
   ·obtain ⟨a,b,c⟩:=h.at_ _ EA
    exact ⟨a,b,fun g' hg'=>c g' (EB _ hg')⟩
   ·exact h.at_ p (EB _ hp)
 ·rcases (hset i).1 hi with hi | rfl
  ·exact h.sound i hi
  ·exact hRg
 ·rw [hset i,<- h.lft i]
  simp only [List.mem_cons,exists_eq_or_imp]
  constructor
  ·rintro (h1 | h1 | h1 | h1)
   ·exact .inl (.inl h1)
   ·exact .inr h1.symm
   ·exact .inl (.inr (.inl h1))
   ·exact .inl (.inr (.inr h1))
  ·rintro ((h1 | h1 | h1) | h1)
   ·exact .inl h1
   ·exact .inr (.inr (.inl h1))
   ·exact .inr (.inr (.inr h1))
   ·exact .inr (.inl h1.symm)
 ·by_cases e:i=g.toNat
  ·subst e
   exact .inr ⟨_,EA,rfl,hg'⟩
  ·have hi:=((hset i).1 hi).resolve_right e
   rcases h.clo i hi g' hg' with h1 | ⟨p,hp,e2,hgp⟩
   ·exact .inl ((hset _).2 (.inl h1))
   ·rcases List.mem_cons.1 hp with rfl | hp
    ·rcases List.mem_cons.1 hgp with rfl | hgp
     ·exact .inl ((hset _).2 (.inr rfl))
     ·exact .inr ⟨(n,l),EB _ EA,e2,hgp⟩
    ·exact .inr ⟨p,EB _ (EB _ hp),e2,hgp⟩
 ·have:=h.room
  rw [jA hgM]
  simp at this ⊢
  omega
theorem UI.done (h:UI fs R M [] o) (hR:∀ P:Nat->Prop,P 0->(∀ i,P i->∀ g ∈ nmd fs i,P g.toNat)->∀ i,R i->P i) (i:Nat):(i:Int) ∈ o ↔ R i:=by
 have e:=h.lft i
 constructor
 ·intro hi
  exact h.sound i (e.1 (.inl hi))
 ·intro hi
  have:=hR (fun i=>M[i]? = some true) h.zero (fun i hi g hg=>by
   rcases h.clo i hi g hg with h1 | ⟨p,hp,_⟩
   ·exact h1
   ·cases hp) i hi
  rcases e.2 this with h1 | ⟨p,hp,_⟩
  ·exact h1
  ·cases hp
end
def vZ (K:Nat) (M:List Bool) (st:List (Nat × List Int)):Nat:=M.count false * K + (st.map fun p=>p.2.length + 1).sum
end Go.Ab
namespace Go.Ab.D13
open Go Go.Ab Go.Proofs
theorem zI {q:Option Bool} {i:TV} {l:List DIns} (hi:RL q 7 (RIns q) i l) {d0 d1 d2 d3 d4 d6 d7 d8 d9 d10 d11 d12 d13 x1 x2 y5 y6 y7:TV} {Z:TV->Prop} {pre:List Int} (hpl:pre.length<=100000) (hll:l.length<=100)
  (hk:∀ w,RInts (some true) w (pre ++ sM l)->∃ y,aa prog 42 (f42_3 [d0,d1,d2,d3,d4,i,d6,d7,d8,d9,d10,d11,d12,d13] x1 x2 y5 y6 y7 w) y/\Z y) :
  ∀ (d j:Nat) (w:TV),j + d=l.length->RInts (some true) w (pre ++ sM (l.take j))->∃ y,aa prog 42 (f42_2 [d0,d1,d2,d3,d4,i,d6,d7,d8,d9,d10,d11,d12,d13] x1 x2 (I l.length) (I j) y5 y6 y7 w) y/\Z y:=by
 intro d
 induction d with
 | zero =>
  intro j w hj hw
  have hj:j=l.length:=by omega
  subst hj
  rw [List.take_length] at hw
  obtain ⟨y,hy,hz⟩:=hk w hw
  refine ⟨y,?_,hz⟩
  unfold f42_2
  exact aa.tv rfl (aa.ite ap nofun fun _=>f42_3_J hy)
 | succ d ih =>
  intro j w hj hw
  have hjl:j < l.length:=by omega
  obtain ⟨x,hx⟩:∃ x,l[j]? = some x:=⟨_,Eu hjl⟩
  obtain ⟨e,he,hR⟩:=hi.idx (k:=.i64) hx
  obtain ⟨g,rfl,hg,ho⟩:=hR
  have hil:=rb (l.take j)
  rw [List.length_take] at hil
  by_cases h11:x.op=11
  ·obtain ⟨w',hw',hr⟩:=hw.app (e:=[I x.f]) (a:=x.f) ⟨rfl,ho.2.2.2.2.2⟩ (by rw [List.length_append]; omega)
   obtain ⟨y,hy,hz⟩:=ih (j + 1) w' (by omega) (by rw [ub hx,if_pos h11,<- List.append_assoc]; exact hr)
   refine ⟨y,?_,hz⟩
   unfold f42_2
   refine aa.tv rfl (aa.ite (aq hjl) (fun _=>aa.chk rfl (aa.tvs he (aa.chk rfl (aa.tv rfl ?_)))) nofun)
   refine aa.ite (v:=true) (by simp [asBool,h11]) (fun _=>?_) nofun
   exact aa.chk rfl (aa.tvs he (aa.chk rfl (aa.rws rfl (aa.tv hw' (aa.tv (inc hjl (by omega)) (f42_2_J hy))))))
  ·obtain ⟨y,hy,hz⟩:=ih (j + 1) w (by omega) (by rw [ub hx,if_neg h11,List.append_nil]; exact hw)
   refine ⟨y,?_,hz⟩
   unfold f42_2
   refine aa.tv rfl (aa.ite (aq hjl) (fun _=>aa.chk rfl (aa.tvs he (aa.chk rfl (aa.tv rfl ?_)))) nofun)
   refine aa.ite (v:=false) (by simp [asBool,h11]) nofun fun _=>?_
   exact aa.tv (inc hjl (by omega)) (f42_2_J hy)
section
variable {q:Option Bool} {b:TV} {bs:List DBlock} (hb:RL q 14 (RBlock q) b bs) (hs:bs.length<=100/\∀ b ∈ bs,b.ins.length<=100) {p r:TV}
include hb hs
theorem zJ:∀ (d j:Nat) (w:TV),j + d=bs.length->RInts (some true) w (dY (bs.take j))->∃ y,aa prog 42 (f42_1 (I bs.length) (I j) p r b w) y/\RInts (some true) y (dY bs):=by
 intro d
 induction d with
 | zero =>
  intro j w hj hw
  have hj:j=bs.length:=by omega
  subst hj
  rw [List.take_length] at hw
  refine ⟨w,?_,hw⟩
  unfold f42_1
  exact aa.tv rfl (aa.ite ap nofun fun _=>aa.chk (hw.own fun _ _ h=>h.own) aa.ret)
 | succ d ih =>
  intro j w hj hw
  have hjl:j < bs.length:=by omega
  obtain ⟨x,hx⟩:∃ x,bs[j]? = some x:=⟨_,Eu hjl⟩
  have hxm:x ∈ bs:=EC hx
  obtain ⟨e,he,hR⟩:=hb.idx (k:=.i64) hx
  obtain ⟨c,i,g,rfl,hc,hd,hi,hg,ho⟩:=hR
  have hnl:=mM (bs.take j) fun b hb=>hs.2 b (List.mem_of_mem_take hb)
  rw [List.length_take] at hnl
  have hil:=rb x.ins
  have hx100:=hs.2 x hxm
  have h1:=hs.1
  obtain ⟨y,hy,hz⟩:=zI hi (pre:=dY (bs.take j)) (x1:=I bs.length) (x2:=I j) (y5:=p) (y6:=r) (y7:=b) (d0:=B x.landing) (d1:=I x.pad.dst) (d2:=c) (d3:=B x.pad.all) (d4:=B x.pad.cleanup) (d6:=I x.fin.kind) (d7:=I x.fin.a) (d8:=I x.fin.dst) (d9:=I x.fin.f) (d10:=g) (d11:=I x.fin.to) (d12:=I x.fin.els) (d13:=I x.fin.pad) (Z:=fun y=>RInts (some true) y (dY bs)) (by omega) hx100 (fun w hw=>by
   by_cases h4:x.fin.kind=4
   ·obtain ⟨w',hw',hr⟩:=hw.app (e:=[I x.fin.f]) (a:=x.fin.f) ⟨rfl,ho.2.2.2.1⟩ (by rw [List.length_append]; omega)
    obtain ⟨y,hy,hz⟩:=ih (j + 1) w' (by omega) (by rw [pq hx,xI,if_pos h4,<- List.append_assoc]; exact hr)
    refine ⟨y,?_,hz⟩
    unfold f42_3
    exact aa.chk rfl (aa.tv rfl (aa.ite (v:=true) (by simp [asBool,h4]) (fun _=>aa.chk rfl (aa.rws rfl (aa.tv hw' (aa.tv (inc hjl (by omega)) (f42_1_J hy))))) nofun))
   ·obtain ⟨y,hy,hz⟩:=ih (j + 1) w (by omega) (by rw [pq hx,xI,if_neg h4,List.append_nil]; exact hw)
    refine ⟨y,?_,hz⟩
    unfold f42_3
    exact aa.chk rfl (aa.tv rfl (aa.ite (v:=false) (by simp [asBool,h4]) nofun fun _=>aa.tv (inc hjl (by omega)) (f42_1_J hy)))) x.ins.length 0 w (by omega) (by simpa [sM] using hw)
  refine ⟨y,?_,hz⟩
  unfold f42_1
  exact aa.tv rfl (aa.ite (aq hjl) (fun _=>aa.tvs he (aa.chk rfl (aa.tv hi.len (f42_2_J hy)))) nofun)
end
theorem AL {q:Option Bool} {e:List TV} {u:DFunc} (he:RFunc q e u) (hs:uZ u):∃ y,aj prog 42 [.agg e] y/\RInts (some true) y (dY u.blocks):=by
 obtain ⟨b,rfl,hb,_⟩:=he
 obtain ⟨y,hy,hr⟩:=zJ hb hs (p:=I u.params) (r:=I u.regs) u.blocks.length 0 (.lit aB) (by omega) (by simpa [dY] using RL.nil)
 refine ⟨y,?_,hr⟩
 refine aj.of (f42_MR _) ?_
 unfold f42_M
 refine aa.chk rfl (aa.chk rfl (f42_0_J ?_))
 unfold f42_0
 exact aa.tv hb.len (f42_1_J hy)
section
variable {q:Option Bool} {b:TV} {fs:List DFunc} (hb:RL q 3 (RFunc q) b fs) (hs:∀ u ∈ fs,uZ u) (hN:fs.length<=100)
include hb hs
theorem wG {n:Nat} (hn:n < fs.length):∃ v,aj prog 41 [I (n:Int),.agg [b]] v/\RInts (some true) v (nmd fs n):=by
 obtain ⟨u,hu⟩:∃ u,fs[n]? = some u:=⟨_,Eu hn⟩
 obtain ⟨e,he,hR⟩:=hb.idx (k:=.i64) hu
 obtain ⟨y,hy,hr⟩:=AL hR (hs u (EC hu))
 rw [<- BP hu] at hr
 obtain ⟨c,rfl,_⟩:=hR
 refine ⟨y,?_,hr⟩
 refine aj.of (f41_MR _ _) ?_
 unfold f41_M
 exact aa.chk rfl (aa.tvs he (aa.chk rfl (aa.call hy (aa.chk (bp hr.isSl) (aa.chk (hr.own fun _ _ h=>h.own) aa.ret)))))
omit hb in
theorem Dr (n:Nat):(nmd fs n).length<=10100:=by
 unfold nmd
 cases h:fs[n]? with
 | none=>simp
 | some u =>
  obtain ⟨h1,h2⟩:=hs u (EC h)
  have:=mM u.blocks h2
  show (dY u.blocks).length<=_
  omega
include hN
variable {R:Nat->Prop} (hcall:∀ i,∀ g ∈ nmd fs i,0<=g/\g.toNat < fs.length) (hR:∀ i,R i->∀ g ∈ nmd fs i,R g.toNat) (hind:∀ P:Nat->Prop,P 0->(∀ i,P i->∀ g ∈ nmd fs i,P g.toNat)->∀ i,R i->P i)
include hcall hR hind
omit hb hs in
theorem BA {w3:TV} {o:List Int} (h3:RInts (some true) w3 o) (ho:∀ a ∈ o,∃ i:Nat,a=(i:Int)/\i < fs.length) (hend:∀ i:Nat,(i:Int) ∈ o ↔ R i):∀ (d k:Nat) (w2:TV),k + d=o.length->RBools (some true) w2 (dc fs.length fun i=>dP ((i:Int) ∈ o.take k)) ->
  ∃ y,aa prog 19 (f19_3 (I o.length) (I k) w2 w3) y/\RBools (some true) y (dc fs.length fun i=>dP (R i)):=by
 have h3b:=h3.bnd
 intro d
 induction d with
 | zero =>
  intro k w2 hk h2
  have hk:k=o.length:=by omega
  subst hk
  rw [List.take_length,bU (h:=fun i=>dP (R i)) fun i _=>lB (hend i)] at h2
  refine ⟨w2,?_,h2⟩
  unfold f19_3
  exact aa.tv rfl (aa.ite ap nofun fun _=>aa.chk (h2.own fun _ _ h=>by cases h; rfl) aa.ret)
 | succ d ih =>
  intro k w2 hk h2
  have hkl:k < o.length:=by omega
  obtain ⟨a,ha⟩:∃ a,o[k]? = some a:=⟨_,Eu hkl⟩
  obtain ⟨n,rfl,hn⟩:=ho a (EC ha)
  obtain ⟨e,he,rfl,_⟩:=h3.pel ha
  have hp2:=RBArr.get h2 hn
  obtain ⟨w2',b1,b2⟩:=RBArr.set h2 hn true
  obtain ⟨y,hy,hr⟩:=ih (k + 1) w2' (by omega) (by
   rw [bU (h := wZ (fun i => dP ((i : Int) ∈ o.take k)) n true) fun i hi => by
    rw [List.take_add_one,ha]
    by_cases e:i=n
    ·subst e
     rw [nS]
     exact dF (List.mem_append.2 (.inr (by simp)))
    ·rw [nJ e]
     refine lB ⟨fun h=>?_,fun h=>List.mem_append.2 (.inl h)⟩
     rcases List.mem_append.1 h with h | h
     ·exact h
     ·have:(i:Int)=(n:Int):=by simpa using h
      omega]
   exact b2)
  refine ⟨y,?_,hr⟩
  have l2:=h2.slLen
  rw [ck] at l2
  have ank:af (I (k:Int))=some k:=am (by omega)
  have ann:af (I (n:Int))=some n:=am (by omega)
  unfold f19_3
  refine aa.tv rfl (aa.ite (aq hkl) (fun _=>?_) nofun)
  exact aa.nat h3.slLen (aa.nat ank (aa.chk (by rw [h3.slSize]; simpa using hkl) (aa.tvs he (aa.chk rfl (aa.nat l2 (aa.nat ann (aa.chk (by rw [h2.slSize]; simpa using hn) (aa.tvs hp2 (aa.chk rfl (aa.tv b1 (aa.tv (inc hkl h3b) (f19_3_J hy))))))))))))
theorem yf {K:Nat} (hK:∀ n,(nmd fs n).length + 2<=K) {w2 w3:TV} (h2:RInts (some true) w2 [0]) (h3:RBools (some true) w3 (dc fs.length fun _=>false)):∀ (d:Nat) (M:List Bool) (st:List (Nat × List Int)) (o:List Int) (w5 w6 w7:TV),vZ K M st < d->UI fs R M st o->RBools (some true) w5 M->RL (some true) 2 (RV (some false)) w6 st.reverse->RInts (some true) w7 o.reverse ->
  ∃ y,aa prog 19 (f19_2 (I ((1:Nat):Int)) (I ((0:Nat):Int)) w2 w3 b w5 w6 w7) y/\RBools (some true) y (dc fs.length fun i=>dP (R i)):=by
 intro d
 induction d with
 | zero=>intro M st o w5 w6 w7 hd; omega
 | succ d ih =>
  intro M st o w5 w6 w7 hd hw h5 h6 h7
  have hcap:st.length + o.length<=fs.length:=by
   have:=hw.room
   have:=rt M
   rw [<- hw.len]
   omega
  match st,hd,hw,h6,hcap with
  | [], hd, hw, h6, hcap =>
   obtain ⟨y,hy,hr⟩:=BA hN hcall hR hind h7 (fun a ha=>by
    obtain ⟨i,rfl⟩:=hw.ints a (List.mem_reverse.1 ha)
    have:=(hw.lft i).1 (.inl (List.mem_reverse.1 ha))
    exact ⟨i,rfl,by rw [<- hw.len]; exact (Et.1 this).1⟩) (fun i=>by rw [List.mem_reverse]; exact hw.done hind i) o.reverse.length 0 w3 (by omega) (by
     rw [bU (h:=fun _=>false) fun i _=>fS (by simp)]
     exact h3)
   refine ⟨y,?_,hr⟩
   unfold f19_2
   refine aa.tv h6.len (aa.tv rfl (aa.ite (v:=false) (by simp [asBool]) nofun fun _=>aa.tv (inc (k:=0) (n:=1) (by omega) (by omega)) (f19_1_J ?_)))
   unfold f19_1
   exact aa.tv rfl (aa.ite ap nofun fun _=>aa.tv h7.len (f19_3_J hy))
  | (n, l) :: st', hd, hw, h6, hcap =>
   have hol:st'.length + o.length < 100:=by simp at hcap; omega
   have hlen:((n,l) :: st').reverse.length=st'.length + 1:=by simp
   have hlast:((n,l) :: st').reverse[st'.length]? = some (n,l):=by rw [List.reverse_cons]; exact vN
   have h6b:=h6.bnd
   obtain ⟨e,he,v,rfl,hv⟩:=h6.pel hlast
   have hgp:=h6.deep he (j:=1) (z:=v) rfl
   have hnat:af (I (st'.length:Nat))=some st'.length:=am (by omega)
   have hsub:pbin (.int .i64) .sub (I (((n,l) :: st').reverse.length:Nat)) (I 1)=some (I (st'.length:Nat)):=by
    have:=dec7 (n:=((n,l) :: st').reverse.length) (by omega) (by omega)
    rw [this,hlen]; rfl
   have hchk:(Bool.and (slSize w6 2) (Nat.blt st'.length ((n,l) :: st').reverse.length))=true:=by rw [h6.slSize,hlen]; simp
   have hfit1:ab zSl [I (n:Int),v] 1=true:=by
    show (v.isSl && true)=true
    rw [hv.isSl]; rfl
   have hfit2:bQ zSl [I (n:Int),v] 1=true:=by
    show ((v.isSl || v.yi) && true)=true
    rw [hv.isSl]; rfl
   have hgtr:asBool (.lit (.bool (decide (((((n,l) :: st').reverse.length:Nat):Int) > 0))))=some true:=by rw [hlen]; simp [asBool]
   match l,hd,hw,h6,hlast,hv,hsub,hchk,hlen,hgtr with
   | [], hd, hw, h6, hlast, hv, hsub, hchk, hlen, hgtr =>
    obtain ⟨w7',k1,k2⟩:=h7.app (e:=[I (n:Int)]) (a:=(n:Int)) ⟨rfl,by constructor <;> (have:=(hw.at_ _ EA).1; simp at this; omega)⟩ (by simp; omega)
    obtain ⟨w6',k3,k4⟩:=h6.win (k:=st'.length) (by omega)
    have e4:((n,([]:List Int)) :: st').reverse.take st'.length=st'.reverse:=by
     rw [List.reverse_cons,List.take_append_of_le_length (by simp),List.take_of_length_le (by simp)]
    rw [e4] at k4
    obtain ⟨y,hy,hr⟩:=ih M st' ((n:Int) :: o) w5 (bD w6') w7' (by simp [vZ] at hd ⊢; omega) hw.leave h5 k4.cooled (by rw [List.reverse_cons]; exact k2)
    refine ⟨y,?_,hr⟩
    unfold f19_2
    refine aa.tv h6.len (aa.tv rfl (aa.ite (v:=true) hgtr (fun _=>?_) nofun))
    refine aa.tv h6.len (aa.tv hsub (aa.nat h6.slLen (aa.nat hnat (aa.chk hchk (aa.tvs he (aa.chk hfit1 (aa.tv hgp (aa.tv hv.len (aa.tv rfl (aa.ite (v:=true) rfl (fun _=>?_) nofun)))))))))) 
    refine aa.tv h6.len (aa.tv hsub (aa.nat h6.slLen (aa.nat hnat (aa.chk hchk (aa.tvs he (aa.chk rfl (aa.rws rfl (aa.tv k1 (aa.nat h6.slLen (aa.nat hnat (aa.chk ?_ (aa.tv k3 (f19_2_J hy)))))))))))))
    rw [h6.slSize,hlen]; simp
   | g :: l, hd, hw, h6, hlast, hv, hsub, hchk, hlen, hgtr =>
    have hg:=hcall n g ((hw.at_ _ EA).2.2 g EA)
    obtain ⟨eg,heg,rfl,hgi⟩:=hv.pel (i:=0) (a:=g) rfl
    obtain ⟨v',c1,c2⟩:=hv.winD (k:=1) (by simp)
    have e1:(g :: l).drop 1=l:=rfl
    rw [e1] at c2
    obtain ⟨w6',k1,k2⟩:=h6.gT he (d:=1) (ys:=[v']) (a:=(n,l)) ⟨v',rfl,c2⟩
    have e4:((n,g :: l) :: st').reverse.set st'.length (n,l)=((n,l) :: st').reverse:=by
     rw [List.reverse_cons,List.reverse_cons,List.set_append_right _ _ (by simp)]
     simp
    rw [e4] at k2
    have hMl:g.toNat < M.length:=by rw [hw.len]; exact hg.2
    have hMg:M[g.toNat]? = some M[g.toNat]:=Eu hMl
    obtain ⟨em,hem,hRm⟩:=h5.pel hMg
    cases hRm
    have hgn:af (I g)=some g.toNat:=ix hg.1 hgi
    have h5b:=h5.bnd
    have hvl:(g :: l).length=l.length + 1:=rfl
    have hgg:((g.toNat:Nat):Int)=g:=by omega
    have front:∀ {r:TV},(M[g.toNat]=false->∃ w5' vn w6'',df [] w5 g.toNat 0 [B true]=some w5'/\aj prog 41 [I g,.agg [b]] vn/\vn.isSl=true/\papp 2 w6' [[I g,vn]]=some w6''/\aa prog 19 (f19_2 (I ((1:Nat):Int)) (I ((0:Nat):Int)) w2 w3 b w5' (bD w6'') w7) r) ->
      (M[g.toNat]=true->aa prog 19 (f19_2 (I ((1:Nat):Int)) (I ((0:Nat):Int)) w2 w3 b w5 (bD w6') w7) r)->aa prog 19 (f19_2 (I ((1:Nat):Int)) (I ((0:Nat):Int)) w2 w3 b w5 w6 w7) r:=fun {r} k0 k9=>by
     unfold f19_2
     refine aa.tv h6.len (aa.tv rfl (aa.ite (v:=true) hgtr (fun _=>?_) nofun))
     refine aa.tv h6.len (aa.tv hsub (aa.nat h6.slLen (aa.nat hnat (aa.chk hchk (aa.tvs he (aa.chk hfit1 (aa.tv hgp (aa.tv hv.len (aa.tv rfl (aa.ite (v:=false) (by simp [asBool]; omega) nofun fun _=>?_))))))))))
     refine aa.tvs he (aa.chk hfit1 (aa.tv hgp (aa.nat hv.slLen (aa.nat (v:=0) rfl (aa.chk ?_ (aa.tv hgp (aa.tvs heg (aa.chk rfl ?_))))))))
     ·rw [hv.slSize]; simp
     refine aa.tvs he (aa.chk hfit1 (aa.tv hgp (aa.nat hv.slLen (aa.nat (v:=1) rfl (aa.chk ?_ (aa.tv hgp (aa.tv c1 (aa.chk c2.gS ?_))))))))
     ·rw [hv.slSize]; simp
     refine aa.tvs he (aa.chk ?_ (aa.tv k1 (aa.nat h5.slLen (aa.nat hgn (aa.chk ?_ (aa.tvs hem (aa.chk rfl (aa.tv rfl (aa.ite rfl (fun h=>?_) fun h=>f19_2_J (k9 ?_))))))))))
     ·rw [hfit2,bp c2.isSl]; rfl
     ·rw [h5.slSize]; simpa using hMl
     ·obtain ⟨w5',vn,w6'',a1,a2,a3,a4,a5⟩:=k0 (by simpa using h)
      refine aa.nat h5.slLen (aa.nat hgn (aa.chk ?_ (aa.tvs hem (aa.chk rfl (aa.tv a1 (aa.call a2 (aa.chk (bp a3) (aa.rws rfl (aa.tv a4 (f19_2_J a5))))))))))
      rw [h5.slSize]; simpa using hMl
     ·simpa using h
    cases hm:M[g.toNat] with
    | true =>
     obtain ⟨y,hy,hr⟩:=ih M ((n,l) :: st') o w5 (bD w6') w7 (by simp [vZ] at hd ⊢; omega) (hw.skip (by rw [hMg,hm])) h5 k2.cooled h7
     exact ⟨y,front (fun h=>by rw [hm] at h; cases h) (fun _=>hy),hr⟩
    | false =>
     rw [hm] at hMg
     obtain ⟨w5',c3,c4⟩:=h5.gT hem (d:=0) (ys:=[B true]) (a:=true) rfl
     obtain ⟨vn,c5,c6⟩:=wG hb hs hg.2
     rw [hgg] at c5
     obtain ⟨w6'',c7,c8⟩:=(RL.app (R:=RV none) (k2.toN) (e:=[I g,vn]) (a:=(g.toNat,nmd fs g.toNat)) ⟨vn,by rw [hgg],c6.weak fun _ _ h=>h⟩ (by simp; omega))
     obtain ⟨y,hy,hr⟩:=ih (M.set g.toNat true) ((g.toNat,nmd fs g.toNat) :: (n,l) :: st') o w5' (bD w6'') w7 (by
      have h1:=count_set hMg
      have h2:=hK g.toNat
      have hmul:M.count false * K=(M.set g.toNat true).count false * K + K:=by rw [<- h1,Nat.add_mul,Nat.one_mul]
      simp only [vZ,List.map_cons,List.sum_cons,List.length_cons] at hd ⊢
      omega) (hw.enter hMg hR) c4 (by rw [List.reverse_cons]; exact c8.cooled) h7
     exact ⟨y,front (fun _=>⟨w5',vn,w6'',c3,c5,c6.isSl,c7,hy⟩) (fun h=>by rw [hm] at h; cases h),hr⟩
theorem Dq (h0:0 < fs.length) (hR0:R 0):∃ y,aj prog 19 [b] y/\RBools (some true) y (dc fs.length fun i=>dP (R i)):=by
 have hfalse:RB1 [B false] false:=rfl
 have hr:=RL.rep (s:=1) hfalse (n:=fs.length) (by omega)
 have hrM:RBools (some true) (.sl true 1 (List.replicate fs.length [B false])) (List.replicate fs.length false):=by
  have:=hr
  rwa [<- wy] at this
 have hroot:RInts (some true) (.sl true 1 (chunks 1 1 [I 0])) [0]:=.sl (by simp) (.cons ⟨rfl,by unfold inI; omega⟩ .nil) (by simp [chunks])
 obtain ⟨v,c5,c6⟩:=wG hb hs h0
 have hz:(List.replicate fs.length false)[0]? = some false:=by rw [List.getElem?_replicate,if_pos h0]
 obtain ⟨em,hem,hRm⟩:=hrM.pel hz
 cases hRm
 obtain ⟨w5,c3,c4⟩:=hrM.gT hem (d:=0) (ys:=[B true]) (a:=true) rfl
 obtain ⟨w6,c7,c8⟩:=RL.app (R:=RV none) (s:=2) (y:=bD (.lit aB)) (l:=[]) RL.nil (e:=[I 0,v]) (a:=(0,nmd fs 0)) ⟨v,rfl,c6.weak fun _ _ h=>h⟩ (by simp)
 have hUI:UI fs R ((List.replicate fs.length false).set 0 true) [(0,nmd fs 0)] []:=by
  have hset:∀ i,((List.replicate fs.length false).set 0 true)[i]? = some true ↔ i=0:=fun i=>by
   by_cases e:i=0
   ·subst e; rw [List.getElem?_set_self (by simpa using h0)]; simp
   ·rw [List.getElem?_set_ne (Ne.symm e),List.getElem?_replicate]
    simp [e]
  refine ⟨by simp,fun p hp=>?_,fun i hi=>?_,(hset 0).2 rfl,fun i=>?_,fun a ha=>(by cases ha),fun i hi g hg=>?_,?_⟩
  ·rw [List.mem_singleton.1 hp]; exact ⟨h0,hR0,fun g hg=>hg⟩
  ·rw [(hset i).1 hi]; exact hR0
  ·rw [hset i]
   simp [eq_comm]
  ·have:=(hset i).1 hi
   subst this
   exact .inr ⟨_,List.mem_singleton.2 rfl,rfl,hg⟩
  ·rw [jA hz]
   simp
 obtain ⟨y,hy,hry⟩:=yf hb hs hN hcall hR hind (K:=10102) (fun n=>by have:=Dr hs n; omega) hroot hr (vZ 10102 ((List.replicate fs.length false).set 0 true) [(0,nmd fs 0)] + 1) _ [(0,nmd fs 0)] [] w5 (bD w6) (.lit aB) (by omega) hUI c4 (RL.cooled (q:=none) c8) RL.nil
 refine ⟨y,?_,hry⟩
 have lb:=hb.len (t:=27)
 have han:af (I (fs.length:Int))=some fs.length:=am (by omega)
 refine aj.of (f19_MR _) ?_
 unfold f19_M
 refine aa.chk hb.isOneD (aa.tv lb (aa.nat han (aa.nat han (aa.chk (by simp; omega) (aa.tv lb (aa.nat han (aa.nat han (aa.chk (by simp; omega) (aa.chk rfl (aa.chk rfl (f19_0_J ?_)))))))))))
 unfold f19_0
 refine aa.tv hroot.len (f19_1_J ?_)
 unfold f19_1
 have l5:=hrM.slLen
 rw [List.length_replicate] at l5
 obtain ⟨e0,he0,rfl,_⟩:=hroot.pel (i:=0) (a:=0) rfl
 refine aa.tv rfl (aa.ite (v:=true) rfl (fun _=>?_) nofun)
 refine aa.nat hroot.slLen (aa.nat (v:=0) rfl (aa.chk rfl (aa.tvs he0 (aa.chk rfl (aa.nat l5 (aa.nat (v:=0) rfl (aa.chk (by simp [slSize]; omega) (aa.tvs hem (aa.chk rfl (aa.tv rfl (aa.ite (v:=true) rfl (fun _=>?_) nofun)))))))))))
 exact aa.nat l5 (aa.nat (v:=0) rfl (aa.chk (by simp [slSize]; omega) (aa.tvs hem (aa.chk rfl (aa.tv c3 (aa.call c5 (aa.chk (bp c6.isSl) (aa.rws rfl (aa.tv c7 (f19_2_J hy))))))))))
end
end Go.Ab.D13
end
section
set_option maxRecDepth 10000
namespace Go.Ab
def bu {α:Type} (f:α->α) (l:List α) (i:Nat):List α:=(l.take i).map f ++ l.drop i
section
variable {α:Type} {f:α->α} {l:List α} {i:Nat} {a:α}
theorem iJ:bu f l 0=l:=by simp [bu]
theorem jr:bu f l l.length=l.map f:=by simp [bu]
theorem cX:(bu f l i).length=l.length:=by simp [bu]; omega
theorem iC (h:l[i]? = some a):(bu f l i)[i]? = some a:=by
 have hi:=(Et.1 h).1
 unfold bu
 rw [EE (by simp; omega)]
 simp
 rw [show i + (i - min i l.length)=i by omega]
 exact h
theorem iv (h:l[i]? = some a):(bu f l i).set i (f a)=bu f l (i + 1):=by
 have hi:=(Et.1 h).1
 unfold bu
 have hl:((l.take i).map f).length=i:=by simp; omega
 rw [List.set_append_right _ _ (by omega),hl,Nat.sub_self,List.drop_eq_getElem_cons hi,List.take_add_one,h]
 have:l[i]=a:=(Et.1 h).2
 simp
 try (rw [List.drop_eq_getElem_cons hi]; rfl)
theorem qG (h:l[i]? = some a) (e:f a=a):bu f l (i + 1)=bu f l i:=by
 rw [<- iv h,e]
 apply List.ext_getElem?
 intro j
 by_cases hj:j=i
 ·subst hj
  rw [List.getElem?_set_self (by rw [cX]; exact (Et.1 h).1),iC h]
 ·rw [List.getElem?_set_ne (Ne.symm hj)]
end
theorem RBlock.fits {q:Option Bool} {e:List TV} {b:DBlock} (h:RBlock q e b):ab iP e 0=true:=by
 obtain ⟨c,i,g,rfl,hc,_,hi,hg,_⟩:=h
 simp [ab,iP,aE,TV.isSc,scV,hc.isSl,hi.isSl,hg.isSl]
theorem rU {u:DFunc} (h:ji u):ji (clF u):=by
 refine ⟨Nat.le_trans (C7 u) h.1,fun i hi b hb=>?_⟩
 obtain ⟨b0,hb0,ψ,e⟩:=vV (EC hb)
 obtain ⟨j,hj,rfl⟩:=List.mem_iff_getElem.1 hb0
 have:=h.2 j hj _ (Eu hj)
 rcases e with e | e
 ·subst e; exact this
 ·subst e; exact this
end Go.Ab
namespace Go.Ab.D13
open Go Go.Ab Go.Proofs
section
variable {u:DFunc} (hs:ji (clF u))
include hs
theorem yO {q:Option Bool} {w:TV} (hw:RL q 14 (RBlock (some false)) w (clF u).blocks) (hp:inI u.params) (hr:inI u.regs):∃ e',aa prog 11 (f11_1 (I u.params) (I u.regs) w) (.agg e')/\RFunc (some true) e' (clF u):=by
 obtain ⟨hp',hr'⟩:=BO u
 have hM:RMod (some false) [frz (.sl true 3 (chunks 3 1 [I u.params,I u.regs,w]))] ⟨[clF u]⟩:=by
  refine ⟨_,rfl,?_⟩
  show RL (some false) 3 (RFunc (some false)) (.sl false 3 [[I u.params,I u.regs,frz w]]) [clF u]
  refine .sl (by simp) (.cons ⟨frz w,by rw [hp',hr'],hw.frz fun _ _ h=>h.frz,by rw [hp']; exact hp,by rw [hr']; exact hr⟩ .nil) (by simp)
 obtain ⟨e,he,x,rfl,hx⟩:=r16 hM ⟨by simp,fun i hi f hf=>by
  have hi:i=0:=by simpa using hi
  subst hi
  have hf:clF u=f:=by simpa using hf
  subst hf
  exact hs⟩
 obtain ⟨e0,he0,hR⟩:=hx.pel (i:=0) (a:=clF u) rfl
 have hO:=hR.own
 have hR':=hR
 obtain ⟨y,rfl,hy,_⟩:=hR
 refine ⟨[I (clF u).params,I (clF u).regs,y],?_,hR'⟩
 have hgp:aR [(0,2)] x=some y:=hx.deep he0 (j:=2) (z:=y) rfl
 unfold f11_1
 refine aa.call he (aa.chk (by simp [TV.isAgg,ab,zSl,aE,TV.cellsL,hx.isSl]) (aa.nat hx.slLen (aa.nat (v:=0) rfl (aa.chk (by show (slSize x 3 && Nat.blt 0 1)=true; rw [hx.slSize]; rfl) (aa.tvs he0 (aa.chk (by simp [ab,ez,aE,TV.isSc,scV,hy.isSl]) (aa.tv hgp (aa.chk ?_ aa.ret))))))))
 have hO:bj (.agg [I (clF u).params,I (clF u).regs,y])=true:=hO
 exact hO
end
theorem uD {e:List TV} {u:DFunc} (he:RFunc (some false) e u) (hlen:u.blocks.length<=1000) (hs:ji (clF u)):∃ e',aj prog 11 [.agg e] (.agg e')/\RFunc (some true) e' (clF u):=by
 have hF:=he
 obtain ⟨b,rfl,hb,hp,hr⟩:=he
 obtain ⟨v0,M,c0,c1,c2⟩:=r85 hF (by omega)
 have hM:=wx c2
 subst hM
 have c1z:=c1.frz (S:=RB1) fun _ _ h=>h.frz
 have c3:=Dh hF c1z
 have start:∀ {y:TV},(fU u->∃ v3 v4,aj prog 28 [b,frz v0] v3/\v3.isSl=true/\aj prog 20 [frz (frz v0)] v4/\v4.isSl=true/\plen (.slice 46) v3=some (I (clF u).blocks.length)/\aa prog 11 (f11_0 (frz v4) (I (clF u).blocks.length) (I ((0:Nat):Int)) (I u.params) (I u.regs) v3) y) ->
   (¬ fU u->aa prog 11 (f11_1 (I u.params) (I u.regs) b) y)->aj prog 11 [.agg [I u.params,I u.regs,b]] y:=by
  intro y k1 k2
  refine aj.of (f11_MR _) ?_
  unfold f11_M
  refine aa.chk rfl (aa.call c0 (aa.chk (bp c1.isSl) (aa.call c3 (aa.chk rfl (aa.tv rfl (aa.ite rfl (fun h=>?_) fun h=>?_))))))
  ·have h:fU u:=Classical.byContradiction fun hn=>by rw [dF hn] at h; cases h
   obtain ⟨v3,v4,a1,a2,a3,a4,a5,a6⟩:=k1 h
   exact aa.call a1 (aa.chk (bp a2) (aa.call a3 (aa.chk (bp a4) (aa.tv a5 (f11_0_J a6)))))
  ·have h:¬ fU u:=fun hn=>by rw [fS (fun h=>h hn)] at h; cases h
   exact aa.chk hb.isSl (f11_1_J (k2 h))
 by_cases hg:fU u
 ·have eB:(clF u).blocks=(bA (Rc u.blocks (-1)) u.blocks id u.blocks.length).map (fV (aA (Rc u.blocks (-1)))):=by
   rw [jV hg,tT]
   rfl
  obtain ⟨v3,d0,d1⟩:=rStayB (P:=Rc u.blocks (-1)) c1z (by omega) hb rfl
  obtain ⟨v4,d2,d3⟩:=D7 (P:=Rc u.blocks (-1)) (c1z.frz (S:=RB1) fun _ _ h=>h.frz) (by omega)
  generalize hL:bA (Rc u.blocks (-1)) u.blocks id u.blocks.length=L at *
  have hLl:L.length<=u.blocks.length:=by rw [<- hL]; exact fo
  have hLm:∀ i a,L[i]? = some a->∃ j,Rc u.blocks (-1) j/\u.blocks[j]? = some a:=fun i a ha=>by
   rw [<- hL] at ha
   obtain ⟨j,a',_,hj,ha',rfl,_⟩:=ye (Nat.le_refl _) ha
   exact ⟨j,hj,ha'⟩
  have eLen:(clF u).blocks.length=L.length:=by rw [eB,List.length_map]
  have key:∀ (d i:Nat) (x w:TV),i + d=L.length->RInts (some false) x (dc u.blocks.length (mD (Rc u.blocks (-1))))->RL (some true) 14 (RBlock (some false)) w (bu (fV (aA (Rc u.blocks (-1)))) L i)->∃ e',aa prog 11 (f11_0 x (I L.length) (I i) (I u.params) (I u.regs) w) (.agg e')/\RFunc (some true) e' (clF u):=by
   intro d
   induction d with
   | zero =>
    intro i x w hi hx hw
    have hi:i=L.length:=by omega
    subst hi
    rw [jr,<- eB] at hw
    obtain ⟨e',g1,g2⟩:=yO hs hw hp hr
    refine ⟨e',?_,g2⟩
    unfold f11_0
    exact aa.tv rfl (aa.ite ap nofun fun _=>f11_1_J g1)
   | succ d ih =>
    intro i x w hi hx hw
    have hil:i < L.length:=by omega
    obtain ⟨a,ha⟩:∃ a,L[i]? = some a:=⟨_,Eu hil⟩
    obtain ⟨j,hj,haj⟩:=hLm i a ha
    have hgl:=hg.goal hj haj
    have num:∀ g,g ∈ nx a->0<=g/\g.toNat < u.blocks.length/\mD (Rc u.blocks (-1)) g.toNat=(aA (Rc u.blocks (-1)) g.toNat:Int):=fun g hg2=>by
     obtain ⟨h1,h2,h3⟩:=hgl g hg2
     exact ⟨h1,h2,kP h3⟩
    obtain ⟨e,he,hR⟩:=hw.pel (iC ha)
    have hfit:=hR.fits
    obtain ⟨c,t,g,rfl,hc,hd,hi',hgg,ho⟩:=hR
    have hE:REnd (some false) [I a.fin.kind,I a.fin.a,I a.fin.dst,I a.fin.f,g,I a.fin.to,I a.fin.els,I a.fin.pad] a.fin:=⟨g,rfl,hgg,ho⟩
    obtain ⟨e',n1,n2⟩:=Bk hE hx (ψ:=aA (Rc u.blocks (-1))) (fun h=>num _ (by unfold nx gl; simp [h])) (fun h=>num _ (by unfold nx gl; simp [h])) (fun h=>num _ (by unfold nx gl; simp [h]))
    obtain ⟨g',rfl,hg',ho'⟩:=n2
    have hset:=iv (f:=fV (aA (Rc u.blocks (-1)))) ha
    obtain ⟨w',b1,b2⟩:=hw.gT he (d:=6) (ys:=[I a.fin.kind,I a.fin.a,I a.fin.dst,I a.fin.f,g',I (eJ (aA (Rc u.blocks (-1))) a.fin).to,I (eJ (aA (Rc u.blocks (-1))) a.fin).els,I (eJ (aA (Rc u.blocks (-1))) a.fin).pad]) (a:=fV (aA (Rc u.blocks (-1))) a) ⟨c,t,g',rfl,hc,hd,hi',hg',ho'⟩
    rw [hset] at b2
    have hxz:=hx.frz (S:=RI1) fun _ _ h=>h.frz
    obtain ⟨e2,k1,k2⟩:=ih (i + 1) (frz x) w' (by omega) hxz b2
    refine ⟨e2,?_,k2⟩
    have l:=hw.slLen
    rw [cX] at l
    have ani:af (I (i:Int))=some i:=am (by omega)
    have hchk:(Bool.and (slSize w 14) (Nat.blt i L.length))=true:=by rw [hw.slSize]; simpa using hil
    unfold f11_0
    refine aa.tv rfl (aa.ite (aq hil) (fun _=>?_) nofun)
    refine aa.nat l (aa.nat ani (aa.chk hchk (aa.tvs he (aa.chk hfit (aa.tv (hw.deep he (j:=10) (z:=g) rfl) (aa.chk hgg.gS (aa.call n1 (aa.chk ?_ ?_))))))))
    ·show (true && ((I a.fin.kind).isSc && ((I a.fin.a).isSc && ((I a.fin.dst).isSc && ((I a.fin.f).isSc && (g'.isSl && _))))))=true
     rw [hg'.isSl]
     rfl
    refine aa.nat l (aa.nat ani (aa.chk hchk (aa.tvs he (aa.chk ?_ (aa.tv b1 (aa.tv (inc hil (by omega)) (aa.chk hx.isSl (f11_0_J k1))))))))
    have f1:ab Cl [B a.landing,I a.pad.dst,c,B a.pad.all,B a.pad.cleanup,t,I a.fin.kind,I a.fin.a,I a.fin.dst,I a.fin.f,g,I a.fin.to,I a.fin.els,I a.fin.pad] 6=true:=by
     simp [ab,Cl,aE,TV.isSc,scV,hgg.isSl]
    rw [l8 f1]
    show (true && ((I a.fin.kind).isSc && ((I a.fin.a).isSc && ((I a.fin.dst).isSc && ((I a.fin.f).isSc && (g'.isSl && _))))))=true
    rw [hg'.isSl]
    rfl
  obtain ⟨e',k1,k2⟩:=key L.length 0 (frz v4) v3 (by omega) (d3.frz fun _ _ h=>h.frz) (by rw [iJ]; exact d1)
  refine ⟨e',start (fun _=>⟨v3,v4,d0,d1.isSl,d2,d3.isSl,by rw [eLen]; exact d1.len,by rw [eLen]; exact k1⟩) (fun h=>absurd hg h),k2⟩
 ·have eB:(clF u).blocks=u.blocks:=by rw [so hg]
  obtain ⟨e',g1,g2⟩:=yO hs (q:=some false) (w:=b) (by rw [eB]; exact hb) hp hr
  exact ⟨e',start (fun h=>absurd h hg) (fun _=>g1),g2⟩
end Go.Ab.D13
end
section
set_option maxRecDepth 10000
namespace Go.Ab
def vk (fs:List DFunc) (k:Nat):DFunc:=(fs[k]?).getD ⟨0,0,[]⟩
theorem yR {fs:List DFunc} {k:Nat} {u:DFunc} (h:fs[k]? = some u):vk fs k=u:=by unfold vk; rw [h]; rfl
theorem CJ {fs:List DFunc} (f:DFunc->DFunc):dc fs.length (fun k=>f (vk fs k))=fs.map f:=by
 apply List.ext_getElem?
 intro i
 by_cases hi:i < fs.length
 ·rw [cp hi,Ez,Eu hi,yR (Eu hi)]
  rfl
 ·rw [EF (by rw [ck]; omega),EF (by simp; omega)]
theorem zb {m:DMod} {k:Nat} {v:DFunc} (h:(clC m).funcs[k]? = some v):∃ u,m.funcs[k]? = some u/\v=clF u:=by
 have h:(m.funcs.map clF)[k]? = some v:=h
 rw [Ez] at h
 cases hu:m.funcs[k]? with
 | none=>rw [hu] at h; cases h
 | some u=>rw [hu] at h; exact ⟨u,rfl,(Option.some.inj h).symm⟩
theorem nO (m:DMod):(clC m).funcs.length=m.funcs.length:=by simp [clC]
theorem lk {u:DFunc} (h:ji u):uZ u:=by
 refine ⟨by have:=h.1; omega,fun b hb=>?_⟩
 obtain ⟨i,hi,rfl⟩:=List.mem_iff_getElem.1 hb
 have:=(h.2 i hi _ (Eu hi)).1
 omega
structure W4 (w:TV) (fs:List DFunc) (i:Nat):Prop where
 ex:∃ xs:List (List TV),w=.sl true 3 xs/\xs.length=fs.length/\∀ j u,i<=j->fs[j]? = some u->∃ e,xs[j]? = some e/\RFunc (some true) e u
theorem W4.next {w:TV} {fs:List DFunc} {i:Nat} (h:W4 w fs i):W4 w fs (i + 1):=by
 obtain ⟨xs,e,hl,ha⟩:=h.ex
 exact ⟨xs,e,hl,fun j u hj hu=>ha j u (by omega) hu⟩
theorem W4.take {w:TV} {fs:List DFunc} {i:Nat} {u:DFunc} (h:W4 w fs i) (hu:fs[i]? = some u):∃ e b,Go.Ab.pel w i=some e/\e=[I u.params,I u.regs,b]/\RL (some true) 14 (RBlock (some true)) b u.blocks/\RFunc (some true) e u/\Go.Ab.slLen w=some fs.length/\Go.Ab.slSize w 3=true/\aR [(i,2)] w=some b/\∃ w',fD [(i,2)] w .hole=some w'/\W4 w' fs (i + 1):=by
 obtain ⟨xs,rfl,hl,ha⟩:=h.ex
 obtain ⟨e,he,hR⟩:=ha i u (Nat.le_refl _) hu
 have hR0:=hR
 obtain ⟨b,rfl,hb,_⟩:=hR
 refine ⟨_,b,he,rfl,hb,hR0,by simp [Go.Ab.slLen,hl],by simp [Go.Ab.slSize],by simp [aR,he],.sl true 3 (ar xs i (ar [I u.params,I u.regs,b] 2 .hole)),by simp [fD,he],_,rfl,by rw [fb]; exact hl,fun j v hj hv=>?_⟩
 obtain ⟨e,he2,hR⟩:=ha j v (by omega) hv
 refine ⟨e,?_,hR⟩
 rw [mT _ _ _ _ (Et.1 he).1,if_neg (by omega)]
 exact he2
end Go.Ab
namespace Go.Ab.D13
open Go Go.Ab Go.Proofs
theorem Dk {N:Nat} {P:Nat->Prop} {w10:TV} (hn:RInts (some true) w10 (dc N (mD P))) {X:List DFunc} {k:Nat} (hk:k < X.length) {p r:Int} {Y:List DBlock} {j:Nat} (hj:j < Y.length) {b:DBlock} (hc:∀ x ∈ b.ins,x.op=11->0<=x.f/\x.f.toNat < N/\P x.f.toNat) {x2 x3 y6 y7 x11 x12:TV} {Z:TV->Prop}
  (hz:∀ w,RMod (some true) [w] ⟨X.set k ⟨p,r,Y.set j { b with ins:=b.ins.map (fZ (aA P)) }⟩⟩->∃ y,aa prog 8 (f8_7 k j x2 x3 y6 y7 k w w10 x11 x12) y/\Z y) :
  ∀ (d t:Nat) (w:TV),t + d=b.ins.length->RMod (some true) [w] ⟨X.set k ⟨p,r,Y.set j { b with ins:=bu (fZ (aA P)) b.ins t }⟩⟩->∃ y,aa prog 8 (f8_6 k j x2 x3 (I b.ins.length) (I t) y6 y7 k w w10 x11 x12) y/\Z y:=by
 intro d
 induction d with
 | zero =>
  intro t w ht hw
  have ht:t=b.ins.length:=by omega
  subst ht
  rw [jr] at hw
  obtain ⟨y,g1,g2⟩:=hz w hw
  refine ⟨y,?_,g2⟩
  unfold f8_6
  exact aa.tv rfl (aa.ite ap nofun fun _=>f8_7_J g1)
 | succ d ih =>
  intro t w ht hw
  have htl:t < b.ins.length:=by omega
  obtain ⟨x,hx⟩:∃ x,b.ins[t]? = some x:=⟨_,Eu htl⟩
  have e1:(X.set k ⟨p,r,Y.set j { b with ins:=bu (fZ (aA P)) b.ins t }⟩)[k]? = some ⟨p,r,Y.set j { b with ins:=bu (fZ (aA P)) b.ins t }⟩:=List.getElem?_set_self hk
  have e2:(Y.set j { b with ins:=bu (fZ (aA P)) b.ins t })[j]? = some { b with ins:=bu (fZ (aA P)) b.ins t }:=List.getElem?_set_self hj
  obtain ⟨y,c,i,g,h1,h2,h3,h4,h5,h6,h7,h8,h9,hz1⟩:=open2 hw e1 e2
  have hz2:=Zip.step hz1 h4 h2 (j:=5) (z:=i) rfl (Q:=RL (some true) 7 (RIns (some true))) (fun is=>{ b with ins:=is }) (fun z' c' hq=>⟨c,z',g,rfl,h5,h6,hq,h8,h9⟩)
  obtain ⟨e,he,hR⟩:=h7.pel (iC hx)
  obtain ⟨ga,rfl,hga,ho⟩:=hR
  have li:=h7.slLen
  rw [show (bu (fZ (aA P)) b.ins t).length=b.ins.length from cX] at li
  have ant:af (I (t:Int))=some t:=am (by have:=h7.bnd; rw [show (bu (fZ (aA P)) b.ins t).length=b.ins.length from cX] at this; omega)
  have hbi:=h7.bnd
  rw [show (bu (fZ (aA P)) b.ins t).length=b.ins.length from cX] at hbi
  have hchk:(Bool.and (slSize i 7) (Nat.blt t b.ins.length))=true:=by rw [h7.slSize]; simpa using htl
  have hfi:ab zSl (mA { b with ins:=bu (fZ (aA P)) b.ins t } c i g) 5=true:=by simp [ab,zSl,aE,aB,h7.isSl]
  have gz1:=hz1.get
  have gz2:aR [(k,2),(j,5)] w=some i:=hz2.get
  have front:∀ {y':TV},(x.op=11->∃ w',df [(k,2),(j,5)] w t 5 [I (aA P x.f.toNat:Int)]=some w'/\aa prog 8 (f8_6 k j x2 x3 (I b.ins.length) (I (t + 1:Nat)) y6 y7 k w' w10 x11 x12) y')->(¬ x.op=11->aa prog 8 (f8_6 k j x2 x3 (I b.ins.length) (I (t + 1:Nat)) y6 y7 k w w10 x11 x12) y')->aa prog 8 (f8_6 k j x2 x3 (I b.ins.length) (I t) y6 y7 k w w10 x11 x12) y':=by
   intro y' k1 k2
   unfold f8_6
   refine aa.tv rfl (aa.ite (aq htl) (fun _=>?_) nofun)
   refine aa.tv gz1 (aa.tvs h2 (aa.chk hfi (aa.tv gz2 (aa.nat li (aa.nat ant (aa.chk hchk (aa.tv gz2 (aa.tvs he (aa.chk rfl (aa.tv rfl ?_))))))))))
   by_cases h11:x.op=11
   ·obtain ⟨w',a1,a2⟩:=k1 h11
    obtain ⟨c0,c1,c2⟩:=hc x (EC hx) h11
    have hnp:=(RArr.get hn c1).1
    rw [kP c2] at hnp
    have ln:=hn.slLen
    rw [ck] at ln
    refine aa.ite (v:=true) (by simp [asBool,h11]) (fun _=>?_) nofun
    refine aa.tv gz1 (aa.tvs h2 (aa.chk hfi (aa.tv gz2 (aa.nat li (aa.nat ant (aa.chk hchk (aa.tv gz2 (aa.tvs he (aa.chk rfl ?_)))))))))
    refine aa.nat ln (aa.nat (ix c0 ho.2.2.2.2.2) (aa.chk (by rw [hn.slSize]; simpa using c1) (aa.tvs hnp (aa.chk rfl ?_))))
    exact aa.tv gz2 (aa.tvs he (aa.chk rfl (aa.tv a1 (aa.tv (inc htl hbi) (f8_6_J a2)))))
   ·exact aa.ite (v:=false) (by simp [asBool,h11]) nofun fun _=>aa.tv (inc htl hbi) (f8_6_J (k2 h11))
  by_cases h11:x.op=11
  ·obtain ⟨c0,c1,c2⟩:=hc x (EC hx) h11
   have hin:=(RArr.get hn c1).2
   rw [kP c2] at hin
   obtain ⟨w',a1,a2⟩:=Zip.store hz2 h7 he (d:=5) (ys:=[I (aA P x.f.toNat:Int)]) (a:=fZ (aA P) x) (by
    have:fZ (aA P) x={ x with f:=(aA P x.f.toNat:Int) }:=if_pos h11
    rw [this]
    exact ⟨ga,rfl,hga,ho.1,ho.2.1,ho.2.2.1,ho.2.2.2.1,ho.2.2.2.2.1,hin⟩)
   simp only [List.set_set] at a2
   rw [iv hx] at a2
   obtain ⟨y',g1,g2⟩:=ih (t + 1) w' (by omega) a2
   exact ⟨y',front (fun _=>⟨w',a1,g1⟩) (fun h=>absurd h11 h),g2⟩
  ·have:fZ (aA P) x=x:=if_neg h11
   rw [<- qG hx this] at hw
   obtain ⟨y',g1,g2⟩:=ih (t + 1) w (by omega) hw
   exact ⟨y',front (fun h=>absurd h h11) (fun _=>g1),g2⟩
theorem DW {N:Nat} {P:Nat->Prop} {w10:TV} (hn:RInts (some true) w10 (dc N (mD P))) {X:List DFunc} {k:Nat} (hk:k < X.length) {p r:Int} {Y0:List DBlock} (hlen:Y0.length<=100) (hkl:k<=1000) (hc:∀ b ∈ Y0,(∀ x ∈ b.ins,x.op=11->0<=x.f/\x.f.toNat < N/\P x.f.toNat)/\(b.fin.kind=4->0<=b.fin.f/\b.fin.f.toNat < N/\P b.fin.f.toNat)) {y6 y7 x11:TV} {Z:TV->Prop}
  (hz:∀ w,RMod (some true) [w] ⟨X.set k ⟨p,r,Y0.map (fT (aA P))⟩⟩->∃ y,aa prog 8 (f8_3 x11 (I (k + 1:Nat)) w w10) y/\Z y) :
  ∀ (d j:Nat) (w:TV),j + d=Y0.length->RMod (some true) [w] ⟨X.set k ⟨p,r,bu (fT (aA P)) Y0 j⟩⟩->∃ y,aa prog 8 (f8_4 (I Y0.length) (I j) y6 y7 k w w10 x11 (I k)) y/\Z y:=by
 intro d
 induction d with
 | zero =>
  intro j w hj hw
  have hj:j=Y0.length:=by omega
  subst hj
  rw [jr] at hw
  obtain ⟨y,g1,g2⟩:=hz w hw
  refine ⟨y,?_,g2⟩
  unfold f8_4
  exact aa.tv rfl (aa.ite ap nofun fun _=>aa.tv (inc (k:=k) (n:=1001) (by omega) (by omega)) (f8_3_J g1))
 | succ d ih =>
  intro j w hj hw
  have hjl:j < Y0.length:=by omega
  obtain ⟨b,hb⟩:∃ b,Y0[j]? = some b:=⟨_,Eu hjl⟩
  have hcb:=hc b (EC hb)
  have hjY:j < (bu (fT (aA P)) Y0 j).length:=by rw [cX]; exact hjl
  have hgj:=iC (f:=fT (aA P)) hb
  have e1:(X.set k ⟨p,r,bu (fT (aA P)) Y0 j⟩)[k]? = some ⟨p,r,bu (fT (aA P)) Y0 j⟩:=List.getElem?_set_self hk
  obtain ⟨y,c,i,g,h1,h2,h3,h4,h5,h6,h7,h8,h9,hz1⟩:=open2 hw e1 hgj
  have hz2:=Zip.step hz1 h4 h2 (j:=5) (z:=i) rfl (Q:=RL (some true) 7 (RIns (some true))) (fun is=>{ b with ins:=is }) (fun z' c' hq=>⟨c,z',g,rfl,h5,h6,hq,h8,h9⟩)
  have gz1:=hz1.get
  have gz2:aR [(k,2),(j,5)] w=some i:=hz2.get
  have l4:=h4.slLen
  rw [show (DFunc.blocks ⟨p,r,bu (fT (aA P)) Y0 j⟩).length=Y0.length from cX] at l4
  have anj:af (I (j:Int))=some j:=am (by omega)
  have hchk:(Bool.and (slSize y 14) (Nat.blt j Y0.length))=true:=by rw [h4.slSize]; simpa using hjl
  have hfi:ab zSl (mA b c i g) 5=true:=by simp [ab,zSl,aE,aB,h7.isSl]
  have hself:(bu (fT (aA P)) Y0 j).set j { b with ins:=bu (fZ (aA P)) b.ins 0 }=bu (fT (aA P)) Y0 j:=by
   rw [iJ]
   apply List.ext_getElem?
   intro n
   by_cases e:n=j
   ·subst e; rw [List.getElem?_set_self hjY,hgj]
   ·rw [List.getElem?_set_ne (Ne.symm e)]
  obtain ⟨y',g1,g2⟩:=Dk hn hk hjY hcb.1 (x2:=I Y0.length) (x3:=I j) (y6:=y6) (y7:=y7) (x11:=x11) (x12:=I k) (Z:=Z) (p:=p) (r:=r) (fun w hw=>by
   have e1':(X.set k ⟨p,r,(bu (fT (aA P)) Y0 j).set j { b with ins:=b.ins.map (fZ (aA P)) }⟩)[k]? = some ⟨p,r,(bu (fT (aA P)) Y0 j).set j { b with ins:=b.ins.map (fZ (aA P)) }⟩:=List.getElem?_set_self hk
   have e2':((bu (fT (aA P)) Y0 j).set j { b with ins:=b.ins.map (fZ (aA P)) })[j]? = some { b with ins:=b.ins.map (fZ (aA P)) }:=List.getElem?_set_self hjY
   obtain ⟨y,c,i,g,h1,h2,h3,h4,h5,h6,h7,h8,h9,hz1⟩:=open2 hw e1' e2'
   have gz1:=hz1.get
   have hset:=iv (f:=fT (aA P)) hb
   by_cases k4:b.fin.kind=4
   ·obtain ⟨c0,c1,c2⟩:=hcb.2 k4
    have hnp:=RArr.get hn c1
    rw [kP c2] at hnp
    have ln:=hn.slLen
    rw [ck] at ln
    obtain ⟨w',a1,a2⟩:=Zip.store hz1 h4 h2 (d:=9) (ys:=[I (aA P b.fin.f.toNat:Int)]) (a:=fT (aA P) b) (by
     have:fT (aA P) b={ b with ins:=b.ins.map (fZ (aA P)),fin:={ b.fin with f:=(aA P b.fin.f.toNat:Int) } }:=by unfold fT; rw [if_pos k4]
     rw [this]
     exact ⟨c,i,g,rfl,h5,h6,h7,h8,h9.1,h9.2.1,h9.2.2.1,hnp.2,h9.2.2.2.2⟩)
    simp only [List.set_set] at a2
    rw [hset] at a2
    obtain ⟨y',g1,g2⟩:=ih (j + 1) w' (by omega) a2
    refine ⟨y',?_,g2⟩
    unfold f8_7
    refine aa.tv gz1 (aa.tvs h2 (aa.chk rfl (aa.tv rfl (aa.ite (v:=true) (by simp [asBool,k4]) (fun _=>?_) nofun))))
    exact aa.tv gz1 (aa.tvs h2 (aa.chk rfl (aa.nat ln (aa.nat (ix c0 h9.2.2.2.1) (aa.chk (by rw [hn.slSize]; simpa using c1) (aa.tvs hnp.1 (aa.chk rfl (aa.tv gz1 (aa.tvs h2 (aa.chk rfl (aa.tv a1 (aa.tv (inc hjl (by omega)) (f8_4_J g1)))))))))))))
   ·have:fT (aA P) b={ b with ins:=b.ins.map (fZ (aA P)) }:=by unfold fT; rw [if_neg k4]
    rw [<- this,hset] at hw
    obtain ⟨y',g1,g2⟩:=ih (j + 1) w (by omega) hw
    refine ⟨y',?_,g2⟩
    unfold f8_7
    exact aa.tv gz1 (aa.tvs h2 (aa.chk rfl (aa.tv rfl (aa.ite (v:=false) (by simp [asBool,k4]) nofun fun _=>aa.tv (inc hjl (by omega)) (f8_4_J g1)))))) b.ins.length 0 w (by omega) (by rw [hself]; exact hw)
  refine ⟨y',?_,g2⟩
  unfold f8_4
  refine aa.tv rfl (aa.ite (aq hjl) (fun _=>?_) nofun)
  exact aa.tv gz1 (aa.nat l4 (aa.nat anj (aa.chk hchk (aa.tv gz1 (aa.tvs h2 (aa.chk hfi (aa.tv gz2 (aa.tv h7.len (f8_6_J g1)))))))))
theorem DV {N:Nat} {P:Nat->Prop} {w10:TV} (hn:RInts (some true) w10 (dc N (mD P))) {A:List DFunc} (hA:A.length<=100) (hc:∀ u ∈ A,u.blocks.length<=100/\∀ b ∈ u.blocks,(∀ x ∈ b.ins,x.op=11->0<=x.f/\x.f.toNat < N/\P x.f.toNat)/\(b.fin.kind=4->0<=b.fin.f/\b.fin.f.toNat < N/\P b.fin.f.toNat)) :
  ∀ (d k:Nat) (w:TV),k + d=A.length->RMod (some true) [w] ⟨bu (gF (aA P)) A k⟩->∃ w',aa prog 8 (f8_3 (I A.length) (I k) w w10) (.tup [.agg [w'],I 0])/\RMod (some true) [w'] ⟨A.map (gF (aA P))⟩:=by
 intro d
 induction d with
 | zero =>
  intro k w hk hw
  have hk:k=A.length:=by omega
  subst hk
  rw [jr] at hw
  refine ⟨w,?_,hw⟩
  obtain ⟨_,hx,hw⟩:=hw
  cases hx
  have hO:=hw.own fun _ _ h=>h.own
  unfold f8_3
  refine aa.tv rfl (aa.ite ap nofun fun _=>f8_5_J ?_)
  unfold f8_5
  exact aa.chk (by simp [ci,bj,hO]) aa.ret
 | succ d ih =>
  intro k w hk hw
  have hkl:k < A.length:=by omega
  obtain ⟨u,hu⟩:∃ u,A[k]? = some u:=⟨_,Eu hkl⟩
  obtain ⟨hbl,hcu⟩:=hc u (EC hu)
  have hg:=iC (f:=gF (aA P)) hu
  have hkX:k < (bu (gF (aA P)) A k).length:=by rw [cX]; exact hkl
  have hset:=iv (f:=gF (aA P)) hu
  have hself:(bu (gF (aA P)) A k).set k ⟨u.params,u.regs,bu (fT (aA P)) u.blocks 0⟩=bu (gF (aA P)) A k:=by
   rw [iJ]
   apply List.ext_getElem?
   intro n
   by_cases e:n=k
   ·subst e; rw [List.getElem?_set_self hkX,hg]
   ·rw [List.getElem?_set_ne (Ne.symm e)]
  have hw0:=hw
  obtain ⟨_,hx,hwl⟩:=hw
  cases hx
  obtain ⟨e,he,hR⟩:=hwl.pel hg
  obtain ⟨y,rfl,hy,_⟩:=hR
  obtain ⟨w',g1,g2⟩:=DW hn hkX hbl (by omega) hcu (y6:=I u.params) (y7:=I u.regs) (x11:=I A.length) (p:=u.params) (r:=u.regs) (Z:=fun r=>∃ w',r=.tup [.agg [w'],I 0]/\RMod (some true) [w'] ⟨A.map (gF (aA P))⟩) (fun w hw=>by
   have e:(⟨u.params,u.regs,u.blocks.map (fT (aA P))⟩:DFunc)=gF (aA P) u:=rfl
   rw [e,hset] at hw
   obtain ⟨w',g1,g2⟩:=ih (k + 1) w (by omega) hw
   exact ⟨_,g1,w',rfl,g2⟩) u.blocks.length 0 w (by omega) (by rw [hself]; exact hw0)
  obtain ⟨w',rfl,g2⟩:=g2
  refine ⟨w',?_,g2⟩
  have l:=hwl.slLen
  rw [show (DMod.funcs ⟨bu (gF (aA P)) A k⟩).length=A.length from cX] at l
  have ank:af (I (k:Int))=some k:=am (by omega)
  unfold f8_3
  refine aa.tv rfl (aa.ite (aq hkl) (fun _=>?_) nofun)
  exact aa.nat l (aa.nat ank (aa.chk (by rw [hwl.slSize]; simpa using hkl) (aa.tvs he (aa.chk (by simp [ab,ez,aE,TV.isSc,scV,hy.isSl]) (aa.tv (hwl.deep he (j:=2) (z:=y) rfl) (aa.tv hy.len (f8_4_J g1)))))))
end Go.Ab.D13
end

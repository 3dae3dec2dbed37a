import Derived.Test.YtjdjnejdjhfmcaaIM11
set_option linter.all false
section
namespace Go.Ab
open Go.RowKit
section
variable {P:Program} {E:Env} {C:Cal} {w0:Bs} {w w':World} {I0 I R:Nat→Prop} {g g':Gh} {st st':ASt} {a:Act} {ov:List Value} {look:Look} {Q:Exit→Act→World→Prop} {id:Nat}
variable {dst:Option Tmp} {type:TypeId} {pos:String} {after:Array Edge} {guard:Option (Nat × Bool)}
def yG (P:Program) (G:Laid) (f:FuncId) (args:List TV) (r:TV):Prop :=
 ∀ (I : Nat → Prop) (w : World) (vals : Array Value), G.P w I → (∀ b, I b → b < w.heap.size) → vals.size = args.length → (∀ (j : Nat) (x : TV), args[j]? = some x → Rep w I x (vals.getD j undef)) →
  (callFunc f vals).run P w=.ok (.enter f vals) w ∧
  Calls P f vals w fun e w'=>∃ v,e=.returned v∧Below w.heap.size w w'∧∃ I' S:Nat→Prop,(∀ b,I b→I' b)∧(∀ b,I' b→b < w'.heap.size)∧(∀ b,b < w.heap.size→I' b→I b) ∧
   (∀ b,S b→w.heap.size≤b∧b < w'.heap.size∧¬ I' b)∧am w' I' r v S
def CJ (w:World) (I:Nat→Prop) (b:Nat) (c:TV) (v:Value) (F:Nat→Prop):Prop :=
 (c.eF=true∧(v=.pointer none∨v=.pointer (some ⟨b,0,none⟩)))∨(c.eF=false∧am w I c v F)
def Dl (P:Program) (G:Laid) (c:Nat × Nat) (f:FuncId) (xs:List TV) (r:TV):Prop :=
 ∃ x args,xs=x :: args∧∀ (I:Nat→Prop) (w:World) (b:Nat) (vs:Array Value) (ty:TypeId) (vals:Array Value),G.P w I→(∀ b,I b→b < w.heap.size)→w.heap[b]? = some (.cells vs ty (0,0))→(∀ u ∈ vs.toList,u.oneCell'=true) →
  ¬ I b→vs.size=c.2→c.1 < c.2→b < w.heap.size→Rep w I x (vs.getD c.1 undef)→vals.size=xs.length→vals.getD 0 undef=.pointer (some ⟨b,0,none⟩)→(∀ (j:Nat) (y:TV),args[j]? = some y→Rep w I y (vals.getD (j + 1) undef)) →
  (callFunc f vals).run P w=.ok (.enter f vals) w∧Calls P f vals w fun e w'=>∃ v,e=.returned v∧Below w.heap.size w w'∧∃ I':Nat→Prop,(∀ b,I b→I' b)∧(∀ b,I' b→b < w'.heap.size)∧(∀ b,b < w.heap.size→I' b→I b)∧Rep w' I' r v
def Aq (w:World) (I:Nat→Prop) (ld:fh) (b:Nat) (cs:List TV) (S:Nat→Prop):Prop :=
 S b∧∃ (vs:Array Value) (ty:TypeId) (F:Nat→Nat→Prop),w.heap[b]? = some (.cells vs ty (0,0))∧vs.size=cs.length ∧
  (∀ (k:Nat) (c:TV),cs[k]? = some c→CJ w I b c (vs.getD k undef) (F k)∧(vs.getD k undef).oneCell'=true∧(c.eF=true→ty=ld.ty)) ∧
  (∀ k b',F k b'→S b'∧b'≠b)∧∀ k k' b',F k b'→F k' b'→k=k'
def Df (P:Program) (G:Laid) (ld:fh) (f:FuncId) (xs:List TV) (r:TV):Prop :=
 ∃ cs args r0 cs',xs=.tup cs :: args∧r=.tup [r0,.tup cs'] ∧
 ∀ (I : Nat → Prop) (w : World) (b : Nat) (vals : Array Value) (L : Nat → Prop), G.P w I → (∀ b, I b → b < w.heap.size) → (∀ b, L b → b < w.heap.size ∧ ¬ I b) → Aq w I ld b cs L →
  vals.size=xs.length→vals.getD 0 undef=.pointer (some ⟨b,0,none⟩)→(∀ (j:Nat) (x:TV),args[j]? = some x→Rep w I x (vals.getD (j + 1) undef)) →
  (callFunc f vals).run P w=.ok (.enter f vals) w ∧
  Calls P f vals w fun e w'=>∃ v,e=.returned v∧(Bs.of w L G).Bel w'∧∃ I' L' S:Nat→Prop,(∀ b,I b→I' b)∧(∀ b,I' b→b < w'.heap.size)∧(∀ b,¬ (Bs.of w L G).New b→I' b→I b) ∧
   (∀ b,L' b→(Bs.of w L G).New b∧b < w'.heap.size∧¬ I' b)∧am w' I' r0 v S∧Aq w' I' ld b cs' L'
theorem jB {i:Nat}:∀ {cs:List CA},(∀ c ∈ cs,c=.junk)→mapC (CA.unM i) cs=cs
 | [],_=>rfl
 | c :: cs,h=>by
  have h0:=h c EQ
  subst h0
  simp only [mapC,CA.unM,jB (i:=i) (cs:=cs) (fun c hc=>h c (ER _ hc))]
theorem al.Eo (hs:al w0 I0 R g st a ov w) {i:Nat} {cs:List CA} (hl:st.look i=some (.cells cs)) (hj:∀ c ∈ cs,c=.junk) {L:Nat→Prop} {G:Laid} (hL:∀ b,L b→b=g.β i∨R b) (hb:(Bs.of w L G).Bel w') {vs:Array Value} {ty:TypeId}
  (hh:w'.heap[g.β i]? = some (.cells vs ty (0,0))) (hn:vs.size=cs.length) (hone:∀ u ∈ vs.toList,u.oneCell'=true) {I' R':Nat→Prop} (hI:∀ b,g.I b→I' b) (hlt:∀ b,I' b→b < w'.heap.size)
  (hold:∀ b,¬ (Bs.of w L G).New b→I' b→g.I b) (hβ:¬ I' (g.β i)) (hR:∀ b,R' b→(R b∨w.heap.size≤b)∧b < w'.heap.size∧¬ I' b∧b≠g.β i):al w0 I0 R' ⟨I',g.ρ,g.β,g.φ,g.O⟩ (st.az (CA.unM i)) a ov w':=by
 have hfi:Foot g st.look i (g.β i):=.inl ⟨cs,hl,rfl⟩
 have hnL:∀ j b,Foot g st.look j b→j≠i→¬ L b:=fun j b hf hne hlb=>by
  rcases hL b hlb with e | e
  ·subst e; exact hne (hs.apart j i _ hf hfi)
  ·exact (hs.foot j b hf).2.2.2 e
 have hft:∀ j b,Foot g st.look j b→j≠i→w'.heap[b]? = w.heap[b]? := fun j b h hne=>hb.block b (hs.foot j b h).2.1 (hnL j b h hne)
 have hIk:∀ b,g.I b→w'.heap[b]? = w.heap[b]? := fun b h=>hb.block b (hs.lt b h) (fun hlb=>by
  rcases hL b hlb with e | e
  ·subst e; exact (hs.foot i _ hfi).2.2.1 h
  ·exact (hs.res b e).2.2 h)
 have hLN:∀ b,L b→w0.New b:=fun b hlb=>by
  rcases hL b hlb with e | e
  ·subst e; exact (hs.foot i _ hfi).1
  ·exact (hs.res b e).1
 have hci:∀ j cs',st.look j=some (.tree cs')→j≠i:=fun j cs' h e=>by subst e; rw [hl] at h; cases h
 have lkc:∀ j c,st.look j=some (.cells c)→(st.az (CA.unM i)).look j=some (.cells (mapC (CA.unM i) c)):=fun j c h=>by rw [aN,h]; rfl
 have lkt:∀ j xs,st.look j=some (.tree xs)→(st.az (CA.unM i)).look j=some (.tree xs):=fun j c h=>by rw [aN,h]; rfl
 have inv:∀ j b,(st.az (CA.unM i)).look j=some b→∃ b0,st.look j=some b0∧b=b0.bu (CA.unM i):=fun j b h=>by
  rw [aN] at h
  cases h0:st.look j with
  | none=>simp [h0] at h
  | some b0=>simp only [h0,EW,EL] at h; exact ⟨b0,rfl,h.symm⟩
 have invT:∀ j xs,(st.az (CA.unM i)).look j=some (.tree xs)→st.look j=some (.tree xs):=fun j xs h=>by
  obtain ⟨b0,h1,h2⟩:=inv j _ h
  cases b0 <;> simp [BC.bu] at h2
  subst h2
  exact h1
 have nm:∀ j r p xs x v nd,st.look j=some (.tree xs)→xs[r]? = some x→Node w p x (g.ρ j r) v nd→Node w' p x (g.ρ j r) v nd:=fun j r p xs x v nd hl' hx hnd =>
  Node.mv (hs.trees j xs hl' r x hx) hIk (fun b h=>hft j b (.inr ⟨xs,r,hl',(EJ.1 hx).1,h⟩) (hci j xs hl')) hnd
 have hf:∀ c v,bO w g st.look c v→bO w' ⟨I',g.ρ,g.β,g.φ,g.O⟩ (st.az (CA.unM i)).look (c.unM i) v:=by
  intro c v h
  cases c with
  | t x=>exact ⟨h.1.mv hIk hI,h.2⟩
  | ptr j off=>obtain ⟨c',h1,h2⟩:=h; exact ⟨_,lkc j c' h1,h2⟩
  | ref x off =>
   obtain ⟨ad,cell,h1,h3⟩:=h
   exact ⟨ad,cell,h1,fun k c hk=>⟨lO.mv (g':=⟨I',g.ρ,g.β,g.φ,g.O⟩) hIk hI rfl (h3 k c hk).1,(h3 k c hk).2.1,(h3 k c hk).2.2.mv hIk hI⟩⟩
  | tptr j r p k q=>obtain ⟨xs,x,ad,l,cap,s,n,h1,h2,h3,h4,h5⟩:=h; exact ⟨xs,x,ad,l,cap,s,n,lkt j xs h1,h2,nm j r p xs x _ _ h1 h2 h3,h4,h5⟩
  | sref j r p=>obtain ⟨xs,x,nd,h1,h2,h3,h4⟩:=h; exact ⟨xs,x,nd,lkt j xs h1,h2,nm j r p xs x _ _ h1 h2 h3,h4⟩
  | swin j r p lo len=>obtain ⟨xs,x,u,nd,h1,h2,h3,h4,h5⟩:=h; exact ⟨xs,x,u,nd,lkt j xs h1,h2,nm j r p xs x _ _ h1 h2 h3,h4,h5⟩
  | may j ty =>
   simp only [CA.unM]
   cases hji:j.beq i with
   | true=>exact trivial
   | false =>
    obtain ⟨c',h1,⟨us,fr,h2⟩,h3⟩:=h
    have hne:j≠i:=fun e=>by subst e; simp at hji
    exact ⟨_,lkc j c' h1,⟨us,fr,by show w'.heap[g.β j]? = _; rw [hft j _ (.inl ⟨c',h1,rfl⟩) hne]; exact h2⟩,h3⟩
  | aptr j off len n=>obtain ⟨c',h1,h2,h3⟩:=h; exact ⟨_,lkc j c' h1,h2,h3⟩
  | yl n=>exact h
  | undef=>exact h
  | junk=>exact h
 have hfoot:∀ j b,Foot ⟨I',g.ρ,g.β,g.φ,g.O⟩ (st.az (CA.unM i)).look j b→Foot g st.look j b:=fun j b h=>by
  rcases h with ⟨c,h1,h2⟩ | ⟨xs,r,h1,h2,h3⟩
  ·obtain ⟨b0,i1,i2⟩:=inv j _ h1
   cases b0 <;> simp [BC.bu] at i2
   exact .inl ⟨_,i1,h2⟩
  ·exact .inr ⟨xs,r,invT j xs h1,h2,h3⟩
 have hsz:w.heap.size≤w'.heap.size:=hb.size
 refine ⟨hs.below.but hb.os hb.tape hb.output hb.size (fun k hk hnew=>hb.block k hk (fun h=>hnew (hLN k h))),fun b h=>hI b (hs.sub b h),hlt,fun b h1 h2=>hs.old b h1 (hold b (fun h=>h1 (h.elim (fun h=>.of_le hs.below h) (hLN b))) h2),by simp only [ASt.az,bC]; exact hs.len,hs.defers,
  dI (w':=w') (g':=⟨I',g.ρ,g.β,g.φ,g.O⟩) (st':=st.az (CA.unM i)) hf hIk hI (l:=st.slots) (vs:=fun t=>a.tmps.getD t undef) hs.slots,by simp only [ASt.az,bC]; exact hs.olen,
  dI (w':=w') (g':=⟨I',g.ρ,g.β,g.φ,g.O⟩) (st':=st.az (CA.unM i)) hf hIk hI (l:=st.out) (vs:=fun t=>ov.getD t undef) hs.outs,
  fun j c hl'=>?_,fun j xs hl' r x hx=>?_,fun j b h=>?_,fun i j b h1 h2=>hs.apart i j b (hfoot i b h1) (hfoot j b h2),fun i xs r r' b h1 h2 h3 h4 h5=>hs.apartR i xs r r' b (invT i xs h1) h2 h3 h4 h5,fun b hr=>?_,hs.base,hs.out⟩
 ·obtain ⟨b0,i1,i2⟩:=inv j _ hl'
  cases b0 with
  | tree xs=>simp [BC.bu] at i2
  | cells c0 =>
   simp only [BC.bu,BC.cells.injEq] at i2
   subst i2
   by_cases e:j=i
   ·subst e
    rw [hl] at i1
    cases i1
    rw [jB hj]
    refine ⟨vs,ty,hh,by simpa using hn,fun k c u hc hu=>?_⟩
    have:=hj c (ES hc)
    subst this
    exact ⟨trivial,hone u (ES hu)⟩
   ·obtain ⟨us,t,h1,h2⟩:=hs.cells j c0 i1
    exact ⟨us,t,by rw [← h1]; exact hft j _ (.inl ⟨c0,i1,rfl⟩) e,h2.mapC hf⟩
 ·have hl2:=invT j xs hl'
  exact (hs.trees j xs hl2 r x hx).mv hIk hI (fun b h=>hft j b (.inr ⟨xs,r,hl2,(EJ.1 hx).1,h⟩) (hci j xs hl2)) (fun _ h=>h)
 ·replace h:=hfoot j b h
  obtain ⟨h1,h2,h3,h4⟩:=hs.foot j b h
  refine ⟨h1,Nat.lt_of_lt_of_le h2 hsz,fun h'=>?_,fun h'=>?_⟩
  ·by_cases e:j=i
   ·subst e
    rcases h with ⟨c,_,e2⟩ | ⟨xs,r,e2,_⟩
    ·rw [e2] at h'; exact hβ h'
    ·rw [hl] at e2; cases e2
   ·exact h3 (hold b (fun hn=>hn.elim (fun hn=>by have:w.heap.size≤b:=hn; omega) (hnL j b h e)) h')
  ·obtain ⟨q1,_,_,q4⟩:=hR b h'
   rcases q1 with q1 | q1
   ·exact h4 q1
   ·omega
 ·obtain ⟨q1,q2,q3,_⟩:=hR b hr
  refine ⟨?_,q2,q3⟩
  rcases q1 with q1 | q1
  ·exact (hs.res b q1).1
  ·exact .of_le hs.below q1
theorem al.grow (hs:al w0 I0 R g st a ov w) (hb:Below w.heap.size w w') {I' R':Nat→Prop} (hI:∀ b,g.I b→I' b) (hlt:∀ b,I' b→b < w'.heap.size) (hold:∀ b,b < w.heap.size→I' b→g.I b)
  (hR:∀ b,R' b→R b∨(w.heap.size≤b∧b < w'.heap.size∧¬ I' b)):al w0 I0 R' ⟨I',g.ρ,g.β,g.φ,g.O⟩ st a ov w':=by
 have hft:∀ i b,Foot g st.look i b→w'.heap[b]? = w.heap[b]? := fun i b h=>hb.block b (hs.foot i b h).2.1
 have m:Mv (fun _ _ _=>True) w g st.look w' ⟨I',g.ρ,g.β,g.φ,g.O⟩ st.look:=by
  refine ⟨fun b h=>hb.block b (hs.lt b h),hI,fun i cs h=>⟨cs,h,rfl⟩,fun i cs ty h ht=>(by
   obtain ⟨vs,fr,h1⟩:=ht
   exact ⟨vs,fr,by rw [hft i _ (.inl ⟨cs,h,rfl⟩)]; exact h1⟩),fun i r p xs x v nd hl hx _ _ hn=>⟨xs,x,hl,hx,?_⟩,rfl⟩
  exact Node.mv (hs.trees i xs hl r x hx) (fun b h=>hb.block b (hs.lt b h)) (fun b h=>hft i b (.inr ⟨xs,r,hl,(EJ.1 hx).1,h⟩)) hn
 have hfoot:∀ i b,Foot ⟨I',g.ρ,g.β,g.φ,g.O⟩ st.look i b→Foot g st.look i b:=fun i b h=>h
 refine ⟨hs.below.step hb,fun b h=>hI b (hs.sub b h),hlt,fun b h1 h2=>hs.old b h1 (hold b (by have:=mt (Bs.New.of_le hs.below (b:=b)) h1; omega) h2),hs.len,hs.defers,fun t v hv=>(hs.slots t v hv).mv m,hs.olen,fun t v hv=>(hs.outs t v hv).mv m,
  fun i cs hl=>?_,fun i xs hl r x hx=>?_,fun i b h=>?_,fun i j b h1 h2=>hs.apart i j b h1 h2,hs.apartR,fun b hr=>?_,hs.base,hs.out⟩
 ·obtain ⟨vs,ty,h1,h2⟩:=hs.cells i cs hl
  exact ⟨vs,ty,by rw [← h1]; exact hft i _ (.inl ⟨cs,hl,rfl⟩),h2.mv m⟩
 ·exact (hs.trees i xs hl r x hx).mv (fun b h=>hb.block b (hs.lt b h)) hI (fun b h=>hft i b (.inr ⟨xs,r,hl,(EJ.1 hx).1,h⟩)) (fun _ h=>h)
 ·obtain ⟨h1,h2,h3,h4⟩:=hs.foot i b h
  refine ⟨h1,Nat.lt_of_lt_of_le h2 hb.size,fun h'=>h3 (hold b h2 h'),fun h'=>?_⟩
  rcases hR b h' with h' | h'
  ·exact h4 h'
  ·omega
 ·rcases hR b hr with h | h
  ·obtain ⟨h1,h2,h3⟩:=hs.res b h
   exact ⟨h1,Nat.lt_of_lt_of_le h2 hb.size,fun h'=>h3 (hold b h2 h')⟩
  ·exact ⟨.of_le hs.below h.1,h.2.1,h.2.2⟩
def Wide (g:Gh) (look:Look) (I2:Nat→Prop):Prop:=(∀ b,g.I b→I2 b)∧∀ i b,Foot g look i b→I2 b
theorem td {T:Type} (hlk:∀ i b,look i=some b→st.look i=some b) (hs:al w0 I0 R g st a ov w) {c:CA} {u:Value} {k:TV→Prg T} {e:T} (hc:bO w g st.look c u) (h:(rV look c k).hits C e) :
  ∃ y,(k y).hits C e∧∀ I2,Wide g st.look I2→Rep w I2 y u:=by
 cases c with
 | t x=>exact ⟨x,h,fun I2 hw=>hc.1.mv (fun _ _=>rfl) hw.1⟩
 | sref i r p =>
  simp only [rV,jg] at h
  split at h
  ·rename_i x hx
   obtain ⟨xs,h1,h2⟩:=aG hx
   obtain ⟨y,h3,h4⟩:=em h
   obtain ⟨xs',x',nd,g1,g2,g3,g4⟩:=hc
   rw [hlk _ _ h1] at g1
   cases g1
   rw [h2] at g2
   cases g2
   obtain ⟨_,S',r1,r2⟩:=hs.at (hlk _ _ h1) h2 g3 h3
   exact ⟨_,h4,fun I2 hw=>r1.frz hw.1 (fun b hb=>hw.2 i b (.inr ⟨xs,r,hlk _ _ h1,(EJ.1 h2).1,r2 b hb⟩))⟩
  ·exact h.elim
 | swin i r p lo len =>
  simp only [rV,jg] at h
  split at h
  ·rename_i x hx
   obtain ⟨xs,h1,h2⟩:=aG hx
   obtain ⟨y,h3,z,h4,h5⟩:=em h
   obtain ⟨xs',x',u,nd,g1,g2,g3,g4,g5⟩:=hc
   rw [hlk _ _ h1] at g1
   cases g1
   rw [h2] at g2
   cases g2
   obtain ⟨e1,S',r1,r2⟩:=hs.at (hlk _ _ h1) h2 g3 h3
   exact ⟨_,h5,fun I2 hw=>(eo r1 e1 g5 h4).frz hw.1 (fun b hb=>hw.2 i b (.inr ⟨xs,r,hlk _ _ h1,(EJ.1 h2).1,r2 b hb⟩))⟩
  ·exact h.elim
 | _=>exact h.elim
theorem sI {T:Type} (hlk:∀ i b,look i=some b→st.look i=some b) (hs:al w0 I0 R g st a ov w):∀ {cs:List CA} {us:List Value} {k:List TV→Prg T} {e:T},CR w g st.look cs us→(Ac look cs k).hits C e →
  ∃ ys,(k ys).hits C e∧ys.length=cs.length∧∀ I2,Wide g st.look I2→∀ (m:Nat) (y:TV) (u:Value),ys[m]? = some y→us[m]? = some u→Rep w I2 y u
 | [],us,k,e,hcr,h=>⟨[],h,rfl,fun I2 _ m y u hy=>by simp at hy⟩
 | c :: l, us, k, e, hcr, h => by
  obtain ⟨u0,us',rfl⟩:∃ u0 us',us=u0 :: us':=by
   cases us with
   | nil=>have:=hcr.1; simp at this
   | cons u0 us'=>exact ⟨u0,us',rfl⟩
  have hc:=hcr.2 0 c u0 rfl rfl
  have hcr':CR w g st.look l us':=⟨by have:=hcr.1; simpa using this,fun j c' u hc' hu'=>hcr.2 (j + 1) c' u (by simpa using hc') (by simpa using hu')⟩
  obtain ⟨y,h1,h2⟩:=td hlk hs hc.1 h
  obtain ⟨ys,h3,h4,h5⟩:=sI hlk hs hcr' h1
  refine ⟨y :: ys,h3,by simp [h4],fun I2 hw m y' u hy hu=>?_⟩
  cases m with
  | zero=>simp at hy hu; subst hy hu; exact h2 I2 hw
  | succ m=>simp at hy hu; exact h5 I2 hw m y' u hy hu
theorem zO {ys:List TV} {vs:Array Value} (hl:vs.toList.length=ys.length) (h1:∀ (j:Nat) (u:Value),vs.toList[j]? = some u→u.oneCell'=true) (hr:∀ (m:Nat) (y:TV) (u:Value),ys[m]? = some y→vs.toList[m]? = some u→Rep w I y u):Rep w I (.agg ys) (.agg vs):=by
 refine .agg (by simpa using hl) (fun j hj=>?_) (fun j c hj=>?_)
 ·have:vs.toList[j]? = some vs[j]:=by simp [hj]
  rw [EY,Array.getElem?_eq_getElem hj]
  exact h1 j _ this
 ·have hj':j < vs.size:=by have:=(EJ.1 hj).1; simp at hl; omega
  have:vs.toList[j]? = some vs[j]:=by simp [hj']
  rw [EY,Array.getElem?_eq_getElem hj']
  exact hr j c _ hj this
theorem yk {T:Type} (hlk:∀ i b,look i=some b→st.look i=some b) (hs:al w0 I0 R g st a ov w) {v:AV} {u:Value} {k:TV→Prg T} {e:T} (hv:cm w g st.look v u) (h:(sf look v k).hits C e) :
  ∃ y,(k y).hits C e∧∀ I2,Wide g st.look I2→Rep w I2 y u:=by
 cases v with
 | one c=>exact td hlk hs hv h
 | tv x=>exact ⟨x,h,fun I2 hw=>Rep.mv (fun _ _=>rfl) hw.1 hv⟩
 | bl b =>
  have:u=.bool b:=hv
  subst this
  exact ⟨_,h,fun I2 _=>.lit _⟩
 | tups l=>exact h.elim
 | clo _ l=>exact h.elim
 | agg cs =>
  obtain ⟨vs,rfl,hcr⟩:=hv
  obtain ⟨ys,h1,h2,h3⟩:=sI hlk hs hcr h
  refine ⟨_,h1,fun I2 hw=>zO (by rw [h2]; exact hcr.1) (fun j u hu=>?_) (h3 I2 hw)⟩
  have hj:j < cs.length:=by rw [← hcr.1]; exact (EJ.1 hu).1
  exact (hcr.2 j _ u (EK hj) hu).2
def nS (w:World) (g:Gh) (look:Look):List AV→List Value→Prop
 | [],[]=>True
 | v :: l,u :: us=>cm w g look v u∧nS w g look l us
 | _,_=>False
theorem nS.len:∀ {l:List AV} {us:List Value},nS w g look l us→us.length=l.length
 | [],[],_=>rfl
 | v :: l,u :: us,h=>by simp [h.2.len]
 | [],u :: us,h=>h.elim
 | v :: l,[],h=>h.elim
theorem al.evs (hs:al w0 I0 R g st a ov w):∀ (xs:List Operand),nS w g st.look (xs.map st.ev) (xs.map a.eval)
 | []=>trivial
 | x :: xs=>⟨hs.ev x,hs.evs xs⟩
theorem m6 {T:Type} (hlk:∀ i b,look i=some b→st.look i=some b) (hs:al w0 I0 R g st a ov w):∀ {vs:List AV} {us:List Value} {k:List TV→Prg T} {e:T},nS w g st.look vs us→(lends look vs k).hits C e →
  ∃ ys,(k ys).hits C e∧ys.length=vs.length∧∀ I2,Wide g st.look I2→∀ (m:Nat) (y:TV),ys[m]? = some y→Rep w I2 y (us.getD m undef)
 | [],us,k,e,hr,h=>⟨[],h,rfl,fun I2 _ m y hy=>by simp at hy⟩
 | v :: l,[],k,e,hr,h=>hr.elim
 | v :: l,u :: us,k,e,hr,h=>by
  obtain ⟨y,h1,h2⟩:=yk hlk hs hr.1 h
  obtain ⟨ys,h3,h4,h5⟩:=m6 hlk hs hr.2 h1
  refine ⟨y :: ys,h3,by simp [h4],fun I2 hw m y' hy=>?_⟩
  cases m with
  | zero=>simp at hy ⊢; subst hy; exact h2 I2 hw
  | succ m=>simp at hy ⊢; simpa using h5 I2 hw m y' hy
def ij (g:Gh) (rs:List (Nat × Nat)) (I2:Nat→Prop):Prop:=(∀ b,g.I b→I2 b)∧∀ i r,(i,r) ∈ rs→∀ b,g.φ i r b→I2 b
def Roots (look:Look) (rs:List (Nat × Nat)):Prop:=∀ i r,(i,r) ∈ rs→∃ xs x,look i=some (.tree xs)∧xs[r]? = some x
theorem tS {x:TV} {v:Value} {S:Nat→Prop} {I2:Nat→Prop} (h:am w g.I x v S) (hf:x.la=true) (hI:∀ b,g.I b→I2 b):Rep w I2 x v:=by
 cases h with
 | fr h=>exact h.mv (fun _ _=>rfl) hI
 | sl=>simp [TV.la] at hf
 | agg=>simp [TV.la] at hf
 | tup=>simp [TV.la] at hf
 | buf=>simp [TV.la] at hf
theorem sq {T:Type} (hlk:∀ i b,look i=some b→st.look i=some b) (hs:al w0 I0 R g st a ov w) {c:CA} {u:Value} {k:TV→List (Nat × Nat)→Prg T} {e:T} (hc:bO w g st.look c u) (h:(tE look c k).hits C e) :
  ∃ y rs,(k y rs).hits C e∧Roots st.look rs∧∀ I2,ij g rs I2→Rep w I2 y u:=by
 cases c with
 | t x=>exact ⟨x,[],h,fun i r hm=>by simp at hm,fun I2 hw=>hc.1.mv (fun _ _=>rfl) hw.1⟩
 | sref i r p =>
  simp only [tE] at h
  split at h
  ·rename_i x hx
   obtain ⟨xs,h1,h2⟩:=aG hx
   obtain ⟨xs',x',nd,g1,g2,g3,g4⟩:=hc
   rw [hlk _ _ h1] at g1
   cases g1
   rw [h2] at g2
   cases g2
   have hroot:Roots st.look [(i,r)]:=fun i' r' hm=>by
    simp only [List.mem_singleton,Prod.mk.injEq] at hm
    obtain ⟨rfl,rfl⟩:=hm
    exact ⟨xs,x,hlk _ _ h1,h2⟩
   split at h
   ·refine ⟨_,_,h,hroot,fun I2 hw=>?_⟩
    rw [g3.1]
    exact (hs.trees i xs (hlk _ _ h1) r x h2).frz hw.1 (hw.2 i r (by simp))
   ·obtain ⟨y,hy,hf,h⟩:=h
    obtain ⟨_,S',r1,r2⟩:=hs.at (hlk _ _ h1) h2 g3 hy
    exact ⟨_,_,h,fun i r hm=>by simp at hm,fun I2 hw=>tS r1 hf hw.1⟩
  ·exact h.elim
 | swin i r p lo len =>
  simp only [tE] at h
  split at h
  ·rename_i x hx
   obtain ⟨xs,h1,h2⟩:=aG hx
   obtain ⟨xs',x',u,nd,g1,g2,g3,g4,g5⟩:=hc
   rw [hlk _ _ h1] at g1
   cases g1
   rw [h2] at g2
   cases g2
   have hroot:Roots st.look [(i,r)]:=fun i' r' hm=>by
    simp only [List.mem_singleton,Prod.mk.injEq] at hm
    obtain ⟨rfl,rfl⟩:=hm
    exact ⟨xs,x,hlk _ _ h1,h2⟩
   split at h
   ·obtain ⟨y,hy,h⟩:=h
    refine ⟨_,_,h,hroot,fun I2 hw=>?_⟩
    have hr:=hs.trees i xs (hlk _ _ h1) r x h2
    rw [← g3.1] at hr
    exact (eo hr g3.2 g5 hy).frz hw.1 (hw.2 i r (by simp))
   ·obtain ⟨z,hz,y,hy,hf,h⟩:=h
    obtain ⟨e1,S',r1,_⟩:=hs.at (hlk _ _ h1) h2 g3 hz
    exact ⟨_,_,h,fun i r hm=>by simp at hm,fun I2 hw=>tS (eo r1 e1 g5 hy) hf hw.1⟩
  ·exact h.elim
 | _=>exact h.elim
theorem Roots.app {rs rs':List (Nat × Nat)} (h:Roots look rs) (h':Roots look rs'):Roots look (rs ++ rs'):=fun i r hm=>by
 rcases List.mem_append.1 hm with hm | hm
 ·exact h i r hm
 ·exact h' i r hm
theorem ij.left {rs rs':List (Nat × Nat)} {I2:Nat→Prop} (h:ij g (rs ++ rs') I2):ij g rs I2:=⟨h.1,fun i r hm=>h.2 i r (List.mem_append_left _ hm)⟩
theorem ij.right {rs rs':List (Nat × Nat)} {I2:Nat→Prop} (h:ij g (rs ++ rs') I2):ij g rs' I2:=⟨h.1,fun i r hm=>h.2 i r (List.mem_append_right _ hm)⟩
theorem sM {T:Type} (hlk:∀ i b,look i=some b→st.look i=some b) (hs:al w0 I0 R g st a ov w):∀ {cs:List CA} {us:List Value} {k:List TV→List (Nat × Nat)→Prg T} {e:T},CR w g st.look cs us→(zy look cs k).hits C e →
  ∃ ys rs,(k ys rs).hits C e∧Roots st.look rs∧ys.length=cs.length∧∀ I2,ij g rs I2→∀ (m:Nat) (y:TV) (u:Value),ys[m]? = some y→us[m]? = some u→Rep w I2 y u
 | [],us,k,e,hcr,h=>⟨[],[],h,fun i r hm=>by simp at hm,rfl,fun I2 _ m y u hy=>by simp at hy⟩
 | c :: l, us, k, e, hcr, h => by
  obtain ⟨u0,us',rfl⟩:∃ u0 us',us=u0 :: us':=by
   cases us with
   | nil=>have:=hcr.1; simp at this
   | cons u0 us'=>exact ⟨u0,us',rfl⟩
  have hc:=hcr.2 0 c u0 rfl rfl
  have hcr':CR w g st.look l us':=⟨by have:=hcr.1; simpa using this,fun j c' u hc' hu'=>hcr.2 (j + 1) c' u (by simpa using hc') (by simpa using hu')⟩
  obtain ⟨y,rs,h1,h0,h2⟩:=sq hlk hs hc.1 h
  obtain ⟨ys,rs',h3,h0',h4,h5⟩:=sM hlk hs hcr' h1
  refine ⟨y :: ys,rs ++ rs',h3,h0.app h0',by simp [h4],fun I2 hw m y' u hy hu=>?_⟩
  cases m with
  | zero=>simp at hy hu; subst hy hu; exact h2 I2 hw.left
  | succ m=>simp at hy hu; exact h5 I2 hw.right m y' u hy hu
theorem yf {T:Type} (hlk:∀ i b,look i=some b→st.look i=some b) (hs:al w0 I0 R g st a ov w) {v:AV} {u:Value} {k:TV→List (Nat × Nat)→Prg T} {e:T} (hv:cm w g st.look v u) (h:(tj look v k).hits C e) :
  ∃ y rs,(k y rs).hits C e∧Roots st.look rs∧∀ I2,ij g rs I2→Rep w I2 y u:=by
 cases v with
 | one c=>exact sq hlk hs hv h
 | tv x=>exact ⟨x,[],h,fun i r hm=>by simp at hm,fun I2 hw=>Rep.mv (fun _ _=>rfl) hw.1 hv⟩
 | bl b =>
  have:u=.bool b:=hv
  subst this
  exact ⟨_,[],h,fun i r hm=>by simp at hm,fun I2 _=>.lit _⟩
 | tups l=>exact h.elim
 | clo _ l=>exact h.elim
 | agg cs =>
  obtain ⟨vs,rfl,hcr⟩:=hv
  obtain ⟨ys,rs,h1,h0,h2,h3⟩:=sM hlk hs hcr h
  refine ⟨_,rs,h1,h0,fun I2 hw=>zO (by rw [h2]; exact hcr.1) (fun j u hu=>?_) (h3 I2 hw)⟩
  have hj:j < cs.length:=by rw [← hcr.1]; exact (EJ.1 hu).1
  exact (hcr.2 j _ u (EK hj) hu).2
theorem nl {T:Type} (hlk:∀ i b,look i=some b→st.look i=some b) (hs:al w0 I0 R g st a ov w):∀ {vs:List AV} {us:List Value} {k:List TV→List (Nat × Nat)→Prg T} {e:T},nS w g st.look vs us→(hands look vs k).hits C e →
  ∃ ys rs,(k ys rs).hits C e∧Roots st.look rs∧ys.length=vs.length∧∀ I2,ij g rs I2→∀ (m:Nat) (y:TV),ys[m]? = some y→Rep w I2 y (us.getD m undef)
 | [],us,k,e,hr,h=>⟨[],[],h,fun i r hm=>by simp at hm,rfl,fun I2 _ m y hy=>by simp at hy⟩
 | v :: l,[],k,e,hr,h=>hr.elim
 | v :: l,u :: us,k,e,hr,h=>by
  obtain ⟨y,rs,h1,h0,h2⟩:=yf hlk hs hr.1 h
  obtain ⟨ys,rs',h3,h0',h4,h5⟩:=nl hlk hs hr.2 h1
  refine ⟨y :: ys,rs ++ rs',h3,h0.app h0',by simp [h4],fun I2 hw m y' hy=>?_⟩
  cases m with
  | zero=>simp at hy ⊢; subst hy; exact h2 I2 hw.left
  | succ m=>simp at hy ⊢; simpa using h5 I2 hw.right m y' hy
theorem km:∀ (rs:List (Nat × Nat)) {st:ASt} {g:Gh},al w0 I0 R g st a ov w→Roots st.look rs→dl rs=true →
  ∃ st1 g1,ae dst (uc rs) st=some st1∧al w0 I0 R g1 st1 a ov w∧ij g rs g1.I∧st1.out.length=st.out.length∧∀ j cs,st.look j=some (.cells cs)→st1.look j=some (.cells cs)∧g1.β j=g.β j
 | [],st,g,hs,hr,hn=>⟨st,g,rfl,hs,⟨fun _ h=>h,fun i r hm=>by simp at hm⟩,rfl,fun _ _ h=>⟨h,rfl⟩⟩
 | (i, r) :: rs, st, g, hs, hr, hn => by
  obtain ⟨xs,x,hl,hx⟩:=hr i r (by simp)
  obtain ⟨h1,h2,h3⟩:=hs.freeze hl hx
  simp only [dl,EM,Bool.not_eq_true'] at hn
  have hne:∀ i' r',(i',r') ∈ rs→¬ (i'=i∧r'=r):=fun i' r' hm ⟨e1,e2⟩=>by
   subst e1 e2
   have:=hn.1
   rw [da] at this
   exact this hm
  have hrl:r < xs.length:=(EJ.1 hx).1
  have hlook:∀ j,(st.ac i (some (.tree (ao xs r (frz x))))).look j=if i=j then some (.tree (ao xs r (frz x))) else st.look j:=fun j=>by
   rw [ah]
   by_cases h:i=j
   ·subst h; rw [if_pos ⟨rfl,gE hl⟩,if_pos rfl]
   ·rw [if_neg (fun h'=>h h'.1),if_neg h]
  obtain ⟨st1,g1,q1,q2,q3,q4,q5⟩:=km rs h2 (fun i' r' hm=>by
   obtain ⟨xs',x',hl',hx'⟩:=hr i' r' (ER _ hm)
   rw [hlook]
   by_cases h:i=i'
   ·subst h
    rw [hl] at hl'
    cases hl'
    refine ⟨_,x',by rw [if_pos rfl],?_⟩
    rw [ai,List.getElem?_set,if_neg (fun e=>hne _ _ hm ⟨rfl,e.symm⟩)]
    exact hx'
   ·exact ⟨xs',x',by rw [if_neg h]; exact hl',hx'⟩) hn.2
  refine ⟨st1,g1,?_,q2,⟨fun b hb=>q3.1 b (.inl hb),fun i' r' hm b hb=>?_⟩,q4,fun j cs hj=>(by
   have hne:i≠j:=fun e=>by subst e; rw [hl] at hj; cases hj
   obtain ⟨z1,z2⟩:=q5 j cs (by rw [hlook,if_neg hne]; exact hj)
   exact ⟨z1,z2⟩)⟩
  ·have hro:cA st.look i r=some x:=by
    simp only [cA,hl]
    have hb:r.blt xs.length=true:=by simpa using hrl
    rw [hb,cI hx]
    rfl
   simp only [uc,ae,Prim.app,hro,ct,hl]
   exact q1
  ·rcases List.mem_cons.1 hm with hm | hm
   ·cases hm
    exact q3.1 b (.inr hb)
   ·refine q3.2 i' r' hm b ?_
    have:¬ (i'=i∧r'=r):=hne i' r' hm
    simp only [Gh.dT]
    rw [if_neg this]
    exact hb
end
end Go.Ab
end
section
namespace Go.Ab
open Go.RowKit
section
variable {P:Program} {E:Env} {C:Cal} {w0:Bs} {w w':World} {I0 I R:Nat→Prop} {g g':Gh} {st st':ASt} {a:Act} {ov:List Value} {look:Look} {Q:Exit→Act→World→Prop} {id:Nat}
variable {dst:Option Tmp} {type:TypeId} {pos:String} {after:Array Edge} {guard:Option (Nat × Bool)}
theorem nM (id r0:Nat) (x:TV) (agg:Bool):∀ (zs:List Value) (j m:Nat),(eh id r0 zs x agg j)[m]? = (zs[m]?).map fun z=>bif aC z then CA.sref id (r0 + (j + m)) [] else .t (bif agg then x.cell (j + m) else x)
 | [],j,m=>by simp [eh]
 | z :: zs,j,0=>by simp [eh]
 | z :: zs,j,m + 1=>by
  simp only [eh,List.getElem?_cons_succ,nM id r0 x agg zs (j + 1) m]
  rw [show j + 1 + m=j + (m + 1) by omega]
theorem nL (id r0:Nat) (x:TV) (agg:Bool):∀ (zs:List Value) (j:Nat),(eh id r0 zs x agg j).length=zs.length
 | [],j=>rfl
 | z :: zs,j=>by simp [eh,nL id r0 x agg zs (j + 1)]
theorem kH (x:TV) (agg:Bool):∀ (zs:List Value) (j m:Nat),(dH zs x agg j)[m]? = (zs[m]?).map fun z=>bif aC z then (bif agg then x.cell (j + m) else x) else .hole
 | [],j,m=>by simp [dH]
 | z :: zs,j,0=>by simp [dH]
 | z :: zs,j,m + 1=>by
  simp only [dH,List.getElem?_cons_succ,kH x agg zs (j + 1) m]
  rw [show j + 1 + m=j + (m + 1) by omega]
theorem fE (x:TV) (agg:Bool):∀ (zs:List Value) (j:Nat),(dH zs x agg j).length=zs.length
 | [],j=>rfl
 | z :: zs,j=>by simp [dH,fE x agg zs (j + 1)]
theorem am.aggs {cs:List TV} {v:Value} {S:Nat→Prop} (h:am w I (.agg cs) v S):∃ (vs:Array Value) (F:Nat→Nat→Prop),v=.agg vs∧vs.size=cs.length∧(∀ j,j < vs.size→(vs.getD j undef).oneCell'=true) ∧
  (∀ (j:Nat) (c:TV),cs[j]? = some c→am w I c (vs.getD j undef) (F j))∧(∀ j b,F j b→S b)∧∀ k k' b,F k b→F k' b→k=k':=by
 cases h with
 | fr h =>
  cases h with
  | agg hl h1 hr=>exact ⟨_,fun _ _=>False,rfl,hl,h1,fun j c hj=>.fr (hr j c hj),fun _ _ h=>h.elim,fun _ _ _ h=>h.elim⟩
 | agg F hl h1 hr hF hd=>exact ⟨_,F,rfl,hl,h1,hr,hF,hd⟩
theorem am.tups {cs:List TV} {v:Value} {S:Nat→Prop} (h:am w I (.tup cs) v S):∃ (vs:Array Value) (F:Nat→Nat→Prop),v=.tuple vs∧vs.size=cs.length ∧
  (∀ (j:Nat) (c:TV),cs[j]? = some c→am w I c (vs.getD j undef) (F j))∧(∀ j b,F j b→S b)∧∀ k k' b,F k b→F k' b→k=k':=by
 cases h with
 | fr h =>
  cases h with
  | tup hl hr=>exact ⟨_,fun _ _=>False,rfl,hl,fun j c hj=>.fr (hr j c hj),fun _ _ h=>h.elim,fun _ _ _ h=>h.elim⟩
 | tup F hl hr hF hd=>exact ⟨_,F,rfl,hl,hr,hF,hd⟩
theorem lK {T:Type} {t:TypeId} {d:TyD} (ht:bp P t d) {x:TV} {v:Value} {S:Nat→Prop} (hx:am w I x v S) {k:Prg T} {e:T} (h:(jF d x k).hits C e) :
  k.hits C e∧∃ (us:List Value) (F:Nat→Nat→Prop),us.length=d.zero.length∧(∀ r y,(dH d.zero x d.kd.isAgg 0)[r]? = some y→am w I y (us.getD r undef) (F r))∧(∀ r b,F r b→S b)∧(∀ r r' b,F r b→F r' b→r=r') ∧
   (∀ m z,d.zero[m]? = some z→aC z=true→mR (us.getD m undef)) ∧
   ∀ (g':Gh) (look':Look) (id r0:Nat),(∀ m z,d.zero[m]? = some z→aC z=true→bO w g' look' (.sref id (r0 + m) []) (us.getD m undef))→lL w g' look' d.kd.isAgg (eh id r0 d.zero x d.kd.isAgg 0) v:=by
 unfold jF at h
 cases hk:d.kd.isAgg with
 | true =>
  simp only [hk,cond_true] at h
  obtain ⟨h1,h⟩:=h
  refine ⟨h,?_⟩
  simp only [EM] at h1
  obtain ⟨h1,h2⟩:=h1
  cases x with
  | agg cs =>
   simp only [TV.isAgg,aJ] at h1
   obtain ⟨vs,F,rfl,hl,hone,hr,hF,hd⟩:=hx.aggs
   have hcell:∀ m z,d.zero[m]? = some z→∃ c,cs[m]? = some c∧(TV.agg cs).cell m=c∧(aC z=true→c.isSl=true)∧(aC z=false→c.isSc=true):=fun m z hz=>by
    obtain ⟨c,c1,c2,c3⟩:=jt h2 m z hz
    simp only [TV.cellsL,Nat.zero_add] at c1
    exact ⟨c,c1,by simp only [TV.cell]; exact cI c1,c2,c3⟩
   have hgd:∀ m,vs.toList.getD m undef=vs.getD m undef:=fun m=>by simp [EY,EX]
   refine ⟨vs.toList,F,by simp [hl,h1,ht.zlen],fun r y hy=>?_,hF,hd,fun m z hz hs=>?_,fun g' look' id r0 hrep=>⟨vs,rfl,by rw [nL]; simp [hl,h1,ht.zlen],fun j c u hc hu=>?_⟩⟩
   ·rw [kH] at hy
    cases hz:d.zero[r]? with
    | none=>simp [hz] at hy
    | some z =>
     obtain ⟨c,c1,c2,c3,c4⟩:=hcell r z hz
     simp only [hz,EW,EL,cond_true,Nat.zero_add] at hy
     rw [hgd]
     cases hs:aC z with
     | true =>
      simp only [hs,cond_true] at hy
      rw [← hy,c2]
      exact hr r c c1
     | false =>
      simp only [hs,cond_false] at hy
      rw [← hy]
      exact .fr (.hole _)
   ·obtain ⟨c,c1,c2,c3,c4⟩:=hcell m z hz
    rw [hgd]
    obtain ⟨a,n,cap,e⟩:=gq (hr m c c1) (c3 hs)
    exact ⟨a,n,cap,e⟩
   ·have hju:j < vs.size:=by have:=(EJ.1 hu).1; simpa using this
    have hgu:vs.getD j undef=u:=by rw [← hgd,EX,hu]; rfl
    refine ⟨?_,by rw [← hgu]; exact hone j hju⟩
    rw [nM] at hc
    cases hz:d.zero[j]? with
    | none=>simp [hz] at hc
    | some z =>
     obtain ⟨c',c1,c2,c3,c4⟩:=hcell j z hz
     simp only [hz,EW,EL,cond_true,Nat.zero_add] at hc
     cases hs:aC z with
     | true =>
      simp only [hs,cond_true] at hc
      rw [← hc,← hgu,← hgd]
      exact hrep j z hz hs
     | false =>
      simp only [hs,cond_false] at hc
      rw [← hc,c2]
      obtain ⟨e1,e2⟩:=gk (hr j c' c1) (c4 hs)
      rw [e1,hgu]
      rw [hgu] at e2
      exact ⟨.lit _,zI e2⟩
  | _=>simp [TV.isAgg] at h1
 | false =>
  simp only [hk,cond_false] at h
  obtain ⟨h1,h⟩:=h
  refine ⟨h,?_⟩
  have hz1:d.zero.length=1:=by rw [ht.zlen,ht.one hk]
  obtain ⟨z0,hz0⟩:∃ z0,d.zero=[z0]:=by
   cases hd:d.zero with
   | nil=>simp [hd] at hz1
   | cons z l=>simp [hd] at hz1; exact ⟨z,by rw [hz1]⟩
  obtain ⟨c,c1,c2,c3⟩:=jt h1 0 z0 (by rw [hz0]; rfl)
  simp [TV.cellsL] at c1
  subst c1
  have hone:v.oneCell'=true:=by
   cases hs:aC z0 with
   | true=>obtain ⟨a,n,cap,e⟩:=gq hx (c2 hs); rw [e]; rfl
   | false=>exact zI (gk hx (c3 hs)).2
  refine ⟨[v],fun r b=>r=0∧S b,by rw [hz0]; rfl,fun r y hy=>?_,fun r b h=>h.2,fun r r' b h h'=>by rw [h.1,h'.1],fun m z hz hs=>?_,fun g' look' id r0 hrep=>⟨_,by rw [hz0]; rfl,?_,hone⟩⟩
  ·rw [kH,hz0] at hy
   cases r with
   | zero =>
    simp at hy
    cases hs:aC z0 with
    | true=>simp [hs] at hy; subst hy; exact hx.mono (fun b hb=>⟨rfl,hb⟩)
    | false=>simp [hs] at hy; subst hy; exact .fr (.hole _)
   | succ r=>simp at hy
  ·rw [hz0] at hz
   cases m with
   | zero=>simp at hz; subst hz; obtain ⟨a,n,cap,e⟩:=gq hx (c2 hs); exact ⟨a,n,cap,e⟩
   | succ m=>simp at hz
  ·have hr0:=hrep 0 z0 (by rw [hz0]; rfl)
   cases hs:aC z0 with
   | true =>
    simpa using hr0 hs
   | false =>
    obtain ⟨e1,e2⟩:=gk hx (c3 hs)
    simp only [cond_false]
    rw [e1]
    exact ⟨.lit _,hone⟩
theorem kU {T:Type} {x:TV} {vals:Nat→Value} {G:Nat→Nat→Prop} (hG:∀ k k' b,G k b→G k' b→k=k') {k:Prg T} {e:T}:∀ (ds:List TyD) (j:Nat),(∀ d ∈ ds,∃ t,bp P t d)→(∀ m,m < ds.length→am w I (x.comp (j + m)) (vals (j + m)) (G (j + m)))→(gA x ds j k).hits C e →
  k.hits C e∧∃ (us:List Value) (F:Nat→Nat→Prop),us.length=(bn x ds j).length∧(∀ r y,(bn x ds j)[r]? = some y→am w I y (us.getD r undef) (F r))∧(∀ r b,F r b→∃ m,j≤m∧G m b)∧(∀ r r' b,F r b→F r' b→r=r') ∧
   ∀ (g':Gh) (look':Look) (id r0:Nat),(gN ds=true→∃ xs,look' id=some (.tree xs)∧∀ r y,(bn x ds j)[r]? = some y→xs[r0 + r]? = some y∧g'.ρ id (r0 + r)=us.getD r undef) →
    ∀ m b c,(dK id x ds j r0)[m]? = some (b,c)→lL w g' look' b c (vals (j + m))
 | [],j,hd,hr,h=>⟨h,[],fun _ _=>False,rfl,fun r y hy=>by simp [bn] at hy,fun _ _ h=>h.elim,fun _ _ _ h=>h.elim,fun g' look' id r0 _ m b c hc=>by simp [dK] at hc⟩
 | d :: ds, j, hd, hr, h => by
  obtain ⟨t,ht⟩:=hd d (by simp)
  have h0:=hr 0 (by simp)
  simp only [Nat.add_zero] at h0
  obtain ⟨h1,us1,F1,a1,a2,a3,a4,a5,a6⟩:=lK ht h0 h
  obtain ⟨h2,us2,F2,b1,b2,b3,b4,b5⟩:=kU hG ds (j + 1) (fun d' hm=>hd d' (ER _ hm)) (fun m hm=>by
   have:=hr (m + 1) (by simp; omega)
   rwa [show j + (m + 1)=j + 1 + m by omega] at this) h1
  have hlen:us1.length=(dH d.zero (x.comp j) d.kd.isAgg 0).length:=by rw [fE,a1]
  have getL:∀ r,r < us1.length→(us1 ++ us2).getD r undef=us1.getD r undef:=fun r hr=>by simp [EX,ET hr]
  have getR:∀ r,us1.length≤r→(us1 ++ us2).getD r undef=us2.getD (r - us1.length) undef:=fun r hr=>by simp [EX,EU hr]
  refine ⟨h2,us1 ++ us2,fun r b=>if r < us1.length then F1 r b else F2 (r - us1.length) b,by simp [bn,hlen,b1],fun r y hy=>?_,fun r b hb=>?_,fun r r' b hb hb'=>?_,fun g' look' id r0 hroot m bb c hc=>?_⟩
  ·simp only [bn] at hy
   by_cases hlt:r < us1.length
   ·rw [ET (by omega)] at hy
    rw [getL r hlt]
    simp only [hlt,if_true]
    exact a2 r y hy
   ·rw [EU (by omega),← hlen] at hy
    rw [getR r (by omega)]
    simp only [hlt,if_false]
    exact b2 _ y hy
  ·by_cases hlt:r < us1.length
   ·simp only [hlt,if_true] at hb
    exact ⟨j,Nat.le_refl _,a3 r b hb⟩
   ·simp only [hlt,if_false] at hb
    obtain ⟨m,m1,m2⟩:=b3 _ b hb
    exact ⟨m,by omega,m2⟩
  ·by_cases hlt:r < us1.length
   ·simp only [hlt,if_true] at hb
    by_cases hlt':r' < us1.length
    ·simp only [hlt',if_true] at hb'
     exact a4 r r' b hb hb'
    ·simp only [hlt',if_false] at hb'
     obtain ⟨m,m1,m2⟩:=b3 _ b hb'
     have:=hG j m b (a3 r b hb) m2
     omega
   ·simp only [hlt,if_false] at hb
    by_cases hlt':r' < us1.length
    ·simp only [hlt',if_true] at hb'
     obtain ⟨m,m1,m2⟩:=b3 _ b hb
     have:=hG j m b (a3 r' b hb') m2
     omega
    ·simp only [hlt',if_false] at hb'
     have:=b4 _ _ b hb hb'
     omega
  ·cases m with
   | zero =>
    simp only [dK,List.getElem?_cons_zero,EL,Prod.mk.injEq] at hc
    obtain ⟨rfl,rfl⟩:=hc
    refine a6 g' look' id r0 (fun q z hz hs=>?_)
    have hsl:gH d.zero=true:=by
     cases hh:gH d.zero with
     | true=>rfl
     | false=>rw [hU hh q z hz] at hs; cases hs
    obtain ⟨xs,l1,l2⟩:=hroot (by simp [gN,hsl])
    have hql:q < us1.length:=by rw [a1]; exact (EJ.1 hz).1
    obtain ⟨y,hy⟩:∃ y,(bn x (d :: ds) j)[q]? = some y:=⟨_,EK (by simp [bn,← hlen]; omega)⟩
    obtain ⟨l3,l4⟩:=l2 q y hy
    rw [getL q hql] at l4
    exact ⟨xs,y,y.nd,l1,l3,⟨l4.symm,rfl⟩,a5 q z hz hs⟩
   | succ m =>
    simp only [dK,List.getElem?_cons_succ] at hc
    have:=b5 g' look' id (r0 + d.zero.length) (fun hany=>by
     obtain ⟨xs,l1,l2⟩:=hroot (by simp only [gN,hany]; cases gH d.zero <;> rfl)
     refine ⟨xs,l1,fun r y hy=>?_⟩
     obtain ⟨l3,l4⟩:=l2 (d.zero.length + r) y (by simp only [bn]; rw [EU (by rw [fE]; omega),fE]; simpa using hy)
     rw [getR _ (by omega)] at l4
     rw [Nat.add_assoc]
     exact ⟨l3,by rw [l4]; congr 1; omega⟩) m bb c hc
    rwa [show j + 1 + m=j + (m + 1) by omega] at this
theorem ni (id:Nat) (x:TV):∀ (ds:List TyD) (j r0:Nat),(dK id x ds j r0).length=ds.length
 | [],j,r0=>rfl
 | d :: ds,j,r0=>by simp [dK,ni id x ds]
theorem pI {ps:List Prim} {st1:ASt} (hs:al w0 I0 R g st1 a ov w) (h1:ae dst ps st=some st1) (ho:st1.out.length=st.out.length) {ds:List TyD} (hds:∀ d ∈ ds,∃ t,bp P t d) {v:TV} {u:Value} {S:Nat→Prop}
  (hv:(∀ b,S b→R b)→am w g.I v u S∨(gN ds=false∧∃ I S,am w I v u S)) (hSR:∀ b,S b→R b) {e:Eff} (hh:(wd (st.nid dst) ds v ps).hits C e) (ha:e.app st dst=some st'):Sim w0 I0 st' (a.put dst u) ov w:=by
 have hv:=hv hSR
 have new:∀ (xs:List TV) (av:AV) (us:List Value) (F:Nat→Nat→Prop),(cV ps (.tree xs) av).app st dst=some st'→(∀ r y,xs[r]? = some y→am w g.I y (us.getD r undef) (F r))→(∀ r b,F r b→S b)→(∀ r r' b,F r b→F r' b→r=r') →
   (∀ g' look',look' (st.nid dst)=some (.tree xs)→(∀ r,g'.ρ (st.nid dst) r=us.getD r undef)→cm w g' look' av u)→Sim w0 I0 st' (a.put dst u) ov w:=by
  intro xs av us F ha hr hF hd hav
  obtain ⟨d,rfl,n1,n2,rfl⟩:=mg ha h1 ho
  obtain ⟨s1,s2⟩:=hs.mr (xs:=xs) n2 n1 hs.below (Nat.le_refl _) (fun _ _ _=>rfl) (fun r=>us.getD r undef) F hr (fun r b _ hb=>.inl (hSR b (hF r b hb))) (fun r r' b _ _ h h'=>hd r r' b h h')
  refine ⟨_,s1.put (some d) (hav _ _ ?_ (fun r=>by simp [Gh.j4]))⟩
  rw [ah,if_pos ⟨rfl,n2⟩]
 have plain:∀ (av:AV),(match ps with | []=>Eff.val av | _=>.gen ps av).app st dst=some st'→(∀ g' look',cm w g' look' av u)→Sim w0 I0 st' (a.put dst u) ov w:=by
  intro av ha hav
  have:st'=st1.put dst av:=by
   cases ps with
   | nil =>
    simp only [ae,EL] at h1
    subst h1
    simp only [Eff.app,EL] at ha
    exact ha.symm
   | cons p l =>
    simp only [Eff.app,h1,EL] at ha
    exact ha.symm
  subst this
  exact ⟨_,(hs.weaken (R':=NoR) (fun _ h=>h.elim)).put dst (hav _ _)⟩
 have single:∀ d:TyD,ds=[d]→Sim w0 I0 st' (a.put dst u) ov w:=by
  intro d e1
  subst e1
  obtain ⟨t,ht⟩:=hds d (by simp)
  simp only [wd] at hh
  rcases hv with hv | ⟨hany,I',S',hv⟩
  ·obtain ⟨hh,us,F,q1,q2,q3,q4,q5,q6⟩:=lK ht hv hh
   split at hh
   ·rename_i av hav
    cases hsl:gH d.zero with
    | true =>
     simp only [hsl,cond_true] at hh
     cases hh
     refine new _ av us F ha q2 q3 q4 (fun g' look' hl hρ=>cz hav (q6 g' look' _ 0 (fun m z hz hs=>?_)))
     have hlt:m < (dH d.zero v d.kd.isAgg 0).length:=by rw [fE]; exact (EJ.1 hz).1
     exact ⟨_,_,_,hl,by rw [Nat.zero_add]; exact EK hlt,⟨by rw [Nat.zero_add,hρ],rfl⟩,q5 m z hz hs⟩
    | false =>
     simp only [hsl,cond_false] at hh
     cases hh
     exact plain av ha (fun g' look'=>cz hav (q6 g' look' _ 0 (fun m z hz hs=>by rw [hU hsl m z hz] at hs; cases hs)))
   ·exact hh.elim
  ·obtain ⟨hh,us,F,q1,q2,q3,q4,q5,q6⟩:=lK ht hv hh
   have hsl:gH d.zero=false:=by
    simp only [gN] at hany
    cases hsl:gH d.zero with
    | true=>simp [hsl] at hany
    | false=>rfl
   split at hh
   ·rename_i av hav
    simp only [hsl,cond_false] at hh
    cases hh
    exact plain av ha (fun g' look'=>cz hav (q6 g' look' _ 0 (fun m z hz hs=>by rw [hU hsl m z hz] at hs; cases hs)))
   ·exact hh.elim
 have many:(Prg.chk (v.isTup ds.length) (gA v ds 0 (bif gN ds then .ret (cV ps (.tree (bn v ds 0)) (.tups (dK (st.nid dst) v ds 0 0)))
   else .ret (match ps with | []=>.val (.tups (dK (st.nid dst) v ds 0 0)) | _=>.gen ps (.tups (dK (st.nid dst) v ds 0 0)))))).hits C e→Sim w0 I0 st' (a.put dst u) ov w:=by
  rintro ⟨htup,hh⟩
  cases v with
  | tup cs =>
   simp only [TV.isTup,aJ] at htup
   have parts:∀ (I' S':Nat→Prop),am w I' (.tup cs) u S'→∃ (vs:Array Value) (G:Nat→Nat→Prop),u=.tuple vs∧vs.size=ds.length∧(∀ m,m < ds.length→am w I' ((TV.tup cs).comp (0 + m)) (vs.getD (0 + m) undef) (G (0 + m)))∧(∀ m b,G m b→S' b)∧(∀ k k' b,G k b→G k' b→k=k'):=by
    intro I' S' hv
    obtain ⟨vs,G,e1,e2,e3,e4,e5⟩:=hv.tups
    refine ⟨vs,G,e1,by rw [e2,htup],fun m hm=>?_,e4,e5⟩
    have hm':m < cs.length:=by omega
    rw [Nat.zero_add]
    have:(TV.tup cs).comp m=cs[m]:=by simp only [TV.comp]; exact cI (EK hm')
    rw [this]
    exact e3 m _ (EK hm')
   rcases hv with hv | ⟨hany,I',S',hv⟩
   ·obtain ⟨vs,G,rfl,p1,p2,p3,p4⟩:=parts _ _ hv
    obtain ⟨hh,us,F,q1,q2,q3,q4,q5⟩:=kU (vals:=fun m=>vs.getD m undef) (G:=G) p4 ds 0 hds p2 hh
    have tup:∀ g' look' ,(gN ds=true→∃ xs,look' (st.nid dst)=some (.tree xs)∧∀ r y,(bn (.tup cs) ds 0)[r]? = some y→xs[0 + r]? = some y∧g'.ρ (st.nid dst) (0 + r)=us.getD r undef)→cm w g' look' (.tups (dK (st.nid dst) (.tup cs) ds 0 0)) (.tuple vs):=by
     intro g' look' hroot
     refine ⟨vs,rfl,by rw [ni,p1],fun j b c hj=>?_⟩
     have:=q5 g' look' _ 0 hroot j b c hj
     rwa [Nat.zero_add] at this
    cases hany:gN ds with
    | true =>
     simp only [hany,cond_true] at hh
     cases hh
     refine new _ _ us F ha q2 (fun r b hb=>by obtain ⟨m,_,hm⟩:=q3 r b hb; exact p3 m b hm) q4 (fun g' look' hl hρ=>tup g' look' (fun _=>⟨_,hl,fun r y hy=>?_⟩))
     rw [Nat.zero_add]
     exact ⟨hy,hρ r⟩
    | false =>
     simp only [hany,cond_false] at hh
     cases hh
     exact plain _ ha (fun g' look'=>tup g' look' (fun h=>by rw [hany] at h; cases h))
   ·obtain ⟨vs,G,rfl,p1,p2,p3,p4⟩:=parts _ _ hv
    obtain ⟨hh,us,F,q1,q2,q3,q4,q5⟩:=kU (vals:=fun m=>vs.getD m undef) (G:=G) p4 ds 0 hds p2 hh
    simp only [hany,cond_false] at hh
    cases hh
    refine plain _ ha (fun g' look'=>⟨vs,rfl,by rw [ni,p1],fun j b c hj=>?_⟩)
    have:=q5 g' look' _ 0 (fun h=>by rw [hany] at h; cases h) j b c hj
    rwa [Nat.zero_add] at this
  | _=>simp [TV.isTup] at htup
 match ds,hh,single,many with
 | [],hh,_,many=>exact many hh
 | [d],hh,single,_=>exact single d rfl
 | d :: d' :: l,hh,_,many=>exact many hh
theorem rH (hE:∀ t d,E.T t=some d→bp P t d):∀ {ts:List TypeId} {ds:List TyD},mu E.T ts=some ds→∀ d ∈ ds,∃ t,bp P t d
 | [],ds,h=>by simp [mu] at h; subst h; simp
 | t :: ts, ds, h => by
  simp only [mu] at h
  split at h
  ·rename_i d ds' h1 h2
   cases h
   intro d' hm
   rcases List.mem_cons.1 hm with hm | hm
   ·subst hm; exact ⟨t,hE _ _ h1⟩
   ·exact rH hE h2 d' hm
  ·cases h
def sd (P:Program) (G:Laid) (E:Env) (C:Cal):Prop:=∀ f xs r,C f xs r→(E.peek f=none→(E.lent f=none→yG P G f xs r∧(E.pure f=true→isOwn r=true))∧∀ ld,E.lent f=some ld→Df P G ld f xs r)∧∀ c,E.peek f=some c→Dl P G c f xs r
theorem sr:∀ (l:List CA) (j:Nat),(unMays l)[j]? = (l[j]?).map CA.EG
 | [],j=>by simp [unMays]
 | c :: l,0=>rfl
 | c :: l,j + 1=>by simp [unMays,sr l j]
theorem sa (l:List CA):(unMays l).length=l.length:=by
 induction l with
 | nil=>rfl
 | cons c l ih=>simp [unMays,ih]
theorem t7 (l:List CA):(junks l).length=l.length:=by
 induction l with
 | nil=>rfl
 | cons c l ih=>simp [junks,ih]
theorem lW:∀ (l:List CA),∀ c ∈ junks l,c=.junk
 | []=>by simp [junks]
 | c :: l=>by simp only [junks,List.mem_cons]; rintro c (rfl | h); rfl; exact lW l c h
theorem CR.unMays {cs:List CA} {vs:List Value} (h:CR w g look cs vs):CR w g look (Ab.unMays cs) vs:=by
 refine ⟨by rw [sa]; exact h.1,fun j c u hc hu=>?_⟩
 rw [sr] at hc
 cases hj:cs[j]? with
 | none=>simp [hj] at hc
 | some c' =>
  simp only [hj,EW,EL] at hc
  subst hc
  obtain ⟨h1,h2⟩:=h.2 j c' u hj hu
  refine ⟨?_,h2⟩
  cases c' with
  | may i ty=>exact ⟨.hole _,h2⟩
  | _=>exact h1
def nR (f:Fl) (x:TV):Prop:=match f with | .sc=>x.isSc=true | .sl=>x.isSl=true | .may=>x.eF=true | .bf e=>x.xU e=true | .any=>x.la=true
theorem wq {x:TV} {e:Nat} (h:x.xU e=true):∃ s,x=.buf s e:=by
 cases x with
 | buf s e'=>exact ⟨s,by rw [(aJ _ _).1 h]⟩
 | _=>simp [TV.xU] at h
theorem tH {w:World} {I:Nat→Prop} {x:TV} {e:Nat} {v:Value} {S:Nat→Prop} (h:am w I x v S) (hx:x.xU e=true):mR v:=by
 obtain ⟨s,rfl⟩:=wq hx
 cases h with
 | fr h=>cases h; exact ⟨_,_,_,rfl⟩
 | buf h _ =>
  rcases h.2 with ⟨rfl,_⟩ | ⟨g,cap,cur,fz,rfl,_⟩
  ·exact ⟨_,_,_,rfl⟩
  ·exact ⟨_,_,_,rfl⟩
theorem kx:∀ {fl:List Fl} {xs:List TV},oc fl xs=true→fl.length=xs.length∧∀ (k:Nat) (f:Fl) (x:TV),fl[k]? = some f→xs[k]? = some x→nR f x
 | [],[],_=>⟨rfl,fun k f x hf=>by simp at hf⟩
 | [],_ :: _,h=>by simp [oc] at h
 | _ :: _,[],h=>by simp [oc] at h
 | f :: fl,x :: xs,h=>by
  simp only [oc,EM] at h
  obtain ⟨h1,h2⟩:=kx h.2
  refine ⟨by simp [h1],fun k f' x' hf hx=>?_⟩
  cases k with
  | zero=>simp at hf hx; subst hf hx; cases f <;> exact h.1
  | succ k=>simp at hf hx; exact h2 k f' x' hf hx
theorem qB {i:Nat} {ty:TypeId}:∀ {fl:List Fl} {cs:List CA},mP i ty fl cs=true→fl.length=cs.length∧∀ (k:Nat) (c:CA),cs[k]? = some c→fl[k]? = some .may→c=.may i ty
 | [],[],_=>⟨rfl,fun k c hc=>by simp at hc⟩
 | [],_ :: _,h=>by simp [mP] at h
 | _ :: _,[],h=>by simp [mP] at h
 | f :: fl, c :: cs, h => by
  simp only [mP,EM] at h
  obtain ⟨h1,h2⟩:=qB h.2
  refine ⟨by simp [h1],fun k c' hc hf=>?_⟩
  cases k with
  | zero =>
   simp at hf hc
   subst hf hc
   have h0:=h.1
   cases c with
   | may j t =>
    simp only [EM,aJ] at h0
    rw [h0.1,h0.2]
   | _=>simp at h0
  | succ k=>simp at hf hc; exact h2 k c' hc hf
theorem rP:∀ (fl:List Fl) (xs:List TV),fl.length=xs.length→∀ (k:Nat) (c:TV),(jz fl xs)[k]? = some c→(fl[k]? = some .may∧c=Ef)∨(∃ f,fl[k]? = some f∧f≠.may∧xs[k]? = some c) ∨
  (∃ e x,fl[k]? = some (.bf e)∧c=.buf .empty e∧xs[k]? = some x∧kw x=true)
 | [],[],_,k,c,h=>by simp [jz] at h
 | [],_ :: _,h,_,_,_=>by simp at h
 | _ :: _,[],h,_,_,_=>by simp at h
 | f :: fl, x :: xs, hl, 0, c, h => by
  cases f with
  | bf e =>
   cases hn:kw x <;> simp [jz,Eu,hn] at h <;> subst h <;> simp [hn]
  | _=>simp [jz] at h <;> subst h <;> simp
 | f :: fl,x :: xs,hl,k + 1,c,h=>by
  simp only [jz,List.getElem?_cons_succ] at h
  simpa using rP fl xs (by simpa using hl) k c h
theorem mO:∀ (fl:List Fl) (xs:List TV),fl.length=xs.length→(jz fl xs).length=xs.length
 | [],[],_=>rfl
 | [],_ :: _,h=>by simp at h
 | _ :: _,[],h=>by simp at h
 | f :: fl,x :: xs,hl=>by simp [jz,mO fl xs (by simpa using hl)]
theorem wV {f:Fl} {x:TV} (h:nR f x) (hf:f≠.may):x.eF=false:=by
 cases f with
 | may=>exact absurd rfl hf
 | sc=>cases x <;> simp [nR,TV.isSc,TV.eF] at h ⊢
 | sl=>cases x <;> simp [nR,TV.isSl,TV.eF] at h ⊢
 | bf e=>obtain ⟨s,rfl⟩:=wq h; rfl
 | any=>cases x <;> simp [nR,TV.la,TV.eF] at h ⊢
theorem qq (v:TV):∀ (n j k:Nat),(gB v n j)[k]? = if k < n then some (v.comp (j + k)) else none
 | 0,j,k=>by simp [gB]
 | n + 1,j,0=>by simp [gB]
 | n + 1,j,k + 1=>by
  simp only [gB,List.getElem?_cons_succ,qq v n (j + 1) k]
  by_cases h:k < n
  ·rw [if_pos h,if_pos (by omega),show j + 1 + k=j + (k + 1) by omega]
  ·rw [if_neg h,if_neg (by omega)]
theorem Ay (cs:List TV):gB (.tup cs) cs.length 0=cs:=by
 apply List.ext_getElem?
 intro k
 rw [qq]
 by_cases h:k < cs.length
 ·rw [if_pos h,Nat.zero_add]
  simp [TV.comp,bj,EK h]
 ·rw [if_neg h,EV (by omega)]
theorem rX:∀ {l l':List (Nat × Nat)},dl (l ++ l')=true→dl l=true∧dl l'=true∧∀ i r,(i,r) ∈ l'→ie i r l=false
 | [],l',h=>⟨rfl,h,fun i r _=>rfl⟩
 | (i,r) :: l,l',h=>by
  simp only [List.cons_append,dl,EM,Bool.not_eq_true'] at h
  obtain ⟨h1,h2,h3⟩:=rX h.2
  have hn:=h.1
  rw [da] at hn
  refine ⟨by simp only [dl,EM,Bool.not_eq_true']; exact ⟨by rw [da]; exact fun hm=>hn (List.mem_append_left _ hm),h1⟩,h2,fun i' r' hm=>?_⟩
  rw [da]
  intro h4
  rcases List.mem_cons.1 h4 with h4 | h4
  ·cases h4; exact hn (List.mem_append_right _ hm)
  ·have:=h3 i' r' hm; rw [da] at this; exact this h4
theorem rR {T T':Type} {d:TyD} {x:TV} {k:Prg T} {e:T} (h:(jF d x k).hits C e):k.hits C e∧∀ (k':Prg T') (e':T'),k'.hits C e'→(jF d x k').hits C e':=by
 unfold jF at h ⊢
 cases hd:d.kd.isAgg with
 | true =>
  rw [hd] at h
  obtain ⟨h1,h2⟩:=h
  exact ⟨h2,fun k' e' h'=>⟨h1,h'⟩⟩
 | false =>
  rw [hd] at h
  obtain ⟨h1,h2⟩:=h
  exact ⟨h2,fun k' e' h'=>⟨h1,h'⟩⟩
theorem qe {T T':Type} {x:TV} {k:Prg T} {e:T}:∀ {ds:List TyD} {j:Nat},(gA x ds j k).hits C e→k.hits C e∧∀ (k':Prg T') (e':T'),k'.hits C e'→(gA x ds j k').hits C e'
 | [],j,h=>⟨h,fun k' e' h'=>h'⟩
 | d :: l,j,h=>by
  obtain ⟨h1,h2⟩:=rR (T':=T') h
  obtain ⟨h3,h4⟩:=qe (T':=T') h1
  exact ⟨h3,fun k' e' h'=>h2 _ _ (h4 k' e' h')⟩
theorem AB {id:Nat} {ds:List TyD} {v:TV} {k:AV→Out} {e:Eff} (hsl:gN ds=false) (h:(C7 id ds v k).hits C e):∃ av,(wd id ds v []).hits C (.val av)∧(k av).hits C e:=by
 unfold C7 at h
 split at h
 ·rename_i d
  have hd:gH d.zero=false:=by simpa [gN] using hsl
  obtain ⟨h1,h2⟩:=rR (T':=Eff) h
  split at h1
  ·rename_i av hav
   refine ⟨av,?_,h1⟩
   unfold wd
   refine h2 _ _ ?_
   rw [hav]
   simp only [hd,cond_false]
   rfl
  ·exact h1.elim
 ·rename_i hne
  obtain ⟨h1,h2⟩:=h
  obtain ⟨h3,h4⟩:=qe (T':=Eff) h2
  refine ⟨_,?_,h3⟩
  unfold wd
  split
  ·rename_i d; exact absurd rfl (hne d)
  ·refine ⟨h1,h4 _ _ ?_⟩
   simp only [hsl,cond_false]
   rfl
def Fl.rooted:Fl→Bool
 | .sl=>true
 | .bf _=>true
 | _=>false
theorem mU:∀ (fl:List Fl) (xs:List TV),fl.length=xs.length→∀ (k:Nat) (y:TV),(cY fl xs)[k]? = some y→y=.hole∨(∃ f,fl[k]? = some f∧f.rooted=true∧xs[k]? = some y)
 | [],[],_,k,c,h=>by simp [cY] at h
 | [],_ :: _,h,_,_,_=>by simp at h
 | _ :: _,[],h,_,_,_=>by simp at h
 | f :: fl,x :: xs,hl,0,c,h=>by
  cases f <;> simp [cY] at h <;> subst h <;> simp [Fl.rooted]
 | f :: fl,x :: xs,hl,k + 1,c,h=>by
  simp only [cY,List.getElem?_cons_succ] at h
  simpa using mU fl xs (by simpa using hl) k c h
theorem jU:∀ (fl:List Fl) (xs:List TV) (k:Nat) (c:TV) (f:Fl),f.rooted=true→fl[k]? = some f→xs[k]? = some c→(cY fl xs)[k]? = some c
 | [],_,k,c,_,_,h,_=>by simp at h
 | _ :: _,[],k,c,_,_,_,h=>by simp at h
 | f :: fl,x :: xs,0,c,f',hf,h,h'=>by simp at h h'; subst h h'; cases f <;> simp [Fl.rooted] at hf <;> rfl
 | f :: fl,x :: xs,k + 1,c,f',hf,h,h'=>by
  simp only [cY,List.getElem?_cons_succ] at h h' ⊢
  exact jU fl xs k c f' hf h h'
theorem j5 {f:Fl} {x:TV} (hf:f.rooted=true) (h:nR f x):x.eF=false:=wV h (fun e=>by rw [e] at hf; cases hf)
theorem rr:∀ (fl:List Fl) (xs:List TV),fl.length=xs.length→(cY fl xs).length=xs.length
 | [],[],_=>rfl
 | [],_ :: _,h=>by simp at h
 | _ :: _,[],h=>by simp at h
 | f :: fl,x :: xs,hl=>by simp [cY,rr fl xs (by simpa using hl)]
def Et (i t:Nat) (ty:TypeId) (f:Fl) (x:TV) (r:Nat):CA:=match f with | .sc=>.t x | .sl=>.sref t r [] | .may=>.may i ty | .bf _=>.sref t r [] | .any=>.t x
theorem sD (i t:Nat) (ty:TypeId):∀ (fl:List Fl) (xs:List TV),fl.length=xs.length→∀ (r k:Nat) (d:CA),(gc i t ty fl xs r)[k]? = some d→∃ f c,fl[k]? = some f∧xs[k]? = some c∧d=Et i t ty f c (r + k)
 | [],[],_,r,k,d,h=>by simp [gc] at h
 | [],_ :: _,h,_,_,_,_=>by simp at h
 | _ :: _,[],h,_,_,_,_=>by simp at h
 | f :: fl,x :: xs,hl,r,0,d,h=>by
  simp [gc] at h
  subst h
  exact ⟨f,x,rfl,rfl,by cases f <;> rfl⟩
 | f :: fl,x :: xs,hl,r,k + 1,d,h=>by
  simp only [gc,List.getElem?_cons_succ] at h ⊢
  obtain ⟨f',c,h1,h2,h3⟩:=sD i t ty fl xs (by simpa using hl) (r + 1) k d h
  exact ⟨f',c,h1,h2,by rw [h3,show r + 1 + k=r + (k + 1) by omega]⟩
theorem rl (i t:Nat) (ty:TypeId):∀ (fl:List Fl) (xs:List TV),fl.length=xs.length→∀ r,(gc i t ty fl xs r).length=xs.length
 | [],[],_,r=>rfl
 | [],_ :: _,h,_=>by simp at h
 | _ :: _,[],h,_=>by simp at h
 | f :: fl,x :: xs,hl,r=>by simp [gc,rl i t ty fl xs (by simpa using hl)]
theorem te {i t:Nat} {ty:TypeId} {fl:List Fl} {xs:List TV} {vs:List Value} (hv:vs.length=xs.length) (hl:fl.length=xs.length) (hok:∀ (k:Nat) (f:Fl) (x:TV),fl[k]? = some f→xs[k]? = some x→nR f x)
  (h:∀ (k:Nat) (f:Fl) (c:TV),fl[k]? = some f→xs[k]? = some c→nR f c→∃ v,vs[k]? = some v∧v.oneCell'=true∧bO w g look (Et i t ty f c k) v):CR w g look (gc i t ty fl xs 0) vs:=by
 refine ⟨by rw [rl _ _ _ _ _ hl]; exact hv,fun k d u hd hu=>?_⟩
 obtain ⟨f,c,h1,h2,h3⟩:=sD i t ty fl xs hl 0 k d hd
 obtain ⟨v,h4,h5,h6⟩:=h k f c h1 h2 (hok k f c h1 h2)
 rw [hu] at h4
 cases h4
 rw [Nat.zero_add] at h3
 rw [h3]
 exact ⟨h6,h5⟩
theorem xm (hC : sd P w0.G E C) (hE : ∀ t d, E.T t = some d → bp P t d) (hlk : ∀ i b, look i = some b → st.look i = some b) (hs : al w0 I0 NoR g st a ov w) {f : FuncId} {ld : fh} (hpk : E.peek f = none) (hld : E.lent f = some ld) {args : Array Operand} {tys : Array TypeId} {cal : Operand} {e : Eff}
  (hres:∀ vals:Array Value,vals=args.map a.eval→(callFunc f vals).run P w=.ok (.enter f vals) w→(execOp a.eval ⟨dst,.call ⟨.value cal,args,tys⟩,type,pos,after,guard⟩).run P w=.ok (.enter f vals) w)
  (hh:(ow E (st.nid dst) look f ld (args.toList.map st.ev)).hits C e) (ha:e.app st dst=some st'):Good P w0 I0 ov ⟨dst,.call ⟨.value cal,args,tys⟩,type,pos,after,guard⟩ st' a w Q:=by
 have hgd:∀ m,(args.toList.map a.eval).getD m undef=(args.map a.eval).getD m undef:=fun m=>by simp [EY,EX]
 unfold ow at hh
 split at hh
 ·rename_i i rest hargs
  obtain ⟨x0,xs0,hal,hx0,hrest⟩:∃ x0 xs0,args.toList=x0 :: xs0∧st.ev x0=.one (.ptr i 0)∧xs0.map st.ev=rest:=by
   cases hal:args.toList with
   | nil=>rw [hal] at hargs; simp at hargs
   | cons x0 xs0=>rw [hal] at hargs; simp only [List.map_cons,List.cons.injEq] at hargs; exact ⟨x0,xs0,rfl,hargs.1,hargs.2⟩
  split at hh
  ·rename_i cs ds hl hds
   cases hchk0:gN ds || !mP i ld.ty ld.fl cs with
   | true=>rw [hchk0] at hh; exact hh.elim
   | false =>
    rw [hchk0] at hh
    simp only [cond_false] at hh
    simp only [Bool.or_eq_false_iff,Bool.not_eq_false'] at hchk0
    obtain ⟨hnsl,hmf⟩:=hchk0
    subst hrest
    obtain ⟨xs,rs,hh,hroots,hlen,hrep⟩:=nl hlk hs (hs.evs xs0) hh
    have hl2:=hlk i _ hl
    obtain ⟨vs,ty,hheap,hcr⟩:=hs.cells i cs hl2
    obtain ⟨gd,hh,hgl,hgdk⟩:=gS hlk hs hcr.unMays hh
    rw [sa] at hgl
    cases hchk1:dl (gd.flatMap Gd.ts ++ rs) with
    | false=>rw [hchk1] at hh; exact hh.elim
    | true =>
     rw [hchk1] at hh
     simp only [cond_true] at hh
     have hnd:=hchk1
     obtain ⟨hfit,hh⟩:=hh
     obtain ⟨hnd1,hnd2,hnd3⟩:=rX hnd
     obtain ⟨r,hc,hchk2,hh⟩:=hh
     obtain ⟨av,hans,hh⟩:=AB hnsl hh
     cases hh
     obtain ⟨mfl,mfs⟩:=qB hmf
     have hfl:ld.fl.length=(gd.map Gd.y).length:=by rw [mfl]; simp [hgl]
     obtain ⟨ffl,ffs⟩:=kx hfit
     obtain ⟨st2,g2,R2,F,p1,p2,p3,p4,p5,p6,p7,p8⟩:=eD (dst:=dst) gd hs (by rw [hcr.1,hgl]) hgdk hnd1
     have hroots2:Roots st2.look rs:=fun k q hm=>by
      obtain ⟨ys,y,r1,r2⟩:=hroots k q hm
      obtain ⟨ys1,r3,r4,_⟩:=p4.root k q ys y (hnd3 k q hm) r1 r2
      exact ⟨ys1,y,r3,r4⟩
     obtain ⟨st3,g3,q1,q2,q3,q4,q5⟩:=km (dst:=dst) rs p2 hroots2 hnd2
     obtain ⟨cs1,c1,c2,c3⟩:=p4.cells i cs hl2
     obtain ⟨c4,c5⟩:=q5 i cs1 c1
     have hβ:g3.β i=g.β i:=c5.trans c3
     have hI3:∀ b,g.I b→g3.I b:=fun b hb=>q3.1 b (by rw [p3]; exact hb)
     have hH:ij g rs g3.I:=⟨hI3,fun k q hm b hb=>by
      obtain ⟨ys,y,r1,r2⟩:=hroots k q hm
      obtain ⟨_,_,_,_,r3⟩:=p4.root k q ys y (hnd3 k q hm) r1 r2
      exact q3.2 k q hm b (by rw [r3]; exact hb)⟩
     have hfi3:Foot g3 st3.look i (g.β i):=.inl ⟨cs1,c4,hβ.symm⟩
     have hheap3:w.heap[g3.β i]? = some (.cells vs ty (0,0)):=by rw [hβ]; exact hheap
     have hvl:vs.size=cs.length:=by simpa using hcr.1
     have hone:∀ u ∈ vs.toList,u.oneCell'=true:=fun u hu=>by
      obtain ⟨m,hm,rfl⟩:=List.mem_iff_getElem.1 hu
      exact (hcr.2 m (cs[m]'(by have:=hcr.1; omega)) _ (EK _) (EK hm)).2
     have j1:=q2.eM c4 (cs':=junks cs) (vs':=vs) (ty:=ty) q2.below (Nat.le_refl _) (fun _ _=>rfl) hheap3 ⟨_,_,hheap3⟩ ⟨by rw [t7]; exact hcr.1,fun j c u hc' hu=>by
      have:=lW cs c (ES hc')
      subst this
      exact ⟨trivial,hone u (ES hu)⟩⟩
     have hlk4:(st3.ac i (some (.cells (junks cs)))).look i=some (.cells (junks cs)):=by rw [ah,if_pos ⟨rfl,gE c4⟩]
     obtain ⟨ys,args',r0,cs',e1,e2,hcv⟩:=((hC f _ r hc).1 hpk).2 ld hld
     simp only [List.cons.injEq,TV.tup.injEq] at e1
     obtain ⟨e1,e3⟩:=e1
     subst e1 e3 e2
     simp only [EM] at hchk2
     obtain ⟨⟨_,hcl⟩,hfit2⟩:=hchk2
     have hcl:cs'.length=ld.fl.length:=by simpa [TV.isTup,TV.comp,nth] using hcl
     have hcomp:gB ((TV.tup [r0,.tup cs']).comp 1) ld.fl.length 0=cs':=by
      rw [← hcl]
      exact Ay cs'
     rw [hcomp] at hfit2 ha
     obtain ⟨ffl2,ffs2⟩:=kx hfit2
     have hty:∀ k,ld.fl[k]? = some Fl.may→ty=ld.ty∧(vs.getD k undef=.pointer none∨vs.getD k undef=.pointer (some ⟨g.β i,0,none⟩)):=fun k hk=>by
      have hkl:k < cs.length:=by rw [← mfl]; exact (EJ.1 hk).1
      have hck:cs[k]? = some (cs[k]'hkl):=EK hkl
      have he:=mfs k _ hck hk
      have hvk:vs.toList[k]? = some (vs.getD k undef):=by
       rw [EN,Array.getElem?_eq_getElem (by omega)]; simp [hvl,hkl]
      have:=(hcr.2 k _ _ hck hvk).1
      rw [he] at this
      obtain ⟨_,_,⟨us,fr,ht⟩,hv⟩:=this
      rw [hheap] at ht
      cases ht
      exact ⟨rfl,hv⟩
     have hFi:∀ k b,F k b→b≠g.β i:=fun k b hb e=>(q2.foot i _ hfi3).2.2.2 (by rw [← e]; exact (p7 k b hb).1)
     have hvals:(args.map a.eval).size=xs.length + 1:=by
      have:args.size=args.toList.length:=by simp
      rw [Array.size_map,this,hal]
      simp [hlen]
     obtain ⟨hcf,hcalls⟩:=hcv g3.I w (g.β i) (args.map a.eval) (fun b=>b=g.β i∨∃ k,F k b) (q2.laid (fun _ h=>h)) q2.lt (fun b hb=>by
       rcases hb with rfl | ⟨k,hb⟩
       ·exact ⟨(q2.foot i _ hfi3).2.1,(q2.foot i _ hfi3).2.2.1⟩
       ·exact ⟨(q2.res b (p7 k b hb).1).2.1,(q2.res b (p7 k b hb).1).2.2⟩)
      ⟨.inl rfl, vs, ty, F, hheap, by rw [mO _ _ hfl, hvl]; simp [hgl], fun k c hk => by
       have hkl:k < cs.length:=by
        have:=(EJ.1 hk).1
        rw [mO _ _ hfl] at this
        simpa [hgl] using this
       have hvk:vs.toList[k]? = some (vs.getD k undef):=by
        rw [EN,Array.getElem?_eq_getElem (by omega)]; simp [hvl,hkl]
       have hok:(vs.getD k undef).oneCell'=true:=hone _ (ES hvk)
       rcases rP _ _ hfl k c hk with ⟨h1,rfl⟩ | ⟨f',h1,h2,h3⟩ | ⟨e',x',h1,rfl,h3,h4⟩
       ·exact ⟨.inl ⟨rfl,(hty k h1).2⟩,hok,fun _=>(hty k h1).1⟩
       ·have hm:=wV (ffs k f' c h1 hk) h2
        rw [EP] at h3
        cases hgk:gd[k]? with
        | none=>simp [hgk] at h3
        | some d =>
         simp only [hgk,EW,EL] at h3
         subst h3
         refine ⟨.inr ⟨hm,(p6 k d _ hgk hvk).1.mv (fun _ _=>rfl) hI3 (fun _ _=>rfl) (fun _ h=>h)⟩,hok,fun h=>by rw [hm] at h; cases h⟩
       ·rw [EP] at h3
        cases hgk:gd[k]? with
        | none=>simp [hgk] at h3
        | some d =>
         simp only [hgk,EW,EL] at h3
         subst h3
         have hv:=xk h4 (p6 k d _ hgk hvk).1
         rw [hv]
         exact ⟨.inr ⟨rfl,.fr (.buf e' rfl)⟩,rfl,fun h=>by cases h⟩,
       fun k b hb=>⟨.inr ⟨k,hb⟩,hFi k b hb⟩,p8⟩
      (by rw [hvals]; simp) (by
       have:(args.map a.eval).getD 0 undef=a.eval x0:=by rw [← hgd,hal]; rfl
       rw [this]
       have hr0:=hs.ev x0
       rw [hx0] at hr0
       obtain ⟨_,_,hv⟩:=hr0
       exact hv)
      (fun j x hx => by
       rw [← hgd,hal]
       exact hrep g3.I hH j x hx)
     unfold Good Oper.wp
     rw [hres _ rfl hcf]
     simp only [Oper.upon]
     refine hcalls.mono ?_
     rintro e w' ⟨v,rfl,hbel,I',L',S,i1,i2,i3,i4,hr0,hrv⟩
     obtain ⟨hLb,vs',ty',F',h1',h2',h3',h4',h5'⟩:=hrv
     have hone':∀ u ∈ vs'.toList,u.oneCell'=true:=fun u hu=>by
      obtain ⟨m,hm,rfl⟩:=List.mem_iff_getElem.1 hu
      have hm':m < vs'.size:=by simpa using hm
      have:=(h3' m (cs'[m]'(by omega)) (EK _)).2.1
      simpa [hm'] using this
     have gb:=j1.Eo (R':=fun b=>∃ k,F' k b) (I':=I') (L:=fun b=>b=g.β i∨∃ k,F k b) (vs:=vs') (ty:=ty') hlk4 (lW cs) (fun b hb=>by
       rcases hb with rfl | ⟨k,hb⟩
       ·exact .inl hβ.symm
       ·exact .inr (p7 k b hb).1) hbel (by rw [hβ]; exact h1') (by rw [t7,h2',hcl,mfl]) hone' i1 i2 i3 (by rw [hβ]; exact (i4 _ hLb).2.2) (fun b hb=>by
        obtain ⟨k,hb⟩:=hb
        obtain ⟨f1,f2⟩:=h4' k b hb
        obtain ⟨f3,f4,f5⟩:=i4 b f1
        refine ⟨?_,f4,f5,by rw [hβ]; exact f2⟩
        rcases f3 with f3 | f3 | ⟨k',f3⟩
        ·exact .inr f3
        ·exact absurd f3 f2
        ·exact .inl (p7 k' b f3).1)
     have ho3:st3.out.length=st.out.length:=q4.trans p4.out
     obtain ⟨s4,hs4⟩:∃ s4,s4=(st3.ac i (some (.cells (junks cs)))).az (CA.unM i):=⟨_,rfl⟩
     rw [← hs4] at gb
     have hlk4':s4.look i=some (.cells (junks cs)):=by
      rw [hs4,aN,hlk4]
      simp only [EW,BC.bu,jB (lW cs)]
     simp only [Eff.app,cQ,p1,Option.bind_some,q1] at ha
     simp only [ae,Prim.app,c4] at ha
     rw [← hs4] at ha
     cases dst with
     | none=>simp at ha
     | some d =>
      simp only [] at ha
      have hnid:s4.nid (some d)=st.nid (some d):=by
       have:s4.out.length=st.out.length:=by
        rw [hs4]
        simp only [ASt.az,bC]
        exact ho3
       simp only [ASt.nid,this]
      rw [hnid] at ha
      cases hab:s4.bB (st.nid (some d)) (.tree (cY ld.fl cs')) with
      | none=>simp [hab] at ha
      | some s5 =>
       obtain ⟨n1,n2,n3⟩:=bk hab
       subst n3
       rw [hab] at ha
       have hne:st.nid (some d)≠i:=fun e=>by rw [e,hlk4'] at n1; cases n1
       have hlk5:(s4.ac (st.nid (some d)) (some (.tree (cY ld.fl cs')))).look i=some (.cells (junks cs)):=by
        rw [ah,if_neg (fun h=>hne h.1)]; exact hlk4'
       simp only [hlk5,EL] at ha
       obtain ⟨t1,t2⟩:=gb.mr (xs:=cY ld.fl cs') n2 n1 gb.below (Nat.le_refl _) (fun _ _ _=>rfl) (fun k=>vs'.getD k undef) F' (fun k y hy=>by
         rcases mU _ _ ffl2 k y hy with rfl | ⟨f6,h6,h6',h7⟩
         ·exact .fr (.hole _)
         ·rcases (h3' k y h7).1 with ⟨h8,_⟩ | ⟨_,h8⟩
          ·rw [j5 h6' (ffs2 k f6 y h6 h7)] at h8
           cases h8
          ·exact h8) (fun k b _ hb=>.inl ⟨k,hb⟩) (fun k k' b _ _ h h'=>h5' k k' b h h')
       have t3:=t1.eM hlk5 (cs':=gc i (st.nid (some d)) ld.ty ld.fl cs' 0) (vs':=vs') (ty:=ty') t1.below (Nat.le_refl _) (fun _ _=>rfl) (by
         show w'.heap[g3.β i]? = _
         rw [hβ]; exact h1') ⟨vs',(0,0),by
         show w'.heap[g3.β i]? = _
         rw [hβ]; exact h1'⟩ (te (by simp [h2']) ffl2 ffs2 (fun k f' c hk hc hf=>?_))
       ·subst ha
        have hsn:(((s4.ac (st.nid (some d)) (some (.tree (cY ld.fl cs')))).ac i (some (.cells (gc i (st.nid (some d)) ld.ty ld.fl cs' 0)))).nid (some d))=st.nid (some d):=hnid
        exact pI (ps:=[]) t3 rfl rfl (rH hE hds) (S:=fun _=>False) (fun _=>.inr ⟨hnsl,_,_,hr0⟩) (fun _ h=>h.elim) (by rw [hsn]; exact hans) rfl
       ·have hvk:vs'.toList[k]? = some (vs'.getD k undef):=by
         have:k < vs'.size:=by rw [h2']; exact (EJ.1 hc).1
         rw [EN,Array.getElem?_eq_getElem this]; simp [this]
        obtain ⟨g1,g2',g3'⟩:=h3' k c hc
        refine ⟨_,hvk,g2',?_⟩
        cases f' with
        | sc =>
         rcases g1 with ⟨h8,_⟩ | ⟨_,h8⟩
         ·cases c <;> simp [nR,TV.isSc,TV.eF] at hf h8
         ·obtain ⟨e1,e2⟩:=gk h8 hf
          exact ⟨by rw [e1]; exact .lit _,g2'⟩
        | any =>
         rcases g1 with ⟨h8,_⟩ | ⟨_,h8⟩
         ·cases c <;> simp [nR,TV.la,TV.eF] at hf h8
         ·exact ⟨jW h8 hf,g2'⟩
        | sl =>
         rcases g1 with ⟨h8,_⟩ | ⟨_,h8⟩
         ·cases c <;> simp [nR,TV.isSl,TV.eF] at hf h8
         ·refine ⟨cY ld.fl cs',c,c.nd,by rw [ah,if_pos ⟨rfl,n2⟩],jU _ _ k c .sl rfl hk hc,⟨by simp [Gh.j4],rfl⟩,gq h8 hf⟩
        | bf e' =>
         rcases g1 with ⟨h8,_⟩ | ⟨_,h8⟩
         ·rw [j5 (f:=.bf e') rfl hf] at h8; cases h8
         ·refine ⟨cY ld.fl cs',c,c.nd,by rw [ah,if_pos ⟨rfl,n2⟩],jU _ _ k c (.bf e') rfl hk hc,⟨by simp [Gh.j4],rfl⟩,tH h8 hf⟩
        | may =>
         rcases g1 with ⟨h8m,h8⟩ | ⟨h8,_⟩
         ·refine ⟨_,hlk5,⟨vs',(0,0),?_⟩,?_⟩
          ·show w'.heap[g3.β i]? = _
           rw [hβ,← g3' h8m]; exact h1'
          ·show _∨_=Value.pointer (some ⟨g3.β i,0,none⟩)
           rw [hβ]; exact h8
         ·rw [hf] at h8; cases h8
  ·exact hh.elim
 ·exact hh.elim
theorem lf_rep {I':Nat→Prop} {x:TV} {v:Value} (h:Rep w I x v):Rep w I' x.lf v:=by
 cases h with
 | lit v=>exact .lit v
 | _=>exact .hole _
theorem zD:∀ (l:List TV) (j:Nat),(lfL l)[j]? = (l[j]?).map TV.lf
 | [],j=>by simp [lfL]
 | c :: l,0=>rfl
 | c :: l,j + 1=>by simp [lfL,zD l j]
theorem yX (l:List TV):(lfL l).length=l.length:=by
 induction l with
 | nil=>rfl
 | cons c l ih=>simp [lfL,ih]
theorem AT {I':Nat→Prop} {x:TV} {v:Value} (h:Rep w I x v):Rep w I' (Cs x) v:=by
 cases h with
 | lit v=>exact .lit v
 | agg hl h1 hr =>
  refine .agg (by rw [yX]; exact hl) h1 (fun j c hj=>?_)
  rw [zD] at hj
  rename_i cs vs
  cases hc:cs[j]? with
  | none=>rw [hc] at hj; cases hj
  | some y =>
   rw [hc] at hj
   simp only [EW,EL] at hj
   subst hj
   exact lf_rep (hr j y hc)
 | _=>exact .hole _
theorem uQ:∀ (l:List TV) (j:Nat),(qp l)[j]? = (l[j]?).map Cs
 | [],j=>by simp [qp]
 | c :: l,0=>rfl
 | c :: l,j + 1=>by simp [qp,uQ l j]
theorem vo (l:List TV):(qp l).length=l.length:=by
 induction l with
 | nil=>rfl
 | cons c l ih=>simp [qp,ih]
theorem wn (hC:sd P w0.G E C) (hlk:∀ i b,look i=some b→st.look i=some b) (hs:al w0 I0 NoR g st a ov w) {f:FuncId} {c:Nat × Nat} (hpk:E.peek f=some c) {args:Array Operand} {tys:Array TypeId} {cal:Operand} {e:Eff}
  (hres:∀ vals:Array Value,vals=args.map a.eval→(callFunc f vals).run P w=.ok (.enter f vals) w→(execOp a.eval ⟨dst,.call ⟨.value cal,args,tys⟩,type,pos,after,guard⟩).run P w=.ok (.enter f vals) w)
  (hh:(nN look f c (args.toList.map st.ev)).hits C e) (ha:e.app st dst=some st'):Good P w0 I0 ov ⟨dst,.call ⟨.value cal,args,tys⟩,type,pos,after,guard⟩ st' a w Q:=by
 have hgd:∀ m,(args.toList.map a.eval).getD m undef=(args.map a.eval).getD m undef:=fun m=>by simp [EY,EX]
 unfold nN at hh
 split at hh
 ·rename_i i rest hargs
  obtain ⟨x0,xs0,hal,hx0,hrest⟩:∃ x0 xs0,args.toList=x0 :: xs0∧st.ev x0=.one (.ptr i 0)∧xs0.map st.ev=rest:=by
   cases hal:args.toList with
   | nil=>rw [hal] at hargs; simp at hargs
   | cons x0 xs0=>rw [hal] at hargs; simp only [List.map_cons,List.cons.injEq] at hargs; exact ⟨x0,xs0,rfl,hargs.1,hargs.2⟩
  split at hh
  ·rename_i cs hl
   split at hh
   ·rename_i x hc
    subst hrest
    have hcn:cs.length=c.2:=by
     cases hb:cs.length.beq c.2 with
     | true=>exact (aJ _ _).1 hb
     | false=>rw [hb] at hh; exact hh.elim
    rw [hcn,Nat.beq_refl] at hh
    simp only [cond_true] at hh
    obtain ⟨xs,⟨r,hcall,hh⟩,hlen,hrep⟩:=m6 hlk hs (hs.evs xs0) hh
    cases hh
    have hl2:=hlk i _ hl
    obtain ⟨vs,ty,hheap,hcr⟩:=hs.cells i cs hl2
    have hvl:vs.size=cs.length:=by simpa using hcr.1
    have hcl:c.1 < cs.length:=by
     rcases Nat.lt_or_ge c.1 cs.length with h' | h'
     ·exact h'
     ·rw [bj,EV h'] at hc; cases hc
    have hcc:cs[c.1]? = some (.t x):=by rw [bj,EK hcl] at hc; rw [EK hcl]; simpa using hc
    have hvk:vs.toList[c.1]? = some (vs.getD c.1 undef):=by
     rw [EN,Array.getElem?_eq_getElem (by omega)]; simp [hvl,hcl]
    have hrx:=(hcr.2 c.1 _ _ hcc hvk).1.1
    have hfi:Foot g st.look i (g.β i):=.inl ⟨cs,hl2,rfl⟩
    have hone:∀ u ∈ vs.toList,u.oneCell'=true:=fun u hu=>by
     obtain ⟨m,hm,rfl⟩:=List.mem_iff_getElem.1 hu
     exact (hcr.2 m (cs[m]'(by have:=hcr.1; omega)) _ (EK _) (EK hm)).2
    have hvals:(args.map a.eval).size=(x :: qp xs).length:=by
     have:args.size=args.toList.length:=by simp
     rw [Array.size_map,this,hal]
     simp [hlen,vo]
    obtain ⟨x',args',e1,hcp⟩:=(hC f _ r hcall).2 c hpk
    simp only [List.cons.injEq] at e1
    obtain ⟨rfl,rfl⟩:=e1
    obtain ⟨hcf,hcalls⟩:=hcp g.I w (g.β i) vs ty (args.map a.eval) (hs.laid (fun _ h=>h)) hs.lt hheap hone (hs.foot i _ hfi).2.2.1 (by omega) (by omega) (hs.foot i _ hfi).2.1 hrx hvals (by
      have:(args.map a.eval).getD 0 undef=a.eval x0:=by rw [← hgd,hal]; rfl
      rw [this]
      have hr0:=hs.ev x0
      rw [hx0] at hr0
      obtain ⟨_,_,hv⟩:=hr0
      exact hv) (fun j y hy=>by
      rw [← hgd,hal]
      rw [uQ] at hy
      cases hz:xs[j]? with
      | none=>rw [hz] at hy; cases hy
      | some z =>
       rw [hz] at hy
       simp only [EW,EL] at hy
       subst hy
       exact AT (hrep _ ⟨hs.lt,fun i b h=>(hs.foot i b h).2.1⟩ j z hz))
    simp only [Eff.app,EL] at ha
    subst ha
    unfold Good Oper.wp
    rw [hres _ rfl hcf]
    simp only [Oper.upon]
    refine hcalls.mono ?_
    rintro e w' ⟨v,rfl,hb,I2,i1,i2,i3,hv⟩
    have hg:=hs.grow hb (I':=I2) (R':=NoR) i1 i2 i3 (fun b h=>h.elim)
    exact ⟨_,hg.put dst (v:=.tv r) hv⟩
   ·exact hh.elim
  ·exact hh.elim
 ·exact hh.elim
theorem xn (hC:sd P w0.G E C) (hE:∀ t d,E.T t=some d→bp P t d) (hlk:∀ i b,look i=some b→st.look i=some b) (hs:al w0 I0 NoR g st a ov w) {f:FuncId} {args:Array Operand} {tys:Array TypeId} {cal:Operand} {e:Eff}
  (hres:∀ vals:Array Value,vals=args.map a.eval→(callFunc f vals).run P w=.ok (.enter f vals) w→(execOp a.eval ⟨dst,.call ⟨.value cal,args,tys⟩,type,pos,after,guard⟩).run P w=.ok (.enter f vals) w)
  (hh:(mI E (st.nid dst) look f (args.toList.map st.ev)).hits C e) (ha:e.app st dst=some st'):Good P w0 I0 ov ⟨dst,.call ⟨.value cal,args,tys⟩,type,pos,after,guard⟩ st' a w Q:=by
 cases hpk:E.peek f with
 | some c =>
  simp only [mI,hpk] at hh
  exact wn hC hlk hs hpk hres hh ha
 | none =>
 cases hnl:E.lent f with
 | some ld =>
  simp only [mI,hpk,hnl] at hh
  exact xm hC hE hlk hs hpk hnl hres hh ha
 | none =>
 have hevs:=hs.evs args.toList
 have hgd:∀ m,(args.toList.map a.eval).getD m undef=(args.map a.eval).getD m undef:=fun m=>by simp [EY,EX]
 have wpc:∀ {next:Act→World→Prop} {xs:List TV} {r:TV} (I':Nat→Prop),C f xs r→xs.length=(args.toList.map st.ev).length→w0.G.P w I'→(∀ b,I' b→b < w.heap.size)→(∀ (j:Nat) (x:TV),xs[j]? = some x→Rep w I' x ((args.toList.map a.eval).getD j undef)) →
   (∀ v w' I2 S,Below w.heap.size w w'→(∀ b,I' b→I2 b)→(∀ b,I2 b→b < w'.heap.size)→(∀ b,b < w.heap.size→I2 b→I' b)→(∀ b,S b→w.heap.size≤b∧b < w'.heap.size∧¬ I2 b)→am w' I2 r v S→next (a.put dst v) w') →
   Oper.wp P ⟨dst,.call ⟨.value cal,args,tys⟩,type,pos,after,guard⟩ a w next Q:=by
  intro next xs r I' hc hl hG hlt hrep hn
  obtain ⟨hcf,hcalls⟩:=(((hC f xs r hc).1 hpk).1 hnl).1 I' w (args.map a.eval) hG hlt (by rw [hl]; simp) (fun j x hx=>by rw [← hgd]; exact hrep j x hx)
  unfold Oper.wp
  rw [hres _ rfl hcf]
  simp only [Oper.upon]
  refine hcalls.mono ?_
  rintro e w' ⟨v,rfl,hb,I2,S,h1,h2,h3,h4,h5⟩
  exact hn v w' I2 S hb h1 h2 h3 h4 h5
 simp only [mI,hpk,hnl] at hh
 split at hh
 ·rename_i ds hds
  have htys:=rH hE hds
  cases hp:E.pure f || !gN ds with
  | true =>
   simp only [hp,cond_true] at hh
   obtain ⟨xs,⟨r,hc,hh⟩,hl,hrep⟩:=m6 hlk hs hevs hh
   refine wpc (fun b=>b < w.heap.size) hc hl (hs.laid hs.lt) (fun _ h=>h) (hrep _ ⟨hs.lt,fun i b h=>(hs.foot i b h).2.1⟩) (fun v w' I2 S hb i1 i2 i3 i4 hv=>?_)
   have hnI:∀ b,S b→¬ g.I b:=fun b hb h=>by have:=hs.lt b h; have:=(i4 b hb).1; omega
   have hg:=hs.grow hb (I':=g.I) (R':=S) (fun _ h=>h) (fun b h=>Nat.lt_of_lt_of_le (hs.lt b h) hb.size) (fun _ _ h=>h) (fun b h=>.inr ⟨(i4 b h).1,(i4 b h).2.1,hnI b h⟩)
   refine pI (ps:=[]) hg rfl rfl htys (fun _=>?_) (fun _ h=>h) hh ha
   cases hpu:E.pure f with
   | true=>exact .inl (hv.own ((((hC f xs r hc).1 hpk).1 hnl).2 hpu))
   | false =>
    simp only [hpu,Bool.false_or,Bool.not_eq_true'] at hp
    exact .inr ⟨hp,_,_,hv⟩
  | false =>
   simp only [hp,cond_false] at hh
   obtain ⟨xs,rs,hh,hroots,hl,hrep⟩:=nl hlk hs hevs hh
   cases hn:dl rs with
   | false=>simp [hn,Prg.hits] at hh
   | true =>
    simp only [hn,cond_true] at hh
    obtain ⟨r,hc,hh⟩:=hh
    obtain ⟨st1,g1,f1,f2,f3,f4,_⟩:=km (dst:=dst) rs hs hroots hn
    refine wpc g1.I hc hl (f2.laid (fun _ h=>h)) f2.lt (hrep _ f3) (fun v w' I2 S hb i1 i2 i3 i4 hv=>?_)
    have hg:=f2.grow hb (I':=I2) (R':=S) i1 i2 i3 (fun b h=>.inr (i4 b h))
    exact pI (ps:=uc rs) hg f1 f4 htys (fun _=>.inl hv) (fun _ h=>h) hh ha
 ·exact hh.elim
theorem DX (hC:sd P w0.G E C) (hE:∀ t d,E.T t=some d→bp P t d) (hlk:∀ i b,look i=some b→st.look i=some b) (hs:al w0 I0 NoR g st a ov w) {f:FuncId} {args:Array Operand} {tys:Array TypeId} {fv:AV} {e:Eff}
  (hh:(opL E (st.nid dst) look (.call ⟨.value (.func f),args,tys⟩) (fv :: args.toList.map st.ev)).hits C e) (ha:e.app st dst=some st'):Good P w0 I0 ov ⟨dst,.call ⟨.value (.func f),args,tys⟩,type,pos,after,guard⟩ st' a w Q:=by
 refine xn hC hE hlk hs (fun vals hv hcf=>?_) hh ha
 subst hv
 simp only [execOp,resolve,Act.eval,Deferred.ofValue,Sem.run_bind,Sem.run_pure,Result.andThen_ok,invoke]
 simpa using hcf
end
end Go.Ab
end

/- States of the machine over closed values, and what they stand for in memory. No condition. -/
import Derived.Test.YtpoidnkgadhdmaaM3b
namespace Go.Ab
open Go.RowKit
set_option linter.unusedVariables false

/-- What is known of memory: the blocks that stand for good; of a tree the values of its roots and their blocks; of a variable its block. -/
structure Gh where
  I : Nat → Prop
  ρ : Nat → Nat → Value
  β : Nat → Nat
  φ : Nat → Nat → Nat → Prop

def IsSl (v : Value) : Prop := ∃ a l c, v = .slice a l c

def WinOk (nd : Option (Nat × Nat)) (lo len : Nat) (u v : Value) : Prop :=
  match nd with
  | some (s, n) => lo + len ≤ n ∧ v = cut s lo len u
  | none => lo = 0 ∧ len = 0 ∧ u = nilV ∧ v = nilV

/-- A block of a type. -/
def TyAt (w : World) (b : Nat) (ty : TypeId) : Prop := ∃ vs fr, w.heap[b]? = some (.cells vs ty fr)

def RepC (w : World) (g : Gh) (look : Look) : CA → Value → Prop
  | .t x, v => Rep w g.I x v ∧ v.oneCell' = true
  | .ptr i off, v => ∃ cs, look i = some (.cells cs) ∧ v = .pointer (some ⟨g.β i, off, none⟩)
  | .ref x off, v => ∃ (a : Addr) (cell : Nat → Value), v = .pointer (some (a.add off)) ∧ g.I a.block ∧
      ∀ (j : Nat) (c : TV), x[j]? = some c → w.cell? (a.add j) = some (cell j) ∧ (cell j).oneCell' = true ∧ Rep w g.I c (cell j)
  | .tptr i r p k j, v => ∃ xs x a l cap s n, look i = some (.tree xs) ∧ xs[r]? = some x ∧ Node w p x (g.ρ i r) (.slice (some a) l cap) (some (s, n)) ∧ k < n ∧ v = .pointer (some (a.add (k * s + j)))
  | .sref i r p, v => ∃ xs x nd, look i = some (.tree xs) ∧ xs[r]? = some x ∧ Node w p x (g.ρ i r) v nd ∧ IsSl v
  | .swin i r p lo len, v => ∃ xs x u nd, look i = some (.tree xs) ∧ xs[r]? = some x ∧ Node w p x (g.ρ i r) u nd ∧ IsSl u ∧ WinOk nd lo len u v
  | .may i ty, v => ∃ cs, look i = some (.cells cs) ∧ TyAt w (g.β i) ty ∧ (v = .pointer none ∨ v = .pointer (some ⟨g.β i, 0, none⟩))
  | .aptr i off len n, v => ∃ cs, look i = some (.cells cs) ∧ n < len ∧ v = .pointer (some ⟨g.β i, off + n, none⟩)
  | .undef, v => v = undef
  | .junk, _ => True

/-- Cells stand for cells. -/
def CR (w : World) (g : Gh) (look : Look) (cs : List CA) (vs : List Value) : Prop :=
  vs.length = cs.length ∧ ∀ (j : Nat) (c : CA) (u : Value), cs[j]? = some c → vs[j]? = some u → RepC w g look c u ∧ u.oneCell' = true

def RepCs (w : World) (g : Gh) (look : Look) : Bool → List CA → Value → Prop
  | true, cs, v => ∃ vs : Array Value, v = .agg vs ∧ CR w g look cs vs.toList
  | false, cs, v => ∃ c, cs = [c] ∧ RepC w g look c v ∧ v.oneCell' = true

def RepA (w : World) (g : Gh) (look : Look) : AV → Value → Prop
  | .one c, v => RepC w g look c v
  | .agg cs, v => RepCs w g look true cs v
  | .tv x, v => Rep w g.I x v
  | .bl b, v => v = .bool b
  | .tups l, v => ∃ vs : Array Value, v = .tuple vs ∧ vs.size = l.length ∧ ∀ (j : Nat) (b : Bool) (c : List CA), l[j]? = some (b, c) → RepCs w g look b c (vs.getD j undef)

/-- The place of a tree that a cell leads to may be asked for still. -/
def CA.okP (ok : Nat → Nat → Way → Prop) : CA → Prop
  | .tptr i r p _ _ => ok i r p
  | .sref i r p => ok i r p
  | .swin i r p _ _ => ok i r p
  | _ => True

structure Mv (ok : Nat → Nat → Way → Prop) (w : World) (g : Gh) (look : Look) (w' : World) (g' : Gh) (look' : Look) : Prop where
  heap : ∀ b, g.I b → w'.heap[b]? = w.heap[b]?
  sub : ∀ b, g.I b → g'.I b
  cells : ∀ i cs, look i = some (.cells cs) → ∃ cs', look' i = some (.cells cs') ∧ g'.β i = g.β i
  tyAt : ∀ i cs ty, look i = some (.cells cs) → TyAt w (g.β i) ty → TyAt w' (g.β i) ty
  tree : ∀ i r p xs x v nd, look i = some (.tree xs) → xs[r]? = some x → ok i r p → IsSl v → Node w p x (g.ρ i r) v nd → ∃ xs' x', look' i = some (.tree xs') ∧ xs'[r]? = some x' ∧ Node w' p x' (g'.ρ i r) v nd

section
variable {w w' : World} {g g' : Gh} {look look' : Look} {ok : Nat → Nat → Way → Prop}

theorem RepC.mv (m : Mv ok w g look w' g' look') : ∀ {c : CA} {v : Value}, c.okP ok → RepC w g look c v → RepC w' g' look' c v
  | .t x, v, _, ⟨h, h1⟩ => ⟨h.mv m.heap m.sub, h1⟩
  | .ptr i off, v, _, ⟨cs, hl, hv⟩ => by
    obtain ⟨cs', h1, h2⟩ := m.cells i cs hl
    exact ⟨cs', h1, by rw [h2]; exact hv⟩
  | .ref x off, v, _, ⟨a, cell, hv, hI, h⟩ =>
    ⟨a, cell, hv, m.sub _ hI, fun j c hj => ⟨by rw [← (h j c hj).1]; exact World.cell?_of_block (by rw [add_block]; exact m.heap _ hI), (h j c hj).2.1, (h j c hj).2.2.mv m.heap m.sub⟩⟩
  | .tptr i r p k j, v, ho, ⟨xs, x, a, l, cap, s, n, hl, hx, hn, hk, hv⟩ => by
    obtain ⟨xs', x', h1, h2, h3⟩ := m.tree i r p xs x _ _ hl hx ho ⟨_, _, _, rfl⟩ hn
    exact ⟨xs', x', a, l, cap, s, n, h1, h2, h3, hk, hv⟩
  | .sref i r p, v, ho, ⟨xs, x, nd, hl, hx, hn, hv⟩ => by
    obtain ⟨xs', x', h1, h2, h3⟩ := m.tree i r p xs x _ _ hl hx ho hv hn
    exact ⟨xs', x', nd, h1, h2, h3, hv⟩
  | .swin i r p lo len, v, ho, ⟨xs, x, u, nd, hl, hx, hn, hu, hw⟩ => by
    obtain ⟨xs', x', h1, h2, h3⟩ := m.tree i r p xs x _ _ hl hx ho hu hn
    exact ⟨xs', x', u, nd, h1, h2, h3, hu, hw⟩
  | .may i ty, v, _, ⟨cs, hl, ht, hv⟩ => by
    obtain ⟨cs', h1, h2⟩ := m.cells i cs hl
    exact ⟨cs', h1, by rw [h2]; exact m.tyAt i cs ty hl ht, by rw [h2]; exact hv⟩
  | .aptr i off len n, v, _, ⟨cs, hl, hn, hv⟩ => by
    obtain ⟨cs', h1, h2⟩ := m.cells i cs hl
    exact ⟨cs', h1, hn, by rw [h2]; exact hv⟩
  | .undef, v, _, h => h
  | .junk, v, _, h => h

theorem mapC_get (f : CA → CA) : ∀ (l : List CA) (j : Nat), (mapC f l)[j]? = (l[j]?).map f
  | [], j => by simp [mapC]
  | c :: l, 0 => rfl
  | c :: l, j + 1 => by simp [mapC, mapC_get f l j]
theorem mapC_len (f : CA → CA) (l : List CA) : (mapC f l).length = l.length := by
  induction l with
  | nil => rfl
  | cons c l ih => simp [mapC, ih]
theorem mapT_get (f : CA → CA) : ∀ (l : List (Bool × List CA)) (j : Nat), (mapT f l)[j]? = (l[j]?).map fun p => (p.1, mapC f p.2)
  | [], j => by simp [mapT]
  | (b, c) :: l, 0 => rfl
  | (b, c) :: l, j + 1 => by simp [mapT, mapT_get f l j]
theorem mapT_len (f : CA → CA) (l : List (Bool × List CA)) : (mapT f l).length = l.length := by
  induction l with
  | nil => rfl
  | cons c l ih => obtain ⟨b, c⟩ := c; simp [mapT, ih]
theorem mapAs_get (f : CA → CA) : ∀ (l : List AV) (j : Nat), (mapAs f l)[j]? = (l[j]?).map (AV.mapA f)
  | [], j => by simp [mapAs]
  | c :: l, 0 => rfl
  | c :: l, j + 1 => by simp [mapAs, mapAs_get f l j]
theorem mapAs_len (f : CA → CA) (l : List AV) : (mapAs f l).length = l.length := by
  induction l with
  | nil => rfl
  | cons c l ih => simp [mapAs, ih]
theorem mapBs_get (f : CA → CA) : ∀ (l : List (Option BC)) (j : Nat), (mapBs f l)[j]? = (l[j]?).map (Option.map (BC.mapB f))
  | [], j => by simp [mapBs]
  | some b :: l, 0 => rfl
  | none :: l, 0 => rfl
  | some b :: l, j + 1 => by simp [mapBs, mapBs_get f l j]
  | none :: l, j + 1 => by simp [mapBs, mapBs_get f l j]
theorem mapBs_len (f : CA → CA) (l : List (Option BC)) : (mapBs f l).length = l.length := by
  induction l with
  | nil => rfl
  | cons c l ih => cases c <;> simp [mapBs, ih]
theorem mapC_id (l : List CA) : mapC id l = l := by
  induction l with
  | nil => rfl
  | cons c l ih => simp [mapC, ih]
theorem mapA_id (v : AV) : v.mapA id = v := by
  cases v with
  | tups l =>
    have : ∀ l : List (Bool × List CA), mapT id l = l := fun l => by
      induction l with
      | nil => rfl
      | cons c l ih => obtain ⟨b, c⟩ := c; simp [mapT, ih, mapC_id]
    simp [AV.mapA, this]
  | _ => simp [AV.mapA, mapC_id]

theorem CR.mapC {f : CA → CA} (hf : ∀ c v, RepC w g look c v → RepC w' g' look' (f c) v) {cs : List CA} {vs : List Value} (h : CR w g look cs vs) : CR w' g' look' (Ab.mapC f cs) vs := by
  refine ⟨by rw [mapC_len]; exact h.1, fun j c u hc hu => ?_⟩
  rw [mapC_get] at hc
  cases hj : cs[j]? with
  | none => simp [hj] at hc
  | some c' =>
    simp only [hj, Option.map_some, Option.some.injEq] at hc
    subst hc
    exact ⟨hf _ _ (h.2 j c' u hj hu).1, (h.2 j c' u hj hu).2⟩
theorem RepCs.mapC {f : CA → CA} (hf : ∀ c v, RepC w g look c v → RepC w' g' look' (f c) v) : ∀ {b : Bool} {cs : List CA} {v : Value}, RepCs w g look b cs v → RepCs w' g' look' b (Ab.mapC f cs) v
  | true, cs, v, ⟨vs, h1, h2⟩ => ⟨vs, h1, h2.mapC hf⟩
  | false, cs, v, ⟨c, h1, h2, h3⟩ => ⟨f c, by rw [h1]; rfl, hf _ _ h2, h3⟩
theorem RepA.mapA {f : CA → CA} (hf : ∀ c v, RepC w g look c v → RepC w' g' look' (f c) v) (hh : ∀ b, g.I b → w'.heap[b]? = w.heap[b]?) (hI : ∀ b, g.I b → g'.I b) :
    ∀ {x : AV} {v : Value}, RepA w g look x v → RepA w' g' look' (x.mapA f) v
  | .one c, v, h => hf c v h
  | .agg cs, v, h => RepCs.mapC (b := true) hf h
  | .tv x, v, h => Rep.mv hh hI h
  | .bl b, v, h => h
  | .tups l, v, ⟨vs, h1, h2, h3⟩ => by
    refine ⟨vs, h1, by rw [mapT_len]; exact h2, fun j b c hj => ?_⟩
    rw [mapT_get] at hj
    cases hl : l[j]? with
    | none => simp [hl] at hj
    | some p =>
      obtain ⟨b', c'⟩ := p
      simp only [hl, Option.map_some, Option.some.injEq, Prod.mk.injEq] at hj
      obtain ⟨rfl, rfl⟩ := hj
      exact (h3 j b' c' hl).mapC hf
theorem RepA.mv (m : Mv (fun _ _ _ => True) w g look w' g' look') {x : AV} {v : Value} (h : RepA w g look x v) : RepA w' g' look' x v := by
  have := h.mapA (f := id) (w' := w') (g' := g') (look' := look') (fun c v hc => RepC.mv m (by cases c <;> trivial) hc) m.heap m.sub
  rwa [mapA_id] at this
theorem CR.mv (m : Mv (fun _ _ _ => True) w g look w' g' look') {cs : List CA} {vs : List Value} (h : CR w g look cs vs) : CR w' g' look' cs vs := by
  have := h.mapC (f := id) (w' := w') (g' := g') (look' := look') (fun c v hc => RepC.mv m (by cases c <;> trivial) hc)
  rwa [mapC_id] at this
end

/-- The blocks of a variable or a tree. -/
def Foot (g : Gh) (look : Look) (i b : Nat) : Prop := (∃ cs, look i = some (.cells cs) ∧ b = g.β i) ∨ ∃ xs r, look i = some (.tree xs) ∧ r < xs.length ∧ g.φ i r b

/-- Something that hangs on blocks that stand for good. -/
structure Laid where
  P : World → (Nat → Prop) → Prop
  mv : ∀ {w w' : World} {I I' : Nat → Prop}, (∀ b, I b → w'.heap[b]? = w.heap[b]?) → (∀ b, I b → I' b) → P w I → P w' I'
/-- Memory as it was ahead, and the blocks of it that were lent. -/
structure Bs where
  w : World
  L : Nat → Prop
  /-- What is laid in memory for good. -/
  G : Laid
def Bs.New (B : Bs) (b : Nat) : Prop := B.w.heap.size ≤ b ∨ B.L b
/-- What was not lent is as it was. -/
structure Bs.Bel (B : Bs) (w' : World) : Prop where
  os : w'.os = B.w.os
  tape : w'.tape = B.w.tape
  output : w'.output = B.w.output
  size : B.w.heap.size ≤ w'.heap.size
  block : ∀ k, k < B.w.heap.size → ¬ B.L k → w'.heap[k]? = B.w.heap[k]?
theorem Bs.Bel.refl (B : Bs) : B.Bel B.w := ⟨rfl, rfl, rfl, Nat.le_refl _, fun _ _ _ => rfl⟩
theorem Bs.New.of_le {B : Bs} {w : World} (h : B.Bel w) {b : Nat} (hb : w.heap.size ≤ b) : B.New b := .inl (Nat.le_trans h.size hb)
theorem Bs.Bel.step {B : Bs} {w w' : World} (h : B.Bel w) (k : Below w.heap.size w w') : B.Bel w' :=
  ⟨k.os.trans h.os, k.tape.trans h.tape, k.output.trans h.output, Nat.le_trans h.size k.size, fun i hi hl => (k.block i (Nat.lt_of_lt_of_le hi h.size)).trans (h.block i hi hl)⟩
theorem Bs.Bel.but {B : Bs} {w w' : World} (h : B.Bel w) (ho : w'.os = w.os) (ht : w'.tape = w.tape) (hu : w'.output = w.output) (hs : w.heap.size ≤ w'.heap.size) (k : ∀ i, i < w.heap.size → ¬ B.New i → w'.heap[i]? = w.heap[i]?) : B.Bel w' :=
  ⟨ho.trans h.os, ht.trans h.tape, hu.trans h.output, Nat.le_trans h.size hs, fun i hi hl => (k i (Nat.lt_of_lt_of_le hi h.size) (fun e => e.elim (fun e => by omega) hl)).trans (h.block i hi hl)⟩
theorem Bs.Bel.setRow {B : Bs} {w : World} {g : Nat} (h : B.Bel w) (hg : B.New g) (cs : Array Value) : B.Bel (w.setRow g cs) :=
  h.but rfl rfl rfl (by simp [World.setRow]) fun i _ hi => setRow_other w g i cs (fun e => hi (e ▸ hg))

def Bs.Ok (B : Bs) (I0 : Nat → Prop) : Prop := (∀ b, I0 b → b < B.w.heap.size ∧ ¬ B.L b) ∧ B.G.P B.w I0

structure SimI (w0 : Bs) (I0 R : Nat → Prop) (g : Gh) (st : ASt) (a : Act) (ov : List Value) (w : World) : Prop where
  below : w0.Bel w
  sub : ∀ b, I0 b → g.I b
  lt : ∀ b, g.I b → b < w.heap.size
  old : ∀ b, ¬ w0.New b → g.I b → I0 b
  len : a.tmps.size = st.slots.length
  defers : a.defers = []
  slots : ∀ (t : Nat) (v : AV), st.slots[t]? = some v → RepA w g st.look v (a.tmps.getD t undef)
  olen : ov.length = st.out.length
  outs : ∀ (t : Nat) (v : AV), st.out[t]? = some v → RepA w g st.look v (ov.getD t undef)
  cells : ∀ (i : Nat) (cs : List CA), st.look i = some (.cells cs) → ∃ vs ty, w.heap[g.β i]? = some (.cells vs ty (0, 0)) ∧ CR w g st.look cs vs.toList
  trees : ∀ (i : Nat) (xs : List TV), st.look i = some (.tree xs) → ∀ (r : Nat) (x : TV), xs[r]? = some x → RepO w g.I x (g.ρ i r) (g.φ i r)
  foot : ∀ i b, Foot g st.look i b → w0.New b ∧ b < w.heap.size ∧ ¬ g.I b ∧ ¬ R b
  apart : ∀ i j b, Foot g st.look i b → Foot g st.look j b → i = j
  apartR : ∀ i xs r r' b, st.look i = some (.tree xs) → r < xs.length → r' < xs.length → g.φ i r b → g.φ i r' b → r = r'
  res : ∀ b, R b → w0.New b ∧ b < w.heap.size ∧ ¬ g.I b
  base : w0.Ok I0

def Sim (w0 : Bs) (I0 : Nat → Prop) (st : ASt) (a : Act) (ov : List Value) (w : World) : Prop := ∃ g, SimI w0 I0 (fun _ => False) g st a ov w

section
variable {w0 : Bs} {w w' : World} {I0 R R' : Nat → Prop} {g g' : Gh} {st st' : ASt} {a : Act} {ov : List Value}

theorem look_setBox (st : ASt) (i j : Nat) (b : Option BC) : (st.setBox i b).look j = if i = j ∧ i < st.boxes.length then b else st.look j := by
  simp only [ASt.look, ASt.setBox, setNth_eq, nth_eq, List.getElem?_set]
  by_cases h : i = j
  · subst h
    by_cases h2 : i < st.boxes.length <;> simp [h2]
  · simp [h]
theorem setBox_setBox (st : ASt) (i : Nat) (b c : Option BC) : (st.setBox i b).setBox i c = st.setBox i c := by
  simp [ASt.setBox, setNth_eq]
theorem look_put (st : ASt) (d : Option Tmp) (v : AV) : (st.put d v).look = st.look := by cases d <;> rfl
theorem boxes_put (st : ASt) (d : Option Tmp) (v : AV) : (st.put d v).boxes = st.boxes := by cases d <;> rfl
theorem out_put (st : ASt) (d : Option Tmp) (v : AV) : (st.put d v).out = st.out := by cases d <;> rfl
theorem look_lt {st : ASt} {i : Nat} {b : BC} (h : st.look i = some b) : i < st.boxes.length := by
  rcases Nat.lt_or_ge i st.boxes.length with h' | h'
  · exact h'
  · simp [ASt.look, nth_eq, List.getElem?_eq_none h'] at h
theorem look_mapS (st : ASt) (f : CA → CA) (i : Nat) : (st.mapS f).look i = (st.look i).map (BC.mapB f) := by
  simp only [ASt.look, ASt.mapS, nth_eq, mapBs_get]
  cases st.boxes[i]? with
  | none => rfl
  | some b => cases b <;> rfl

theorem SimI.weaken (h : SimI w0 I0 R g st a ov w) (hR : ∀ b, R' b → R b) : SimI w0 I0 R' g st a ov w :=
  ⟨h.below, h.sub, h.lt, h.old, h.len, h.defers, h.slots, h.olen, h.outs, h.cells, h.trees, fun i b hb => by obtain ⟨h1, h2, h3, h4⟩ := h.foot i b hb; exact ⟨h1, h2, h3, fun hr => h4 (hR b hr)⟩, h.apart, h.apartR, fun b hb => h.res b (hR b hb), h.base⟩

theorem SimI.laid (h : SimI w0 I0 R g st a ov w) {I' : Nat → Prop} (hI : ∀ b, g.I b → I' b) : w0.G.P w I' :=
  w0.G.mv (fun b hb => h.below.block b (h.base.1 b hb).1 (h.base.1 b hb).2) (fun b hb => hI b (h.sub b hb)) h.base.2

/-- An operand stands for what it holds. -/
theorem SimI.ev (h : SimI w0 I0 R g st a ov w) (x : Operand) : RepA w g st.look (st.ev x) (a.eval x) := by
  have con : ∀ v : Value, RepA w g st.look (bif v.oneCell' then .one (.t (.lit v)) else .tv (.lit v)) v := fun v => by
    cases h1 : v.oneCell' with
    | true => exact ⟨.lit v, h1⟩
    | false => exact .lit v
  cases x with
  | tmp t =>
    simp only [ASt.ev, Act.eval]
    cases ht : st.slots[t]? with
    | none => rw [nth_eq, ht]; exact trivial
    | some v => rw [nth_some ht]; exact h.slots t v ht
  | const v =>
    cases v with
    | bool b => rfl
    | int k n => exact con (.int k n)
    | float k n => exact con (.float k n)
    | complex k n m => exact con (.complex k n m)
    | string s => exact con (.string s)
    | pointer p => exact con (.pointer p)
    | slice p l c => exact con (.slice p l c)
    | map r => exact con (.map r)
    | chan r => exact con (.chan r)
    | func f x y => exact con (.func f x y)
    | nilFunc => exact con .nilFunc
    | iface t v => exact con (.iface t v)
    | nilIface => exact con .nilIface
    | agg cs => exact con (.agg cs)
    | tuple cs => exact con (.tuple cs)
  | global g => exact .lit _
  | func f => exact .lit _

theorem getD_set (l : Array Value) (d t : Nat) (v : Value) : (l.setIfInBounds d v).getD t undef = if d = t ∧ d < l.size then v else l.getD t undef := by
  simp only [Array.getD_eq_getD_getElem?, Array.getElem?_setIfInBounds]
  by_cases h : d = t
  · subst h
    by_cases h2 : d < l.size <;> simp [h2]
  · simp [h]

/-- A slot is set. -/
theorem SimI.put (h : SimI w0 I0 R g st a ov w) (d : Option Tmp) {v : AV} {u : Value} (hv : RepA w g st.look v u) : SimI w0 I0 R g (st.put d v) (a.put d u) ov w := by
  cases d with
  | none => exact h
  | some d =>
    refine ⟨h.below, h.sub, h.lt, h.old, ?_, h.defers, ?_, h.olen, h.outs, h.cells, h.trees, h.foot, h.apart, h.apartR, h.res, h.base⟩
    · simp [ASt.put, Act.put, setNth_eq, h.len]
    · intro t x hx
      rw [look_put]
      simp only [ASt.put, setNth_eq, List.getElem?_set] at hx
      simp only [Act.put, getD_set]
      by_cases hd : d = t
      · subst hd
        by_cases h2 : d < st.slots.length
        · simp [h2] at hx
          subst hx
          simp [h.len, h2]
          exact hv
        · simp [h2] at hx
      · simp only [hd, if_false] at hx
        simp only [hd, false_and, if_false]
        exact h.slots t x hx

theorem put_self {t : Nat} {u : Value} (h : a.tmps.getD t undef = u) : a.put (some t) u = a := by
  subst h
  simp only [Act.put]
  congr 1
  apply Array.ext_getElem?
  intro i
  rw [Array.getElem?_setIfInBounds]
  by_cases hi : t = i
  · subst hi
    by_cases hl : t < a.tmps.size
    · simp [hl]
    · simp [hl]
  · simp [hi]

/-- The slots of a state through a change: what is asked is only of cells. -/
theorem slots_map {f : CA → CA} (hf : ∀ c v, RepC w g st.look c v → RepC w' g' st'.look (f c) v) (hh : ∀ b, g.I b → w'.heap[b]? = w.heap[b]?) (hI : ∀ b, g.I b → g'.I b) {l : List AV} {vs : Nat → Value}
    (h : ∀ (t : Nat) (v : AV), l[t]? = some v → RepA w g st.look v (vs t)) : ∀ (t : Nat) (v : AV), (mapAs f l)[t]? = some v → RepA w' g' st'.look v (vs t) := by
  intro t v hv
  rw [mapAs_get] at hv
  cases hl : l[t]? with
  | none => simp [hl] at hv
  | some v' =>
    simp only [hl, Option.map_some, Option.some.injEq] at hv
    subst hv
    exact (h t v' hl).mapA hf hh hI
end
end Go.Ab

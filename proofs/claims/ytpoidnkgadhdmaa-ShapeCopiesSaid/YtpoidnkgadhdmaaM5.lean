/- What becomes of the states where one variable or tree is made, turned, emptied, or closed. No condition. -/
import Derived.Test.YtpoidnkgadhdmaaM4
namespace Go.Ab
open Go.RowKit
set_option linter.unusedVariables false
section
variable {w0 : Bs} {w w' : World} {I0 R R' : Nat → Prop} {g g' : Gh} {st st' : ASt} {a : Act} {ov : List Value}

theorem mapAs_id (l : List AV) : mapAs id l = l := by
  induction l with
  | nil => rfl
  | cons c l ih => simp [mapAs, ih, mapA_id]
theorem mapBs_id (l : List (Option BC)) : mapBs id l = l := by
  induction l with
  | nil => rfl
  | cons c l ih =>
    cases c with
    | none => simp [mapBs, ih]
    | some b => cases b <;> simp [mapBs, ih, BC.mapB, mapC_id]
theorem mapS_id (st : ASt) : st.mapS id = st := by
  obtain ⟨a, b, c⟩ := st
  simp [ASt.mapS, mapAs_id, mapBs_id]

theorem mapB_cells {f : CA → CA} {o : Option BC} {cs' : List CA} (h : o.map (BC.mapB f) = some (.cells cs')) : ∃ cs, o = some (.cells cs) ∧ cs' = mapC f cs := by
  cases o with
  | none => simp at h
  | some b =>
    cases b with
    | cells cs => simp [BC.mapB] at h; exact ⟨cs, rfl, h.symm⟩
    | tree xs => simp [BC.mapB] at h
theorem mapB_tree {f : CA → CA} {o : Option BC} {xs' : List TV} (h : o.map (BC.mapB f) = some (.tree xs')) : o = some (.tree xs') := by
  cases o with
  | none => simp at h
  | some b =>
    cases b with
    | cells cs => simp [BC.mapB] at h
    | tree xs => simp [BC.mapB] at h; rw [h]

/-- One variable or tree is made or turned; all else stays. -/
theorem SimI.change (hs : SimI w0 I0 R g st a ov w) {i : Nat} {b' : BC} (hi : i < st.boxes.length) (f : CA → CA) (g' : Gh) (w' : World) (R' : Nat → Prop)
    (hw : w0.Bel w') (hsz : w.heap.size ≤ w'.heap.size) (hk : ∀ b, b < w.heap.size → ¬ Foot g st.look i b → ¬ R b → w'.heap[b]? = w.heap[b]?)
    (hg : ∀ j, j ≠ i → g'.β j = g.β j ∧ g'.ρ j = g.ρ j ∧ g'.φ j = g.φ j)
    (hI : ∀ b, g.I b → g'.I b) (hIn : ∀ b, g'.I b → g.I b ∨ Foot g st.look i b) (hIf : ∀ b, g'.I b → ¬ Foot g' ((st.mapS f).setBox i (some b')).look i b)
    (hf : ∀ c v, RepC w g st.look c v → RepC w' g' ((st.mapS f).setBox i (some b')).look (f c) v)
    (hfoot : ∀ b, Foot g' ((st.mapS f).setBox i (some b')).look i b → Foot g st.look i b ∨ R b ∨ (w.heap.size ≤ b ∧ b < w'.heap.size))
    (hR : ∀ b, R' b → (R b ∨ Foot g st.look i b) ∧ ¬ Foot g' ((st.mapS f).setBox i (some b')).look i b ∧ ¬ g'.I b)
    (hcells : ∀ cs, b' = .cells cs → ∃ vs ty, w'.heap[g'.β i]? = some (.cells vs ty (0, 0)) ∧ CR w' g' ((st.mapS f).setBox i (some b')).look cs vs.toList)
    (htree : ∀ xs, b' = .tree xs → (∀ (r : Nat) (x : TV), xs[r]? = some x → RepO w' g'.I x (g'.ρ i r) (g'.φ i r)) ∧ ∀ r r' b, r < xs.length → r' < xs.length → g'.φ i r b → g'.φ i r' b → r = r') :
    SimI w0 I0 R' g' ((st.mapS f).setBox i (some b')) a ov w' := by
  have hlk : ∀ j, ((st.mapS f).setBox i (some b')).look j = if i = j then some b' else (st.look j).map (BC.mapB f) := fun j => by
    rw [look_setBox, look_mapS]
    by_cases h : i = j
    · subst h
      rw [if_pos ⟨rfl, by simp [ASt.mapS, mapBs_len]; exact hi⟩, if_pos rfl]
    · rw [if_neg (fun h' => h h'.1), if_neg h]
  have hF : ∀ j b, j ≠ i → Foot g' ((st.mapS f).setBox i (some b')).look j b → Foot g st.look j b := by
    intro j b hj h
    rcases h with ⟨cs, h1, h2⟩ | ⟨xs, r, h1, h2, h3⟩
    · rw [hlk, if_neg (fun e => hj e.symm)] at h1
      obtain ⟨cs0, h4, _⟩ := mapB_cells h1
      exact .inl ⟨cs0, h4, by rw [← (hg j hj).1]; exact h2⟩
    · rw [hlk, if_neg (fun e => hj e.symm)] at h1
      exact .inr ⟨xs, r, mapB_tree h1, h2, by rw [← (hg j hj).2.2]; exact h3⟩
  have hIk : ∀ b, g.I b → w'.heap[b]? = w.heap[b]? := fun b hb => hk b (hs.lt b hb) (fun h => (hs.foot i b h).2.2.1 hb) (fun h => (hs.res b h).2.2 hb)
  have hnew : ∀ b, Foot g st.look i b → w0.New b ∧ b < w.heap.size := fun b hb => ⟨(hs.foot i b hb).1, (hs.foot i b hb).2.1⟩
  have hfi : ∀ b, Foot g' ((st.mapS f).setBox i (some b')).look i b → w0.New b ∧ b < w'.heap.size := by
    intro b hb
    rcases hfoot b hb with h | h | h
    · exact ⟨(hnew b h).1, Nat.lt_of_lt_of_le (hnew b h).2 hsz⟩
    · exact ⟨(hs.res b h).1, Nat.lt_of_lt_of_le (hs.res b h).2.1 hsz⟩
    · exact ⟨.of_le hs.below h.1, h.2⟩
  have hout : ∀ i' j b, i' = i → j ≠ i → Foot g' ((st.mapS f).setBox i (some b')).look i' b → Foot g st.look j b → False := by
    intro i' j b hi' hj h1 h2
    subst hi'
    rcases hfoot b h1 with h | h | h
    · exact hj (hs.apart i' j b h h2).symm
    · exact (hs.foot j b h2).2.2.2 h
    · have := (hs.foot j b h2).2.1; omega
  refine ⟨hw, fun b hb => hI b (hs.sub b hb), fun b hb => ?_, fun b hlt hb => ?_, by simp only [ASt.setBox, ASt.mapS, mapAs_len]; exact hs.len, hs.defers,
    slots_map (vs := fun t => a.tmps.getD t undef) hf hIk hI hs.slots, by simp only [ASt.setBox, ASt.mapS, mapAs_len]; exact hs.olen, slots_map (vs := fun t => ov.getD t undef) hf hIk hI hs.outs, ?_, ?_, ?_, ?_, ?_, ?_, hs.base⟩
  · rcases hIn b hb with h | h
    · exact Nat.lt_of_lt_of_le (hs.lt b h) hsz
    · exact Nat.lt_of_lt_of_le (hnew b h).2 hsz
  · rcases hIn b hb with h | h
    · exact hs.old b hlt h
    · exact absurd (hnew b h).1 hlt
  · intro j cs hj
    rw [hlk] at hj
    by_cases hij : i = j
    · subst hij
      rw [if_pos rfl] at hj
      exact hcells cs (Option.some.inj hj)
    · rw [if_neg hij] at hj
      obtain ⟨cs0, h1, h2⟩ := mapB_cells hj
      subst h2
      obtain ⟨vs, ty, h3, h4⟩ := hs.cells j cs0 h1
      have hfj : Foot g st.look j (g.β j) := .inl ⟨cs0, h1, rfl⟩
      refine ⟨vs, ty, ?_, h4.mapC hf⟩
      rw [(hg j (fun e => hij e.symm)).1, hk _ (hs.foot j _ hfj).2.1 (fun h => hij (hs.apart i j _ h hfj)) (hs.foot j _ hfj).2.2.2]
      exact h3
  · intro j xs hj r x hx
    rw [hlk] at hj
    by_cases hij : i = j
    · subst hij
      rw [if_pos rfl] at hj
      exact (htree xs (Option.some.inj hj)).1 r x hx
    · rw [if_neg hij] at hj
      have h1 := mapB_tree hj
      have hj' : j ≠ i := fun e => hij e.symm
      rw [(hg j hj').2.1, (hg j hj').2.2]
      have hr : r < xs.length := (List.getElem?_eq_some_iff.1 hx).1
      refine (hs.trees j xs h1 r x hx).mv hIk hI (fun b hb => ?_) (fun _ h => h)
      have hfj : Foot g st.look j b := .inr ⟨xs, r, h1, hr, hb⟩
      exact hk b (hs.foot j b hfj).2.1 (fun h => hij (hs.apart i j b h hfj)) (hs.foot j b hfj).2.2.2
  · intro j b hb
    by_cases hij : j = i
    · subst hij
      exact ⟨(hfi b hb).1, (hfi b hb).2, fun h => hIf b h hb, fun h => (hR b h).2.1 hb⟩
    · have hfj := hF j b hij hb
      obtain ⟨h1, h2, h3, h4⟩ := hs.foot j b hfj
      refine ⟨h1, Nat.lt_of_lt_of_le h2 hsz, fun h => ?_, fun h => ?_⟩
      · rcases hIn b h with h5 | h5
        · exact h3 h5
        · exact hij (hs.apart i j b h5 hfj).symm
      · rcases (hR b h).1 with h5 | h5
        · exact h4 h5
        · exact hij (hs.apart i j b h5 hfj).symm
  · intro j k b hj hk'
    by_cases hji : j = i <;> by_cases hki : k = i
    · rw [hji, hki]
    · exact (hout j k b hji hki hj (hF k b hki hk')).elim
    · exact (hout k j b hki hji hk' (hF j b hji hj)).elim
    · exact hs.apart j k b (hF j b hji hj) (hF k b hki hk')
  · intro j xs r r' b hj hr hr' hb hb'
    rw [hlk] at hj
    by_cases hij : i = j
    · subst hij
      rw [if_pos rfl] at hj
      exact (htree xs (Option.some.inj hj)).2 r r' b hr hr' hb hb'
    · rw [if_neg hij] at hj
      rw [(hg j (fun e => hij e.symm)).2.2] at hb hb'
      exact hs.apartR j xs r r' b (mapB_tree hj) hr hr' hb hb'
  · intro b hb
    obtain ⟨h1, h2, h3⟩ := hR b hb
    rcases h1 with h | h
    · exact ⟨(hs.res b h).1, Nat.lt_of_lt_of_le (hs.res b h).2.1 hsz, h3⟩
    · exact ⟨(hnew b h).1, Nat.lt_of_lt_of_le (hnew b h).2 hsz, h3⟩

/-! ### the ghost of one box -/
def Gh.setβ (g : Gh) (i b : Nat) : Gh := ⟨g.I, g.ρ, fun j => if j = i then b else g.β j, g.φ⟩
def Gh.setT (g : Gh) (i : Nat) (ρ : Nat → Value) (φ : Nat → Nat → Prop) : Gh := ⟨g.I, fun j => if j = i then ρ else g.ρ j, g.β, fun j => if j = i then φ else g.φ j⟩

theorem addBox_some {i : Nat} {b : BC} (h : st.addBox i b = some st') : st.look i = none ∧ i < st.boxes.length ∧ st' = st.setBox i (some b) := by
  unfold ASt.addBox at h
  split at h
  · cases h
  · rename_i hl
    cases hb : i.blt st.boxes.length with
    | false => simp [hb] at h
    | true => simp only [hb, cond_true, Option.some.injEq] at h; exact ⟨hl, by simpa using hb, h.symm⟩

theorem foot_none {i b : Nat} {look : Look} (h : look i = none) : ¬ Foot g look i b := by
  rintro (⟨cs, h1, _⟩ | ⟨xs, r, h1, _⟩) <;> rw [h] at h1 <;> cases h1

/-- Other blocks' names and memory are kept: so are all ways. -/
theorem Mv.add (hs : SimI w0 I0 R g st a ov w) {i : Nat} {b : BC} (hi : i < st.boxes.length) (hn : st.look i = none) (hb : ∀ k, k < w.heap.size → ¬ R k → w'.heap[k]? = w.heap[k]?) {g' : Gh} (hI : ∀ b, g.I b → g'.I b)
    (hg : ∀ j, j ≠ i → g'.β j = g.β j ∧ g'.ρ j = g.ρ j) : Mv (fun _ _ _ => True) w g st.look w' g' (st.setBox i (some b)).look := by
  have hlk : ∀ j b', st.look j = some b' → (st.setBox i (some b)).look j = some b' ∧ j ≠ i := fun j b' hj => by
    have hne : j ≠ i := fun e => by subst e; rw [hn] at hj; cases hj
    rw [look_setBox, if_neg (fun h => hne h.1.symm)]
    exact ⟨hj, hne⟩
  refine ⟨fun k hk => hb k (hs.lt k hk) (fun h => (hs.res k h).2.2 hk), hI, fun j cs hj => ⟨cs, (hlk j _ hj).1, (hg j (hlk j _ hj).2).1⟩, fun j cs ty hj ht => ?_, fun j r p xs x v nd hj hx _ hv hnd => ⟨xs, x, (hlk j _ hj).1, hx, ?_⟩⟩
  · obtain ⟨vs, fr, h⟩ := ht
    have hf := hs.foot j _ (.inl ⟨cs, hj, rfl⟩)
    exact ⟨vs, fr, by rw [hb _ hf.2.1 hf.2.2.2]; exact h⟩
  rw [(hg j (hlk j _ hj).2).2]
  have hr : r < xs.length := (List.getElem?_eq_some_iff.1 hx).1
  exact Node.mv (hs.trees j xs hj r x hx) (fun k hk => hb k (hs.lt k hk) (fun h => (hs.res k h).2.2 hk)) (fun k hk => hb k (hs.foot j k (.inr ⟨xs, r, hj, hr, hk⟩)).2.1 (hs.foot j k (.inr ⟨xs, r, hj, hr, hk⟩)).2.2.2) hnd

/-- A variable more. -/
theorem SimI.newCells (hs : SimI w0 I0 R g st a ov w) {i : Nat} {cs : List CA} (hi : i < st.boxes.length) (hn : st.look i = none) {vs : Array Value} {ty : TypeId} {k : Nat} (hb : Below w.heap.size w w') (hk : w.heap.size ≤ k)
    (hk2 : k < w'.heap.size) (hh : w'.heap[k]? = some (.cells vs ty (0, 0))) (hcr : CR w g st.look cs vs.toList) :
    SimI w0 I0 R (g.setβ i k) (st.setBox i (some (.cells cs))) a ov w' ∧ Mv (fun _ _ _ => True) w g st.look w' (g.setβ i k) (st.setBox i (some (.cells cs))).look := by
  have m : Mv (fun _ _ _ => True) w g st.look w' (g.setβ i k) (st.setBox i (some (.cells cs))).look := Mv.add hs hi hn (fun k hk _ => hb.block k hk) (fun _ h => h) (fun j hj => ⟨by simp [Gh.setβ, hj], rfl⟩)
  refine ⟨?_, m⟩
  have hli : (st.setBox i (some (.cells cs))).look i = some (.cells cs) := by rw [look_setBox, if_pos ⟨rfl, hi⟩]
  have hfi : ∀ b, Foot (g.setβ i k) (st.setBox i (some (.cells cs))).look i b → b = k := by
    rintro b (⟨cs', h1, h2⟩ | ⟨xs, r, h1, _⟩)
    · simpa [Gh.setβ] using h2
    · rw [hli] at h1; cases h1
  have := hs.change (b' := .cells cs) hi id (g.setβ i k) w' R (hs.below.step hb) hb.size (fun b hb' _ _ => hb.block b hb') (fun j hj => ⟨by simp [Gh.setβ, hj], rfl, rfl⟩) (fun _ h => h) (fun _ h => .inl h)
    (fun b hb1 hb2 => by rw [mapS_id] at hb2; have := hfi b hb2; subst this; have := hs.lt _ hb1; omega)
    (fun c v hc => by rw [mapS_id]; exact RepC.mv m (by cases c <;> trivial) hc)
    (fun b hb2 => by rw [mapS_id] at hb2; have := hfi b hb2; subst this; exact .inr (.inr ⟨hk, hk2⟩))
    (fun b hb1 => ⟨.inl hb1, fun hb2 => by rw [mapS_id] at hb2; have := hfi b hb2; subst this; have := (hs.res _ hb1).2.1; omega, (hs.res b hb1).2.2⟩)
    (fun cs' h => by cases h; rw [mapS_id]; exact ⟨vs, ty, by simpa [Gh.setβ] using hh, hcr.mv m⟩) (fun xs h => by cases h)
  rwa [mapS_id] at this

/-- A tree more. -/
theorem SimI.newTree (hs : SimI w0 I0 R g st a ov w) {i : Nat} {xs : List TV} (hi : i < st.boxes.length) (hn : st.look i = none) (hw : w0.Bel w') (hsz : w.heap.size ≤ w'.heap.size) (hb : ∀ k, k < w.heap.size → ¬ R k → w'.heap[k]? = w.heap[k]?) (ρ : Nat → Value) (F : Nat → Nat → Prop)
    (hr : ∀ (r : Nat) (x : TV), xs[r]? = some x → RepO w' g.I x (ρ r) (F r)) (hF : ∀ r b, r < xs.length → F r b → R b ∨ (w.heap.size ≤ b ∧ b < w'.heap.size)) (hd : ∀ r r' b, r < xs.length → r' < xs.length → F r b → F r' b → r = r') :
    SimI w0 I0 (fun _ => False) (g.setT i ρ F) (st.setBox i (some (.tree xs))) a ov w' ∧ Mv (fun _ _ _ => True) w g st.look w' (g.setT i ρ F) (st.setBox i (some (.tree xs))).look := by
  have m : Mv (fun _ _ _ => True) w g st.look w' (g.setT i ρ F) (st.setBox i (some (.tree xs))).look := Mv.add hs hi hn hb (fun _ h => h) (fun j hj => ⟨rfl, by simp [Gh.setT, hj]⟩)
  refine ⟨?_, m⟩
  have hli : (st.setBox i (some (.tree xs))).look i = some (.tree xs) := by rw [look_setBox, if_pos ⟨rfl, hi⟩]
  have hfi : ∀ b, Foot (g.setT i ρ F) (st.setBox i (some (.tree xs))).look i b → ∃ r, r < xs.length ∧ F r b := by
    rintro b (⟨cs', h1, h2⟩ | ⟨xs', r, h1, h2, h3⟩)
    · rw [hli] at h1; cases h1
    · rw [hli] at h1
      cases h1
      exact ⟨r, h2, by simpa [Gh.setT] using h3⟩
  have := hs.change (b' := .tree xs) hi id (g.setT i ρ F) w' (fun _ => False) hw hsz (fun b hb' _ hr => hb b hb' hr) (fun j hj => ⟨rfl, by simp [Gh.setT, hj], by simp [Gh.setT, hj]⟩) (fun _ h => h) (fun _ h => .inl h)
    (fun b hb1 hb2 => by
      rw [mapS_id] at hb2
      obtain ⟨r, h1, h2⟩ := hfi b hb2
      rcases hF r b h1 h2 with h | h
      · exact (hs.res b h).2.2 hb1
      · have := hs.lt b hb1; omega)
    (fun c v hc => by rw [mapS_id]; exact RepC.mv m (by cases c <;> trivial) hc)
    (fun b hb2 => by
      rw [mapS_id] at hb2
      obtain ⟨r, h1, h2⟩ := hfi b hb2
      exact .inr (hF r b h1 h2))
    (fun b hb1 => hb1.elim) (fun cs' h => by cases h)
    (fun xs' h => by cases h; exact ⟨fun r x hx => by simpa [Gh.setT] using hr r x hx, fun r r' b h1 h2 h3 h4 => hd r r' b h1 h2 (by simpa [Gh.setT] using h3) (by simpa [Gh.setT] using h4)⟩)
  rwa [mapS_id] at this
end
end Go.Ab

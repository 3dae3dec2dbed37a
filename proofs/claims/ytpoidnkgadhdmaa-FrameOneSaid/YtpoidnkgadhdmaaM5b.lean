/- A variable is written, a tree's root turns, is emptied, taken out of, or closed. No condition. -/
import Derived.Test.YtpoidnkgadhdmaaM5
namespace Go.Ab
open Go.RowKit
set_option linter.unusedVariables false
section
variable {w0 : Bs} {w w' : World} {I0 R R' : Nat → Prop} {g g' : Gh} {st st' : ASt} {a : Act} {ov : List Value}

theorem mapS_boxes (st : ASt) (f : CA → CA) : (st.mapS f).boxes.length = st.boxes.length := by simp [ASt.mapS, mapBs_len]

/-- A variable is written. -/
theorem SimI.updCells (hs : SimI w0 I0 R g st a ov w) {i : Nat} {cs cs' : List CA} (hl : st.look i = some (.cells cs)) {vs' : Array Value} {ty : TypeId} (hw : w0.Bel w') (hsz : w.heap.size ≤ w'.heap.size)
    (hk : ∀ b, b ≠ g.β i → w'.heap[b]? = w.heap[b]?) (hh : w'.heap[g.β i]? = some (.cells vs' ty (0, 0))) (hty : TyAt w (g.β i) ty) (hcr : CR w g st.look cs' vs'.toList) :
    SimI w0 I0 R g (st.setBox i (some (.cells cs'))) a ov w' := by
  have hi := look_lt hl
  have hlk : ∀ j, (st.setBox i (some (.cells cs'))).look j = if i = j then some (.cells cs') else st.look j := fun j => by
    rw [look_setBox]
    by_cases h : i = j
    · rw [if_pos ⟨h, hi⟩, if_pos h]
    · rw [if_neg (fun h' => h h'.1), if_neg h]
  have hfi : Foot g st.look i (g.β i) := .inl ⟨cs, hl, rfl⟩
  have m : Mv (fun _ _ _ => True) w g st.look w' g (st.setBox i (some (.cells cs'))).look := by
    refine ⟨fun b hb => hk b (fun e => (hs.foot i _ hfi).2.2.1 (e ▸ hb)), fun _ h => h, fun j c hj => ?_, fun j c t hj ht => ?_, fun j r p xs x v nd hj hx _ hv hn => ?_⟩
    · rw [hlk]
      by_cases h : i = j
      · subst h; exact ⟨cs', by simp, rfl⟩
      · exact ⟨c, by rw [if_neg h]; exact hj, rfl⟩
    · obtain ⟨us, fr, h1⟩ := ht
      by_cases h : g.β j = g.β i
      · obtain ⟨us', fr', h2⟩ := hty
        rw [h] at h1 ⊢
        rw [h2] at h1
        cases h1
        exact ⟨vs', _, hh⟩
      · exact ⟨us, fr, by rw [hk _ h]; exact h1⟩
    · have hne : i ≠ j := fun e => by subst e; rw [hl] at hj; cases hj
      have hr : r < xs.length := (List.getElem?_eq_some_iff.1 hx).1
      refine ⟨xs, x, by rw [hlk, if_neg hne]; exact hj, hx, Node.mv (hs.trees j xs hj r x hx) (fun b hb => hk b (fun e => (hs.foot i _ hfi).2.2.1 (e ▸ hb))) (fun b hb => hk b (fun e => ?_)) hn⟩
      subst e
      exact hne (hs.apart i j _ hfi (.inr ⟨xs, r, hj, hr, hb⟩))
  have hF : ∀ b, Foot g (st.setBox i (some (.cells cs'))).look i b → b = g.β i := by
    rintro b (⟨c, h1, h2⟩ | ⟨xs, r, h1, _⟩)
    · exact h2
    · rw [hlk, if_pos rfl] at h1; cases h1
  have := hs.change (b' := .cells cs') hi id g w' R hw hsz (fun b _ hb _ => hk b (fun e => hb (e ▸ hfi))) (fun j _ => ⟨rfl, rfl, rfl⟩) (fun _ h => h) (fun _ h => .inl h)
    (fun b hb1 hb2 => by rw [mapS_id] at hb2; rw [hF b hb2] at hb1; exact (hs.foot i _ hfi).2.2.1 hb1)
    (fun c v hc => by rw [mapS_id]; exact RepC.mv m (by cases c <;> trivial) hc)
    (fun b hb2 => by rw [mapS_id] at hb2; rw [hF b hb2]; exact .inl hfi)
    (fun b hb1 => ⟨.inl hb1, fun hb2 => by rw [mapS_id] at hb2; rw [hF b hb2] at hb1; exact (hs.foot i _ hfi).2.2.2 hb1, (hs.res b hb1).2.2⟩)
    (fun c h => by cases h; rw [mapS_id]; exact ⟨vs', ty, hh, hcr.mv m⟩) (fun xs h => by cases h)
  rwa [mapS_id] at this

/-- The ghost of one root. -/
def Gh.setR (g : Gh) (I' : Nat → Prop) (i r : Nat) (u : Value) (S : Nat → Prop) : Gh :=
  ⟨I', fun j k => if j = i ∧ k = r then u else g.ρ j k, g.β, fun j k => if j = i ∧ k = r then S else g.φ j k⟩

/-- A root turns. -/
theorem SimI.updRoot (hs : SimI w0 I0 R g st a ov w) {i r : Nat} {xs : List TV} {x : TV} (hl : st.look i = some (.tree xs)) (hx : xs[r]? = some x) (f : CA → CA) (ok : Way → Prop)
    (hf : ∀ c, (f c = c ∧ c.okP (fun i' r' p => i' = i → r' = r → ok p)) ∨ f c = .junk) {w' : World} {x' : TV} {u' : Value} {S' R' I' : Nat → Prop} (hr : RepO w' I' x' u' S')
    (hnode : ∀ (p : Way) (v : Value) (nd : Option (Nat × Nat)), ok p → IsSl v → Node w p x (g.ρ i r) v nd → Node w' p x' u' v nd)
    (hw : w0.Bel w') (hsz : w.heap.size ≤ w'.heap.size) (hmem : ∀ b, b < w.heap.size → ¬ g.φ i r b → ¬ R b → w'.heap[b]? = w.heap[b]?) (hS : ∀ b, S' b → g.φ i r b ∨ R b ∨ (w.heap.size ≤ b ∧ b < w'.heap.size))
    (hR : ∀ b, R' b → (R b ∨ g.φ i r b) ∧ ¬ S' b ∧ ¬ I' b) (hI : ∀ b, g.I b → I' b) (hIn : ∀ b, I' b → g.I b ∨ g.φ i r b) (hIS : ∀ b, I' b → ¬ S' b) :
    SimI w0 I0 R' (g.setR I' i r u' S') ((st.mapS f).setBox i (some (.tree (setNth xs r x')))) a ov w' ∧
      ∀ c v, RepC w g st.look c v → RepC w' (g.setR I' i r u' S') ((st.mapS f).setBox i (some (.tree (setNth xs r x')))).look (f c) v := by
  have hi := look_lt hl
  have hrl : r < xs.length := (List.getElem?_eq_some_iff.1 hx).1
  rw [setNth_eq]
  have hlk : ∀ j, ((st.mapS f).setBox i (some (.tree (xs.set r x')))).look j = if i = j then some (.tree (xs.set r x')) else (st.look j).map (BC.mapB f) := fun j => by
    rw [look_setBox, look_mapS]
    by_cases h : i = j
    · subst h
      rw [if_pos ⟨rfl, by rw [mapS_boxes]; exact hi⟩, if_pos rfl]
    · rw [if_neg (fun h' => h h'.1), if_neg h]
  have hfr : ∀ k b, k < xs.length → g.φ i k b → Foot g st.look i b := fun k b hk hb => .inr ⟨xs, k, hl, hk, hb⟩
  have hIk : ∀ b, g.I b → w'.heap[b]? = w.heap[b]? := fun b hb => hmem b (hs.lt b hb) (fun h => (hs.foot i b (hfr r b hrl h)).2.2.1 hb) (fun h => (hs.res b h).2.2 hb)
  have hothers : ∀ (k : Nat) (y : TV), k ≠ r → xs[k]? = some y → ∀ b, g.φ i k b → w'.heap[b]? = w.heap[b]? := fun k y hk hy b hb => by
    have hkl := (List.getElem?_eq_some_iff.1 hy).1
    exact hmem b (hs.foot i b (hfr k b hkl hb)).2.1 (fun h => hk (hs.apartR i xs k r b hl hkl hrl hb h)) (hs.foot i b (hfr k b hkl hb)).2.2.2
  have m : ∀ c v, RepC w g st.look c v → RepC w' (g.setR I' i r u' S') ((st.mapS f).setBox i (some (.tree (xs.set r x')))).look (f c) v := by
    have mv : Mv (fun i' r' p => i' = i → r' = r → ok p) w g st.look w' (g.setR I' i r u' S') ((st.mapS f).setBox i (some (.tree (xs.set r x')))).look := by
      refine ⟨hIk, hI, fun j cs hj => ?_, fun j cs ty hj ht => ?_, fun j k p ys y v nd hj hy ho hv hn => ?_⟩
      · have hne : i ≠ j := fun e => by subst e; rw [hl] at hj; cases hj
        exact ⟨mapC f cs, by rw [hlk, if_neg hne, hj]; rfl, rfl⟩
      · obtain ⟨us, fr, h1⟩ := ht
        have hne : i ≠ j := fun e => by subst e; rw [hl] at hj; cases hj
        have hfj : Foot g st.look j (g.β j) := .inl ⟨cs, hj, rfl⟩
        exact ⟨us, fr, by rw [hmem _ (hs.foot j _ hfj).2.1 (fun h => hne (hs.apart i j _ (hfr r _ hrl h) hfj)) (hs.foot j _ hfj).2.2.2]; exact h1⟩
      · by_cases hij : j = i
        · subst hij
          rw [hl] at hj
          cases hj
          by_cases hkr : k = r
          · subst hkr
            rw [hx] at hy
            cases hy
            refine ⟨xs.set k x', x', by rw [hlk, if_pos rfl], by rw [List.getElem?_set_self hrl], ?_⟩
            have : (g.setR I' j k u' S').ρ j k = u' := by simp [Gh.setR]
            rw [this]
            exact hnode p v nd (ho rfl rfl) hv hn
          · refine ⟨xs.set r x', y, by rw [hlk, if_pos rfl], by rw [List.getElem?_set_ne (fun h => hkr h.symm)]; exact hy, ?_⟩
            have : (g.setR I' j r u' S').ρ j k = g.ρ j k := by simp [Gh.setR, hkr]
            rw [this]
            exact Node.mv (hs.trees j xs hl k y hy) hIk (hothers k y hkr hy) hn
        · have hne : i ≠ j := fun e => hij e.symm
          have hk : k < ys.length := (List.getElem?_eq_some_iff.1 hy).1
          refine ⟨ys, y, by rw [hlk, if_neg hne, hj]; rfl, hy, ?_⟩
          have : (g.setR I' i r u' S').ρ j k = g.ρ j k := by simp [Gh.setR, hij]
          rw [this]
          refine Node.mv (hs.trees j ys hj k y hy) hIk (fun b hb => ?_) hn
          have hfj : Foot g st.look j b := .inr ⟨ys, k, hj, hk, hb⟩
          exact hmem b (hs.foot j b hfj).2.1 (fun h => hij (hs.apart i j b (hfr r b hrl h) hfj).symm) (hs.foot j b hfj).2.2.2
    intro c v hc
    rcases hf c with ⟨h1, h2⟩ | h1
    · rw [h1]
      exact RepC.mv mv h2 hc
    · rw [h1]
      trivial
  refine ⟨?_, m⟩
  have hF : ∀ b, Foot (g.setR I' i r u' S') ((st.mapS f).setBox i (some (.tree (xs.set r x')))).look i b → S' b ∨ ∃ k, k ≠ r ∧ k < xs.length ∧ g.φ i k b := by
    rintro b (⟨c, h1, h2⟩ | ⟨ys, k, h1, h2, h3⟩)
    · rw [hlk, if_pos rfl] at h1; cases h1
    · rw [hlk, if_pos rfl] at h1
      cases h1
      rw [List.length_set] at h2
      by_cases hk : k = r
      · subst hk
        simp only [Gh.setR, and_self, if_true] at h3
        exact .inl h3
      · simp only [Gh.setR, hk, and_false, if_false] at h3
        exact .inr ⟨k, hk, h2, h3⟩
  refine hs.change (b' := .tree (xs.set r x')) hi f (g.setR I' i r u' S') w' R' hw hsz (fun b hb hn hr => hmem b hb (fun h => hn (hfr r b hrl h)) hr) (fun j hj => ⟨rfl, by funext k; simp [Gh.setR, hj], by funext k; simp [Gh.setR, hj]⟩) hI
    (fun b hb => (hIn b hb).imp id (hfr r b hrl)) (fun b hb1 hb2 => ?_) m (fun b hb2 => ?_) (fun b hb1 => ⟨(hR b hb1).1.imp id (hfr r b hrl), fun hb2 => ?_, (hR b hb1).2.2⟩) (fun c h => by cases h) (fun ys h => ?_)
  · rcases hF b hb2 with h | ⟨k, h1, h2, h3⟩
    · exact hIS b hb1 h
    · rcases hIn b hb1 with h4 | h4
      · exact (hs.foot i b (hfr k b h2 h3)).2.2.1 h4
      · exact h1 (hs.apartR i xs k r b hl h2 hrl h3 h4)
  · rcases hF b hb2 with h | ⟨k, h1, h2, h3⟩
    · exact (hS b h).imp (hfr r b hrl) id
    · exact .inl (hfr k b h2 h3)
  · rcases hF b hb2 with h | ⟨k, h1, h2, h3⟩
    · exact (hR b hb1).2.1 h
    · rcases (hR b hb1).1 with h4 | h4
      · exact (hs.foot i b (hfr k b h2 h3)).2.2.2 h4
      · exact h1 (hs.apartR i xs k r b hl h2 hrl h3 h4)
  · cases h
    constructor
    · intro k y hy
      by_cases hk : k = r
      · subst hk
        rw [List.getElem?_set_self hrl] at hy
        cases hy
        simp only [Gh.setR, and_self, if_true]
        exact hr
      · rw [List.getElem?_set_ne (fun h => hk h.symm)] at hy
        simp only [Gh.setR, hk, and_false, if_false]
        exact (hs.trees i xs hl k y hy).mv hIk hI (hothers k y hk hy) (fun _ h => h)
    · intro k k' b h1 h2 h3 h4
      rw [List.length_set] at h1 h2
      have cross : ∀ k, k ≠ r → k < xs.length → g.φ i k b → S' b → False := fun k hk hkl hb hsb => by
        rcases hS b hsb with h | h | h
        · exact hk (hs.apartR i xs k r b hl hkl hrl hb h)
        · exact (hs.foot i b (hfr k b hkl hb)).2.2.2 h
        · have := (hs.foot i b (hfr k b hkl hb)).2.1; omega
      by_cases hk : k = r <;> by_cases hk' : k' = r
      · rw [hk, hk']
      · subst hk
        simp only [Gh.setR, and_self, if_true, hk', and_false, if_false] at h3 h4
        exact (cross k' hk' h2 h4 h3).elim
      · subst hk'
        simp only [Gh.setR, and_self, if_true, hk, and_false, if_false] at h3 h4
        exact (cross k hk h1 h3 h4).elim
      · simp only [Gh.setR, hk, hk', and_false, if_false] at h3 h4
        exact hs.apartR i xs k k' b hl h1 h2 h3 h4

/-! ### forgetting ways -/
theorem drop_ok (i r : Nat) (js : List Nat) (strict : Bool) (c : CA) : (c.drop i r js strict = c ∧ c.okP (fun i' r' p => i' = i → r' = r → leads strict js p = false)) ∨ c.drop i r js strict = .junk := by
  have key : ∀ (i' r' : Nat) (p : Way), hitsAt i r js strict i' r' p = false → (i' = i → r' = r → leads strict js p = false) := by
    intro i' r' p h h1 h2
    subst h1 h2
    simpa [hitsAt] using h
  cases c with
  | tptr i' r' p k j =>
    simp only [CA.drop]
    cases h : hitsAt i r js strict i' r' p with
    | true => exact .inr rfl
    | false => exact .inl ⟨rfl, key i' r' p h⟩
  | sref i' r' p =>
    simp only [CA.drop]
    cases h : hitsAt i r js strict i' r' p with
    | true => exact .inr rfl
    | false => exact .inl ⟨rfl, key i' r' p h⟩
  | swin i' r' p lo len =>
    simp only [CA.drop]
    cases h : hitsAt i r js strict i' r' p with
    | true => exact .inr rfl
    | false => exact .inl ⟨rfl, key i' r' p h⟩
  | _ => exact .inl ⟨rfl, trivial⟩

theorem leads_all (p : Way) : leads false [] p = true := by cases p <;> rfl
theorem leads_append : ∀ (p q : Way), leads false (wayJs p) (p ++ q) = true
  | [], q => leads_all q
  | (k, j) :: p, q => by simp [wayJs, leads, leads_append p q]
theorem leads_strict : ∀ (p q : Way), q ≠ [] → leads true (wayJs p) (p ++ q) = true
  | [], q, h => by cases q with | nil => exact absurd rfl h | cons a q => rfl
  | (k, j) :: p, q, h => by simp [wayJs, leads, leads_strict p q h]
theorem leads_app1 : ∀ (p q : Way) (k j : Nat), leads false (wayJs p ++ [j]) (p ++ (k, j) :: q) = true
  | [], q, k, j => by cases q <;> simp [wayJs, leads]
  | (k', j') :: p, q, k, j => by simp [wayJs, leads, leads_app1 p q k j]

theorem mapC_comp (f f' : CA → CA) (l : List CA) : mapC f' (mapC f l) = mapC (f' ∘ f) l := by
  induction l with
  | nil => rfl
  | cons c l ih => simp [mapC, ih]
theorem mapT_comp (f f' : CA → CA) (l : List (Bool × List CA)) : mapT f' (mapT f l) = mapT (f' ∘ f) l := by
  induction l with
  | nil => rfl
  | cons c l ih => obtain ⟨b, c⟩ := c; simp [mapT, ih, mapC_comp]
theorem mapA_comp (f f' : CA → CA) (v : AV) : (v.mapA f).mapA f' = v.mapA (f' ∘ f) := by
  cases v <;> simp [AV.mapA, mapC_comp, mapT_comp]
theorem mapAs_comp (f f' : CA → CA) (l : List AV) : mapAs f' (mapAs f l) = mapAs (f' ∘ f) l := by
  induction l with
  | nil => rfl
  | cons c l ih => simp [mapAs, ih, mapA_comp]
theorem mapBs_comp (f f' : CA → CA) (l : List (Option BC)) : mapBs f' (mapBs f l) = mapBs (f' ∘ f) l := by
  induction l with
  | nil => rfl
  | cons c l ih =>
    cases c with
    | none => simp [mapBs, ih]
    | some b => cases b <;> simp [mapBs, ih, BC.mapB, mapC_comp]
theorem mapS_comp (st : ASt) (f f' : CA → CA) : (st.mapS f).mapS f' = st.mapS (f' ∘ f) := by
  simp [ASt.mapS, mapAs_comp, mapBs_comp]

/-- A root is given away: what it held is nobody's yet. -/
theorem SimI.take (hs : SimI w0 I0 R g st a ov w) {i r : Nat} {xs : List TV} {x : TV} (hl : st.look i = some (.tree xs)) (hx : xs[r]? = some x) :
    SimI w0 I0 (fun b => R b ∨ g.φ i r b) (g.setR g.I i r (g.ρ i r) (fun _ => False)) ((st.mapS (CA.drop i r [] false)).setBox i (some (.tree (setNth xs r .hole)))) a ov w ∧
    RepO w g.I x (g.ρ i r) (g.φ i r) ∧ (∀ b, g.φ i r b → ¬ R b) ∧
      ∀ c v, RepC w g st.look c v → RepC w (g.setR g.I i r (g.ρ i r) (fun _ => False)) ((st.mapS (CA.drop i r [] false)).setBox i (some (.tree (setNth xs r .hole)))).look (c.drop i r [] false) v := by
  have hrl : r < xs.length := (List.getElem?_eq_some_iff.1 hx).1
  have hfr : ∀ b, g.φ i r b → Foot g st.look i b := fun b hb => .inr ⟨xs, r, hl, hrl, hb⟩
  obtain ⟨h1, h2⟩ := hs.updRoot hl hx (CA.drop i r [] false) (fun p => leads false [] p = false) (drop_ok i r [] false) (w' := w) (x' := .hole) (u' := g.ρ i r) (S' := fun _ => False) (R' := fun b => R b ∨ g.φ i r b) (I' := g.I) (.fr (.hole _))
    (fun p v nd ho _ _ => by rw [leads_all] at ho; cases ho) hs.below (Nat.le_refl _) (fun _ _ _ _ => rfl) (fun _ h => h.elim) (fun b hb => ⟨hb, id, hb.elim (fun h => (hs.res b h).2.2) (fun h => (hs.foot i b (hfr b h)).2.2.1)⟩) (fun _ h => h) (fun _ h => .inl h) (fun _ _ h => h)
  exact ⟨h1, hs.trees i xs hl r x hx, fun b hb => (hs.foot i b (hfr b hb)).2.2.2, h2⟩

/-- A root is closed for good. -/
theorem SimI.freeze (hs : SimI w0 I0 R g st a ov w) {i r : Nat} {xs : List TV} {x : TV} (hl : st.look i = some (.tree xs)) (hx : xs[r]? = some x) :
    Rep w (fun b => g.I b ∨ g.φ i r b) (frz x) (g.ρ i r) ∧
      SimI w0 I0 R (g.setR (fun b => g.I b ∨ g.φ i r b) i r (g.ρ i r) (fun _ => False)) (st.setBox i (some (.tree (setNth xs r (frz x))))) a ov w ∧
      ∀ c v, RepC w g st.look c v → RepC w (g.setR (fun b => g.I b ∨ g.φ i r b) i r (g.ρ i r) (fun _ => False)) (st.setBox i (some (.tree (setNth xs r (frz x))))).look c v := by
  have hrl : r < xs.length := (List.getElem?_eq_some_iff.1 hx).1
  have hfr : ∀ b, g.φ i r b → Foot g st.look i b := fun b hb => .inr ⟨xs, r, hl, hrl, hb⟩
  have hrep := (hs.trees i xs hl r x hx).frz (I' := fun b => g.I b ∨ g.φ i r b) (fun _ h => .inl h) (fun _ h => .inr h)
  have := hs.updRoot hl hx id (fun _ => True) (fun c => .inl ⟨rfl, by cases c <;> first | trivial | exact fun _ _ => trivial⟩) (w' := w) (R' := R) (S' := fun _ => False) (.fr hrep) (fun q v' nd _ _ hn => Node.frz hn) hs.below (Nat.le_refl _) (fun _ _ _ _ => rfl) (fun b hb => hb.elim)
    (fun b hb => ⟨.inl hb, fun h => h, fun h => h.elim (hs.res b hb).2.2 (fun h => (hs.foot i b (hfr b h)).2.2.2 hb)⟩) (fun _ h => .inl h) (fun b hb => hb)
    (fun b hb h => h)
  rw [mapS_id] at this
  exact ⟨hrep, this.1, fun c v hc => this.2 c v hc⟩
end
end Go.Ab

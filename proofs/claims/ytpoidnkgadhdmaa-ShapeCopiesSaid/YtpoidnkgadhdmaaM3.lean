/- Rows of one's own that are written to, cut, lengthened and closed. No condition. -/
import Derived.Test.YtpoidnkgadhdmaaM2
namespace Go.Ab
open Go.RowKit
set_option linter.unusedVariables false
section
variable {P : Program} {w w' : World} {I I' : Nat → Prop} {x y : TV} {u v : Value} {S : Nat → Prop}

theorem div_unique {s k j k' j' : Nat} (hj : j < s) (hj' : j' < s) (h : k * s + j = k' * s + j') : k = k' ∧ j = j' := by
  have h1 : k = k' := by
    rcases Nat.lt_trichotomy k k' with h2 | h2 | h2
    · have := Nat.mul_le_mul_right s (Nat.succ_le_of_lt h2)
      rw [Nat.succ_mul] at this
      omega
    · exact h2
    · have := Nat.mul_le_mul_right s (Nat.succ_le_of_lt h2)
      rw [Nat.succ_mul] at this
      omega
  subst h1
  exact ⟨rfl, by omega⟩

/-- Elements, by their cells one behind the other. -/
theorem flat_at {α : Type} {s : Nat} {xs : List (List α)} (h : ∀ x ∈ xs, x.length = s) {k j : Nat} (hk : k < xs.length) (hj : j < s) : ∃ e c, xs[k]? = some e ∧ e[j]? = some c ∧ xs.flatten[k * s + j]? = some c := by
  have hel := h xs[k] (List.getElem_mem hk)
  have hje : j < xs[k].length := by omega
  exact ⟨xs[k], xs[k][j], List.getElem?_eq_getElem hk, List.getElem?_eq_getElem hje, flat_get h (List.getElem?_eq_getElem hk) (List.getElem?_eq_getElem hje)⟩

theorem row_add (a : Addr) (h : a.spot = none) (k : Nat) : a.add k = ⟨a.block, a.off + k, none⟩ := by
  obtain ⟨b, o, sp⟩ := a
  simp at h
  subst h
  exact add_lit b o k

/-- Cells of a row are written. -/
theorem RepO.write {s : Nat} {xs : List (List TV)} (h : RepO w I (.sl true s xs) v S) (hnI : ∀ b, S b → ¬ I b) : ∃ a cap vs ty us, v = .slice (some a) xs.length cap ∧ S a.block ∧ Row w a xs.length cap s us vs ty ∧
    ∀ (o : Nat) (ys : List TV) (us' : List Value) (T : Nat → Nat → Prop) (w' : World) (xs' : List (List TV)), o + ys.length ≤ xs.flatten.length → us'.length = ys.length → (∀ u ∈ us', u.oneCell' = true) →
      (∀ (m : Nat) (c : TV), ys[m]? = some c → RepO w I c (us'.getD m undef) (T m)) → (∀ m b, T m b → ¬ S b) → (∀ m m' b, T m b → T m' b → m = m') →
      w'.heap[a.block]? = some (.cells (spl vs.toList (a.off + o) us').toArray ty (0, 0)) → (∀ b, b ≠ a.block → w'.heap[b]? = w.heap[b]?) → xs'.length = xs.length → (∀ x ∈ xs', x.length = s) → xs'.flatten = spl xs.flatten o ys →
      RepO w' I (.sl true s xs') v (fun b => S b ∨ ∃ m, T m b) ∧
      ∀ (q : Way) (v' : Value) (nd : Option (Nat × Nat)), (∀ k1 j1 q1, q = (k1, j1) :: q1 → ¬ (o ≤ k1 * s + j1 ∧ k1 * s + j1 < o + ys.length)) → Node w q (.sl true s xs) v v' nd → Node w' q (.sl true s xs') v v' nd := by
  cases h with
  | fr h => cases h
  | @sl _ _ a cap S us vs ty F hS row hl hr hF hd =>
    refine ⟨a, cap, vs, ty, us, rfl, hS, row, ?_⟩
    intro o ys us' T w' xs' ho hul h1 hy hT hTd hheap hoth hxl hxa hxf
    have hfl := flat_len hl
    have hus : us.length = xs.flatten.length := by rw [row.len, hfl]
    have hnIa := hnI _ hS
    have hI : ∀ b, I b → w'.heap[b]? = w.heap[b]? := fun b hb => hoth b (fun e => hnIa (e ▸ hb))
    have hfit : a.off + o + us'.length ≤ vs.toList.length := by
      have := row.fit
      have h2 : xs.length * s ≤ cap * s := Nat.mul_le_mul_right _ row.le
      simp only [Array.length_toList]
      omega
    have hsl : o + us'.length ≤ us.length := by omega
    have hrow : Row w' a xs'.length cap s (spl us o us') (spl vs.toList (a.off + o) us').toArray ty := by
      rw [hxl]
      refine ⟨hheap, row.spot, row.le, row.max, by rw [List.size_toArray, spl_len hfit]; exact row.fit, by rw [spl_len hsl]; exact row.len, fun k hk => ?_, fun u hu => ?_⟩
      · rw [List.getElem?_toArray, spl_get hfit, spl_get hsl]
        by_cases hc : o ≤ k ∧ k < o + us'.length
        · rw [if_pos hc, if_pos (by omega)]
          congr 1
          omega
        · rw [if_neg hc, if_neg (by omega), Array.getElem?_toList]
          exact row.cells k hk
      · obtain ⟨m, hm⟩ := List.mem_iff_getElem?.1 hu
        rw [spl_get hsl] at hm
        split at hm
        · exact h1 u (List.mem_of_getElem? hm)
        · exact row.one u (List.mem_of_getElem? hm)
    constructor
    · have key : RepO w' I (.sl true s xs') (.slice (some a) xs'.length cap) (fun b => S b ∨ ∃ m, T m b) := by
        refine .sl (spl us o us') _ ty (fun k b => if o ≤ k ∧ k < o + ys.length then T (k - o) b else F k b) (.inl hS) hrow hxa (fun k c hc => ?_) (fun k b hb => ?_) (fun k k' b hb hb' => ?_)
        · rw [hxf, spl_get ho] at hc
          have hg : (spl us o us').getD k undef = if o ≤ k ∧ k < o + ys.length then us'.getD (k - o) undef else us.getD k undef := by
            simp only [List.getD_eq_getElem?_getD, spl_get hsl, hul]
            split <;> rfl
          rw [hg]
          by_cases hk : o ≤ k ∧ k < o + ys.length
          · rw [if_pos hk] at hc ⊢
            simp only [hk, and_self, if_true]
            exact (hy _ c hc).mv hI (fun _ h => h) (fun b hb => hoth b (fun e => hT _ b hb (e ▸ hS))) (fun _ h => h)
          · rw [if_neg hk] at hc ⊢
            simp only [hk, if_false]
            exact (hr k c hc).mv hI (fun _ h => h) (fun b hb => hoth b (hF k b hb).2) (fun _ h => h)
        · by_cases hk : o ≤ k ∧ k < o + ys.length
          · simp only [hk, and_self, if_true] at hb
            exact ⟨.inr ⟨_, hb⟩, fun e => hT _ b hb (e ▸ hS)⟩
          · simp only [hk, if_false] at hb
            exact ⟨.inl (hF k b hb).1, (hF k b hb).2⟩
        · by_cases hk : o ≤ k ∧ k < o + ys.length <;> by_cases hk' : o ≤ k' ∧ k' < o + ys.length
          · simp only [hk, hk', and_self, if_true] at hb hb'
            have := hTd _ _ b hb hb'
            omega
          · simp only [hk, hk', and_self, if_true, if_false] at hb hb'
            exact absurd (hF k' b hb').1 (hT _ b hb)
          · simp only [hk, hk', and_self, if_true, if_false] at hb hb'
            exact absurd (hF k b hb).1 (hT _ b hb')
          · simp only [hk, hk', if_false] at hb hb'
            exact hd _ _ b hb hb'
      rwa [hxl] at key
    · intro q v' nd hq hn
      cases q with
      | nil => exact ⟨hn.1, by rw [hn.2]; simp [TV.nd, hxl]⟩
      | cons kj q =>
        obtain ⟨k1, j1⟩ := kj
        obtain ⟨o2, s2, xs2, a2, n2, cap2, e2, y2, u2, hx2, hu2, he2, hy2, hc2, hn2⟩ := hn
        cases hx2
        cases hu2
        have hel2 := hl e2 (List.mem_of_getElem? he2)
        have hj2 : j1 < s := by have := (List.getElem?_eq_some_iff.1 hy2).1; omega
        have hk2 : k1 < xs'.length := by rw [hxl]; exact (List.getElem?_eq_some_iff.1 he2).1
        have hnot := hq k1 j1 q rfl
        have hfg := flat_get hl he2 hy2
        obtain ⟨e3, c3, g1, g2, g3⟩ := flat_at hxa hk2 hj2
        rw [hxf, spl_get ho, if_neg hnot, hfg] at g3
        cases g3
        have hltu : k1 * s + j1 < us.length := by rw [hus]; exact (List.getElem?_eq_some_iff.1 hfg).1
        have hug := List.getElem?_eq_getElem hltu
        have : u2 = us[k1 * s + j1] := by rw [row.cell hug] at hc2; exact (Option.some.inj hc2).symm
        subst this
        refine ⟨true, s, xs', a, _, cap, e3, y2, us[k1 * s + j1], rfl, rfl, g1, g2, hrow.cell ?_, ?_⟩
        · rw [spl_get hsl, if_neg (by omega)]; exact hug
        · have hr2 := hr _ _ hfg
          rw [getD_some hug] at hr2
          exact Node.mv hr2 hI (fun b hb => hoth b (hF _ b hb).2) hn2

/-- The old cells were words: no way to a slice leads there. -/
theorem node_words {s o n : Nat} {xs : List (List TV)} (hr : RepO w I (.sl true s xs) v S) (hsc : ∀ k c, o ≤ k → k < o + n → xs.flatten[k]? = some c → c.isSc = true) {q : Way} {v' : Value} {nd : Option (Nat × Nat)} (hv : ∃ a l c, v' = .slice a l c)
    (hn : Node w q (.sl true s xs) v v' nd) : ∀ k1 j1 q1, q = (k1, j1) :: q1 → ¬ (o ≤ k1 * s + j1 ∧ k1 * s + j1 < o + n) := by
  intro k1 j1 q1 hq hc
  subst hq
  obtain ⟨o2, s2, xs2, a2, n2, cap2, e2, y2, u2, hx2, hu2, he2, hy2, hc2, hn2⟩ := hn
  cases hx2
  obtain ⟨a', cap', u', S', h1, h2, h3, h4, h5, h6, h7⟩ := hr.child he2 hy2
  rw [hu2] at h1
  cases h1
  rw [hc2] at h2
  cases h2
  have hl : ∀ x ∈ xs, x.length = s := by cases hr with | fr h => cases h | sl _ _ _ _ _ _ hl => exact hl
  have hs := hsc _ _ hc.1 hc.2 (flat_get hl he2 hy2)
  obtain ⟨e1, e2'⟩ := repO_isSc h4 hs
  cases q1 with
  | nil =>
    obtain ⟨a, l, c, hv⟩ := hv
    rw [hn2.1] at hv
    rw [hv] at e2'
    simp [scV] at e2'
  | cons kj q2 =>
    obtain ⟨o3, s3, xs3, a3, n3, cap3, e3, y3, u3, hx3, _⟩ := hn2
    rw [e1] at hx3
    cases hx3

/-! ### a piece of a slice -/
theorem winP_nd {lo len : Nat} {x y : TV} (h : winP lo len x = some y) : ∃ n, slLen x = some n ∧ lo + len ≤ n := by
  unfold winP at h
  split at h
  · rename_i o s xs
    split at h
    · rename_i hc; exact ⟨xs.length, rfl, hc⟩
    · cases h
  · split at h
    · rename_i hc; exact ⟨0, rfl, by omega⟩
    · cases h
  · cases h

/-- What a cut gives. -/
def cut (s lo len : Nat) : Value → Value
  | .slice (some a) n cap => .slice (some (if cap = lo then a else a.add (lo * s))) len (cap - lo)
  | v => v

def szOf : TV → Nat
  | .sl _ s _ => s
  | _ => 0

theorem RepO.win {lo len : Nat} (h : RepO w I x v S) (hx : winP lo len x = some y) : RepO w I y (cut (szOf x) lo len v) S := by
  unfold winP at hx
  split at hx
  · rename_i o s xs
    split at hx
    · rename_i hc
      simp only [Option.some.injEq] at hx
      subst hx
      have hlen : ((xs.drop lo).take len).length = len := by simp; omega
      have hall : ∀ (hl : ∀ x ∈ xs, x.length = s), ∀ x ∈ (xs.drop lo).take len, x.length = s := fun hl x hx => hl x (List.mem_of_mem_drop (List.mem_of_mem_take hx))
      cases h with
      | fr h =>
        cases h with
        | @sl _ _ a cap cell hI hcap hm hl hcell h1 hr =>
          simp only [cut, szOf]
          by_cases h0 : len = 0
          · subst h0
            have key : Rep w I (.sl false s ((xs.drop lo).take 0)) (.slice (some (if cap = lo then a else a.add (lo * s))) ((xs.drop lo).take 0).length (cap - lo)) :=
              .sl cell (by simp) (by simp) (by omega) (by simp) (by simp) (by simp) (by simp)
            rw [hlen] at key
            exact .fr key
          · have hne : cap ≠ lo := by omega
            rw [if_neg hne]
            have hlt : ∀ k, k < len * s → lo * s + k < xs.length * s := fun k hk => by
              have := Nat.mul_le_mul_right s hc
              rw [Nat.add_mul] at this
              omega
            have key : Rep w I (.sl false s ((xs.drop lo).take len)) (.slice (some (a.add (lo * s))) ((xs.drop lo).take len).length (cap - lo)) := by
              refine .sl (fun k => cell (lo * s + k)) (fun _ => by rw [add_block]; exact hI (by omega)) (by rw [hlen]; omega) (by omega) (hall hl) (fun k hk => ?_) (fun k hk => ?_) (fun i e hi j c hj => ?_)
              · rw [hlen] at hk
                rw [add_add]
                exact hcell _ (hlt k hk)
              · rw [hlen] at hk
                exact h1 _ (hlt k hk)
              · have hi' : i < len := by have := (List.getElem?_eq_some_iff.1 hi).1; omega
                rw [List.getElem?_take_of_lt hi', List.getElem?_drop] at hi
                have := hr (lo + i) e hi j c hj
                rw [Nat.add_mul, Nat.add_assoc] at this
                exact this
            rw [hlen] at key
            exact .fr key
      | @sl _ _ a cap S us vs ty F hS row hl hr hF hd =>
        simp only [cut, szOf]
        by_cases hcl : cap = lo
        · have h0 : len = 0 := by have := row.le; omega
          subst h0
          rw [if_pos hcl]
          have key : RepO w I (.sl true s ((xs.drop lo).take 0)) (.slice (some a) ((xs.drop lo).take 0).length (cap - lo)) S := by
            refine .sl [] vs ty (fun _ _ => False) hS ⟨row.heap, row.spot, by simp, by have := row.max; omega, by have := row.fit; rw [hcl]; simp; omega, by simp, by simp, by simp⟩ (by simp) (by simp) (fun _ _ h => h.elim) (fun _ _ _ h => h.elim)
          rw [hlen] at key
          exact key
        · rw [if_neg hcl]
          have hfit := row.fit
          have hsp := row.spot
          have hle := row.le
          have hax : a.add (lo * s) = ⟨a.block, a.off + lo * s, none⟩ := row_add a hsp _
          have hfl : ((xs.drop lo).take len).flatten = (xs.flatten.drop (lo * s)).take (len * s) := by
            rw [flat_take _ (fun x hx => hl x (List.mem_of_mem_drop hx)), flat_drop _ hl]
          have hmul : lo * s + len * s ≤ xs.length * s := by rw [← Nat.add_mul]; exact Nat.mul_le_mul_right _ hc
          have key : RepO w I (.sl true s ((xs.drop lo).take len)) (.slice (some (a.add (lo * s))) ((xs.drop lo).take len).length (cap - lo)) S := by
            refine .sl ((us.drop (lo * s)).take (len * s)) vs ty (fun k => F (lo * s + k)) (by rw [add_block]; exact hS) ?_ (hall hl) (fun k c hk => ?_) (fun k b hb => ?_) (fun k k' b hb hb' => ?_)
            · rw [hax, hlen]
              have hcm : (cap - lo) * s + lo * s = cap * s := by rw [← Nat.add_mul]; congr 1; omega
              refine ⟨row.heap, rfl, by omega, by have := row.max; omega, ?_, by simp [row.len]; omega, fun k hk => ?_, fun u hu => row.one u (List.mem_of_mem_drop (List.mem_of_mem_take hu))⟩
              · show a.off + lo * s + (cap - lo) * s ≤ vs.size
                omega
              · show vs[a.off + lo * s + k]? = _
                rw [List.getElem?_take_of_lt hk, List.getElem?_drop, Nat.add_assoc]
                exact row.cells _ (by omega)
            · rw [hfl] at hk
              have hk' : k < len * s := by
                have := (List.getElem?_eq_some_iff.1 hk).1
                simp at this
                omega
              rw [List.getElem?_take_of_lt hk', List.getElem?_drop] at hk
              have := hr _ c hk
              simp only [List.getD_eq_getElem?_getD] at this ⊢
              rw [List.getElem?_take_of_lt hk', List.getElem?_drop]
              exact this
            · rw [add_block]; exact hF _ b hb
            · have := hd _ _ b hb hb'
              omega
          rw [hlen] at key
          exact key
    · cases hx
  · split at hx
    · simp only [Option.some.injEq] at hx
      subst hx
      have := repO_lit h
      subst this
      exact .fr (.lit _)
    · cases hx
  · cases hx

/-! ### what is read through -/
/-- The slice that is read: where it lies, and its elements. -/
structure Src (w : World) (I : Nat → Prop) (s : Nat) (xs : List (List TV)) (v : Value) (us : List Value) (F : Nat → Nat → Prop) : Prop where
  len : us.length = xs.length * s
  all : ∀ x ∈ xs, x.length = s
  one : ∀ u ∈ us, u.oneCell' = true
  form : ∃ A c, v = .slice A xs.length c ∧ (A = none → xs = []) ∧ ∀ ad, A = some ad → ∀ (j : Nat) (u : Value), us[j]? = some u → w.cell? (ad.add j) = some u
  rep : ∀ (k : Nat) (c : TV), xs.flatten[k]? = some c → RepO w I c (us.getD k undef) (F k)
  apart : ∀ k k' b, F k b → F k' b → k = k'

theorem Src.of {s : Nat} {xs : List (List TV)} (h : RepO w I x v S) (hp : pelems s x = some xs) : ∃ us F, Src w I s xs v us F ∧ (∀ k b, F k b → S b) ∧ ∀ k, xs = [] → k < us.length → False := by
  unfold pelems at hp
  split at hp
  · simp only [Option.some.injEq] at hp
    subst hp
    have := repO_lit h
    subst this
    exact ⟨[], fun _ _ => False, ⟨by simp, by simp, by simp, ⟨none, _, rfl, fun _ => rfl, fun ad h => by cases h⟩, by simp, fun _ _ _ h => h.elim⟩, fun _ _ h => h.elim, fun _ _ h => by simp at h⟩
  · rename_i o s' xs'
    split at hp
    · rename_i hs
      subst hs
      simp only [Option.some.injEq] at hp
      subst hp
      cases h with
      | fr h =>
        cases h with
        | @sl _ _ a cap cell hI hcap hm hl hcell h1 hr =>
          have hg : ∀ k, k < xs'.length * s' → ((List.range (xs'.length * s')).map cell)[k]? = some (cell k) := fun k hk => by simp [hk]
          refine ⟨(List.range (xs'.length * s')).map cell, fun _ _ => False, ⟨by simp, hl, fun u hu => ?_, ⟨some a, cap, rfl, by simp, fun ad he j u hu => ?_⟩, fun k c hc => ?_, fun _ _ _ h => h.elim⟩, fun _ _ h => h.elim, fun k h1 h2 => by subst h1; simp at h2⟩
          · obtain ⟨k, hk, rfl⟩ := List.mem_map.1 hu
            exact h1 k (by simpa using hk)
          · cases he
            have hj : j < xs'.length * s' := by have := (List.getElem?_eq_some_iff.1 hu).1; simpa using this
            rw [hg j hj] at hu
            cases hu
            exact hcell j hj
          · have hk : k < xs'.length * s' := by rw [← flat_len hl]; exact (List.getElem?_eq_some_iff.1 hc).1
            simp only [List.getD_eq_getElem?_getD, hg k hk, Option.getD_some]
            have hs0 : 0 < s' := by
              rcases Nat.eq_zero_or_pos s' with h0 | h0
              · rw [h0] at hk; omega
              · exact h0
            have hkd : k / s' < xs'.length := Nat.div_lt_of_lt_mul (by rw [Nat.mul_comm]; exact hk)
            obtain ⟨e, c', g1, g2, g3⟩ := flat_at hl hkd (Nat.mod_lt k hs0)
            rw [Nat.mul_comm, Nat.div_add_mod] at g3
            rw [hc] at g3
            cases g3
            have := hr _ e g1 _ c g2
            rw [Nat.mul_comm, Nat.div_add_mod] at this
            exact .fr this
      | @sl _ _ a cap S us vs ty F hS row hl hr hF hd =>
        exact ⟨us, F, ⟨row.len, hl, row.one, ⟨some a, cap, rfl, by simp, fun ad he j u hu => by cases he; exact row.cell hu⟩, hr, hd⟩, fun k b hb => (hF k b hb).1, fun k h1 h2 => by subst h1; rw [row.len] at h2; simp at h2⟩
    · cases hp
  · cases hp

/-! ### lengthening -/
/-- A slice of one's own that may be lengthened. -/
def Own (w : World) (s : Nat) (v : Value) (n : Nat) (us : List Value) : Prop := (v = nilV ∧ n = 0 ∧ us = []) ∨ ∃ a cap vs ty, v = .slice (some a) n cap ∧ Row w a n cap s us vs ty

/-- What lengthening leaves: a row of all of it, in the old block or in a new one. -/
structure Grown (w w' : World) (s : Nat) (v v' : Value) (n : Nat) (us : List Value) : Prop where
  form : (v' = v ∧ v = nilV ∧ n = 0 ∧ us = [] ∧ w' = w) ∨ ∃ a cap vs ty, v' = .slice (some a) n cap ∧ Row w' a n cap s us vs ty ∧ ((∃ a' n' c', v = .slice (some a') n' c' ∧ a'.block = a.block) ∨ a.block = w.heap.size)
  os : w'.os = w.os
  tape : w'.tape = w.tape
  output : w'.output = w.output
  size : w.heap.size ≤ w'.heap.size
  block : ∀ k, k < w.heap.size → (∀ a n c, v = .slice (some a) n c → k ≠ a.block) → w'.heap[k]? = w.heap[k]?
  keep : n = 0 → v' = v

theorem run_append (t ty e : TypeId) (i : TypeInfo) (z : Value) (ht : P.underlying t = some (.slice e)) (hi : P.info? e = some i) (hz : i.zero = some z) (hzs : z.cells.size = i.size)
    {n : Nat} {us : List Value} (hown : Own w i.size v n us) {A : Option Addr} {m c : Nat} {news : List Value} (hl : news.length = m * i.size) (hA : A = none → m = 0) (hnews : ∀ ad, A = some ad → ∀ j u, news[j]? = some u → w.cell? (ad.add j) = some u)
    (h1 : ∀ u ∈ news, u.oneCell' = true) (h63 : n + m ≤ maxLen) (hbytes : (n + m) * i.bytes ≤ 140737488355328) :
    ∃ v' w', (Builtin.append_ #[t, t] ty #[v, .slice A m c]).run P w = .ok v' w' ∧ Grown w w' i.size v v' (n + m) (us ++ news) := by
  have hsmall : n + m ≤ 9223372036854775807 := by simp only [maxLen] at h63; omega
  have hul : us.length = n * i.size := by
    rcases hown with ⟨_, h0, h1⟩ | ⟨a, cap, vs, ty, _, hr⟩
    · rw [h0, h1]; simp
    · exact hr.len
  have hu1 : ∀ u ∈ us, u.oneCell' = true := by
    rcases hown with ⟨_, h0, h1⟩ | ⟨a, cap, vs, ty, _, hr⟩
    · rw [h1]; simp
    · exact hr.one
  by_cases hm : m = 0
  · subst hm
    have hn : news = [] := List.eq_nil_of_length_eq_zero (by simpa using hl)
    subst hn
    refine ⟨v, w, ?_, ?_⟩
    · have hf : (Builtin.firstCells i.size 0 (.slice A 0 c)).run P w = .ok #[] w := by
        cases A with
        | none => exact run_firstCells_none w i.size 0 0 c
        | some ad => exact run_firstCells_some (P := P) w i.size 0 ad 0 c [] (by simp) (by simp)
      rcases hown with ⟨rfl, h0, h2⟩ | ⟨a, cap, vs, ty', rfl, hr⟩
      · subst h0
        simp [nilV, Builtin.append_, run_underlying ht, sizeOf, typeInfo, hi, Builtin.lenOf, hf]
      · simp [Builtin.append_, run_underlying ht, sizeOf, typeInfo, hi, Builtin.lenOf, hr.le, hf, storeCells]
    · rw [Nat.add_zero, List.append_nil]
      refine ⟨?_, rfl, rfl, rfl, Nat.le_refl _, fun _ _ _ => rfl, fun _ => rfl⟩
      rcases hown with ⟨h2, h0, h3⟩ | ⟨a, cap, vs, ty', h2, hr⟩
      · exact .inl ⟨rfl, h2, h0, h3, rfl⟩
      · exact .inr ⟨a, cap, vs, ty', h2, hr, .inl ⟨a, n, cap, h2, rfl⟩⟩
  · obtain ⟨ad, rfl⟩ : ∃ ad, A = some ad := by
      cases A with
      | none => exact absurd (hA rfl) hm
      | some ad => exact ⟨ad, rfl⟩
    have hnews := hnews ad rfl
    have hlen : (us ++ news).length = (n + m) * i.size := by rw [List.length_append, hul, hl, Nat.add_mul]
    -- the new block
    have grown : ∀ (old : Nat), ∃ arr, arr = us.toArray ++ news.toArray ++ Builtin.zeroCells z.cells (grownCap w (n + m) old e - (n + m)) ∧
        Row (w.drew.alloc (.cells arr e)) ⟨w.heap.size, 0, none⟩ (n + m) (grownCap w (n + m) old e) i.size (us ++ news) arr e := by
      intro old
      have hge := grownCap_ge w (n + m) old e
      have hcm : grownCap w (n + m) old e ≤ maxLen := grownCap_le_maxLen w (n + m) old e h63
      refine ⟨_, rfl, heap_alloc_new w.drew _, rfl, hge, hcm, ?_, hlen, fun k hk => ?_, fun u hu => ?_⟩
      · simp only [Array.size_append, List.size_toArray, size_zeroCells, hzs, hul, hl, Nat.zero_add, ← Nat.add_mul]
        apply Nat.le_of_eq
        congr 1
        omega
      · rw [Nat.zero_add, Array.getElem?_append_left (by simp [hul, hl, ← Nat.add_mul]; omega), List.append_toArray, List.getElem?_toArray]
      · rcases List.mem_append.1 hu with h | h
        · exact hu1 u h
        · exact h1 u h
    have gl : ∀ (arr : Array Value), (∀ k, k < w.heap.size → (w.drew.alloc (.cells arr e)).heap[k]? = w.heap[k]?) := fun arr k hk => heap_alloc_old w.drew _ k hk
    rcases hown with ⟨rfl, h0, h2⟩ | ⟨a, cap, vs, ty', rfl, hr⟩
    · subst h0 h2
      obtain ⟨arr, harr, hrow⟩ := grown 0
      have hrun := run_append_nil (P := P) w t ty e i z ht hi hz ad m c news hl hnews (by omega) (by omega) (by have hb := hbytes; simp only [Nat.zero_add] at hb; omega)
      simp only [Nat.zero_add, List.nil_append, Array.empty_append] at harr hrow ⊢
      rw [← harr] at hrun
      exact ⟨_, _, hrun, .inr ⟨_, _, arr, e, rfl, hrow, .inr rfl⟩, rfl, rfl, rfl, by simp, fun k hk _ => gl arr k hk, fun h => absurd h (by omega)⟩
    · by_cases hroom : n + m ≤ cap
      · have hfit : a.off + n * i.size + news.length ≤ vs.size := by
          have h3 := hr.fit
          have h4 : (n + m) * i.size ≤ cap * i.size := Nat.mul_le_mul_right _ hroom
          rw [Nat.add_mul] at h4
          omega
        have hf := run_firstCells_some (P := P) w i.size m ad m c news hl hnews
        have hst := run_storeCells_at P a.block (a.off + n * i.size) ty' news 0 vs w hr.heap (by simpa using hfit) h1
        simp only [Nat.add_zero] at hst
        have hheap := setRow_heap w a.block vs (vs.toList.take (a.off + n * i.size) ++ news ++ vs.toList.drop (a.off + n * i.size + news.length)).toArray ty' (0, 0) hr.heap
        refine ⟨.slice (some a) (n + m) cap, w.setRow a.block (spl vs.toList (a.off + n * i.size) news).toArray, ?_, .inr ⟨a, cap, (spl vs.toList (a.off + n * i.size) news).toArray, ty', rfl, ?_, .inl ⟨a, n, cap, rfl, rfl⟩⟩, rfl, rfl, rfl, by simp, fun k _ hk => setRow_other w a.block k _ (hk a n cap rfl), fun h => absurd h (by omega)⟩
        · simp only [spl]
          rw [← row_add a hr.spot] at hst
          simp [Builtin.append_, run_underlying ht, sizeOf, typeInfo, hi, Builtin.lenOf, hroom, hf, hst]
        · have hfl : a.off + n * i.size + news.length ≤ vs.toList.length := by simpa using hfit
          refine ⟨hheap, hr.spot, hroom, hr.max, by rw [List.size_toArray, spl_len hfl]; exact hr.fit, hlen, fun k hk => ?_, fun u hu => ?_⟩
          · rw [List.getElem?_toArray, spl_get hfl]
            by_cases hk1 : k < n * i.size
            · rw [if_neg (by omega), Array.getElem?_toList, hr.cells k hk1, List.getElem?_append_left (by omega)]
            · rw [Nat.add_mul] at hk
              rw [if_pos (by omega), List.getElem?_append_right (by omega)]
              congr 1
              omega
          · rcases List.mem_append.1 hu with h | h
            · exact hu1 u h
            · exact h1 u h
      · obtain ⟨arr, harr, hrow⟩ := grown cap
        have hrun := run_append_grow (P := P) w t ty e i z ht hi hz a n cap us hul (fun j u hu => hr.cell hu) ad m c news hl hnews (by omega) (by omega) (growslice_fits (by omega) hbytes)
        rw [← harr] at hrun
        exact ⟨_, _, hrun, .inr ⟨_, _, arr, e, rfl, hrow, .inr rfl⟩, rfl, rfl, rfl, by simp, fun k hk _ => gl arr k hk, fun h => absurd h (by omega)⟩
end
end Go.Ab

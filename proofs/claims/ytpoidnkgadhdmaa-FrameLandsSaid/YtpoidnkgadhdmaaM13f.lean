/- A drawn region up to a bar: whatever order is drawn, those below the bar come ahead of it. No condition but those of the operations. -/
import Derived.Test.YtpoidnkgadhdmaaM13d
namespace Go.Ab
open Go.RowKit
set_option linter.unusedVariables false

theorem blt_t {a b : Nat} (h : a < b) : a.blt b = true := by simpa using h
theorem blt_f {a b : Nat} (h : b ≤ a) : a.blt b = false := by
  cases hb : a.blt b with
  | false => rfl
  | true => have : a < b := by simpa using hb
            omega
theorem lt_of_blt {a b : Nat} (h : a.blt b = true) : a < b := by simpa using h
theorem le_of_blt {a b : Nat} (h : a.blt b = false) : b ≤ a := by
  rcases Nat.lt_or_ge a b with h' | h'
  · rw [blt_t h'] at h; cases h
  · exact h'
/-- Those below a number are listed. -/
def upTo (n m : Nat) : Array Bool := ((List.range n).map fun i => i.blt m).toArray
theorem upTo_size (n m : Nat) : (upTo n m).size = n := by simp [upTo]
theorem upTo_get {n m i : Nat} (h : i < n) (d : Bool) : (upTo n m).getD i d = i.blt m := by
  simp [upTo, h]
theorem upTo_zero (n : Nat) : upTo n 0 = Array.replicate n false := by
  apply Array.ext
  · simp [upTo]
  · intro i h1 h2
    have : i.blt 0 = false := blt_f (Nat.zero_le _)
    simpa [upTo] using this
theorem listed_eq {n m : Nat} {listed : Array Bool} (hsz : listed.size = n) (h1 : ∀ i, i < n → i < m → listed.getD i true = true) (h2 : ∀ i, i < n → m ≤ i → listed.getD i true = false) : listed = upTo n m := by
  apply Array.ext
  · rw [hsz, upTo_size]
  · intro i hi1 hi2
    have hin : i < n := by omega
    have e1 : listed.getD i true = listed[i] := by simp [hi1]
    have e2 : (upTo n m).getD i true = (upTo n m)[i] := by simp [hi2]
    rw [← e1, ← e2, upTo_get hin]
    by_cases hm : i < m
    · rw [h1 i hin hm, blt_t hm]
    · rw [h2 i hin (by omega), blt_f (by omega)]

theorem bar_from {bs : List Nat} {k : Nat} : ∀ {l : List Oper} {i : Nat}, barFrom bs k i l = true → ∀ j, j < l.length → k ≤ i + j → ∀ q, q < k → (nth 0 bs (i + j)).testBit q = true
  | [], i, _, j, hj, _, q, _ => by simp at hj
  | o :: l, i, h, j, hj, hk, q, hq => by
    simp only [barFrom] at h
    cases hb : i.blt k with
    | true =>
      simp only [hb, cond_true] at h
      have hik : i < k := by simpa using hb
      cases j with
      | zero => omega
      | succ j =>
        have := bar_from h j (by simpa using hj) (by omega) q hq
        rwa [show i + 1 + j = i + (j + 1) by omega] at this
    | false =>
      simp only [hb, cond_false, Bool.and_eq_true] at h
      obtain ⟨h0, h⟩ := h
      cases j with
      | zero =>
        have h1 : (nth 0 bs i) &&& (2 ^ k - 1) = 2 ^ k - 1 := (beq_iff _ _).1 h0
        have h2 : ((nth 0 bs i) &&& (2 ^ k - 1)).testBit q = true := by
          rw [h1, Nat.testBit_two_pow_sub_one]
          simpa using hq
        rw [Nat.testBit_and] at h2
        simp only [Bool.and_eq_true] at h2
        simpa using h2.1
      | succ j =>
        have hik : k ≤ i := le_of_blt hb
        have := bar_from h j (by simpa using hj) (by omega) q hq
        rwa [show i + 1 + j = i + (j + 1) by omega] at this
theorem bar_at {ops : List Oper} {k : Nat} (h : barAt ops k = true) {i : Nat} (hi : i < ops.length) (hk : k ≤ i) {q : Nat} (hq : q < k) : (nth 0 (behind ops) i).testBit q = true := by
  have := bar_from h i hi (by omega) q hq
  rwa [Nat.zero_add] at this

section
variable {P : Program} {E : Env} {C : Cal} {w0 : Bs} {I0 : Nat → Prop} {ov : List Value} {Q : Exit → Act → World → Prop} {ex : List (List Nat)}

/-- Whoever stands ahead of one by the edges is listed, where those at the edges are. -/
theorem ahead_listed {ops : Array Oper} (hok : drawOk ops.toList = true) {listed : Array Bool} (hsz : listed.size = ops.size)
    (hcl : ∀ (k : Nat) (o : Oper), ops[k]? = some o → listed.getD k true = true → ∀ e ∈ o.after, Region.binds .any e = true → listed.getD e.on false = true) :
    ∀ (k : Nat) (ok_ : Oper), ops[k]? = some ok_ → (∀ e ∈ ok_.after, Region.binds .any e = true → listed.getD e.on false = true) → ∀ q, (nth 0 (behind ops.toList) k).testBit q = true → listed.getD q true = true := by
  intro k
  induction k using Nat.strongRecOn with
  | _ k ihk =>
    intro ok_ hk hed q hq
    rw [behind_at (by rw [Array.getElem?_toList]; exact hk)] at hq
    obtain ⟨e, he, hbn, hor⟩ := mask_spec hq
    have hl := hed e (by simpa using he) hbn
    have hlt2 := edgesBelow_spec ((allOk_spec ops.toList 0 hok k ok_ (by rw [Array.getElem?_toList]; exact hk)).1) e he hbn
    simp only [Nat.zero_add] at hlt2
    have hks : k < ops.size := (Array.getElem?_eq_some_iff.1 hk).1
    have hl' : listed.getD e.on true = true := by
      have : e.on < listed.size := by omega
      simpa [this] using hl
    rcases hor with h | h
    · rw [← h]; exact hl'
    · have hnt : nth 0 ((behind ops.toList).take k) e.on = nth 0 (behind ops.toList) e.on := by rw [nth_eq, nth_eq, List.getElem?_take_of_lt hlt2]
      rw [hnt] at h
      have hon : ops[e.on]? = some (ops[e.on]'(by omega)) := Array.getElem?_eq_getElem (by omega)
      exact ihk e.on hlt2 _ hon (hcl e.on _ hon hl') q h

/-- One all below which are listed is ready. -/
theorem ready_of {ops : Array Oper} (hok : drawOk ops.toList = true) {listed : Array Bool} (hsz : listed.size = ops.size) {i : Nat} (hi : i < ops.size) (h0 : listed.getD i true = false) (hmin : ∀ j, j < i → listed.getD j true = true) :
    i ∈ Region.ready .any ops listed := by
  rw [mem_ready]
  refine ⟨h0, ops[i]'hi, Array.getElem?_eq_getElem hi, fun e he hb => ?_⟩
  have hlt := edgesBelow_spec ((allOk_spec ops.toList 0 hok i _ (by rw [Array.getElem?_toList]; exact Array.getElem?_eq_getElem hi)).1) e (by simpa using he) hb
  simp only [Nat.zero_add] at hlt
  have := hmin e.on hlt
  have hlt2 : e.on < listed.size := by omega
  simpa [hlt2] using this

theorem draw_seg (hE : EnvOk P w0.G E C) {ops : Array Oper} (hok : drawOk ops.toList = true) {m : Nat} (hm : m ≤ ops.size) (hbar : ∀ i, m ≤ i → i < ops.size → ∀ q, q < m → (nth 0 (behind ops.toList) i).testBit q = true)
    {fin : ASt} {fe : Nat} (hQ : ∀ a w, Sim w0 I0 fin a ov w → wpAny P .any ops Q fe (upTo ops.size m) a w) :
    ∀ (n : Nat) (listed : Array Bool) (st : ASt) (a : Act) (w : World), listed.size = ops.size → (unlisted m listed).length = n →
      (∀ (k : Nat) (o : Oper), ops[k]? = some o → listed.getD k true = true → ∀ e ∈ o.after, Region.binds .any e = true → listed.getD e.on false = true) →
      (∀ k, m ≤ k → k < ops.size → listed.getD k true = false) →
      RunIdx E C ex ops.toList (unlisted m listed) st fin → Sim w0 I0 st a ov w → wpAny P .any ops Q (n + fe) listed a w := by
  intro n
  induction n with
  | zero =>
    intro listed st a w hsz hlen hcl hup h hs
    have hnil : unlisted m listed = [] := List.eq_nil_of_length_eq_zero hlen
    rw [hnil] at h
    cases h
    have : listed = upTo ops.size m := listed_eq hsz (fun i hi him => by
      cases hb : listed.getD i true with
      | true => rfl
      | false =>
        exfalso
        have : i ∈ unlisted m listed := by simp only [unlisted, List.mem_filter, List.mem_range, Bool.not_eq_true']; exact ⟨him, hb⟩
        rw [hnil] at this
        cases this) (fun i hi him => hup i him hi)
    rw [this, Nat.zero_add]
    exact hQ a w hs
  | succ n ih =>
    intro listed st a w hsz hlen hcl hup h hs
    rw [show n + 1 + fe = (n + fe) + 1 by omega]
    obtain ⟨i0, l0, hu⟩ : ∃ i0 l0, unlisted m listed = i0 :: l0 := by
      cases hu : unlisted m listed with
      | nil => rw [hu] at hlen; cases hlen
      | cons i l => exact ⟨i, l, rfl⟩
    have hsortedA : (unlisted m listed).Pairwise (· < ·) := List.Pairwise.filter _ List.pairwise_lt_range
    have hmem0 : i0 ∈ unlisted m listed := by rw [hu]; exact List.mem_cons_self
    have hmem0' := hmem0
    simp only [unlisted, List.mem_filter, List.mem_range, Bool.not_eq_true'] at hmem0'
    have hmin : ∀ j, j < i0 → listed.getD j true = true := by
      intro j hj
      cases hb : listed.getD j true with
      | true => rfl
      | false =>
        exfalso
        have hjm : j ∈ unlisted m listed := by
          simp only [unlisted, List.mem_filter, List.mem_range, Bool.not_eq_true']
          exact ⟨by omega, hb⟩
        rw [hu] at hjm hsortedA
        rcases List.mem_cons.1 hjm with h | h
        · omega
        · have := (List.pairwise_cons.1 hsortedA).1 j h
          omega
    have hr0 : i0 ∈ Region.ready .any ops listed := ready_of hok hsz (by omega) hmem0'.2 hmin
    refine ⟨fun hr => (by rw [hr] at hr0; cases hr0), fun i hi => ?_⟩
    rw [mem_ready] at hi
    obtain ⟨h0, o, ho, hedges⟩ := hi
    have hlt : i < ops.size := (Array.getElem?_eq_some_iff.1 ho).1
    have him : i < m := by
      rcases Nat.lt_or_ge i m with h | h
      · exact h
      · exfalso
        have := ahead_listed hok hsz hcl i o ho hedges i0 (hbar i h hlt i0 hmem0'.1)
        rw [hmem0'.2] at this
        cases this
    have hmem : i ∈ unlisted m listed := by
      simp only [unlisted, List.mem_filter, List.mem_range, Bool.not_eq_true']
      exact ⟨him, h0⟩
    obtain ⟨pre, post, hsplit⟩ := List.append_of_mem hmem
    have hsorted := hsortedA
    rw [hsplit] at hsorted h
    have hpre : ∀ j ∈ pre, j < i ∧ (nth 0 (behind ops.toList) i).testBit j = false := by
      intro j hj
      refine ⟨(List.pairwise_append.1 hsorted).2.2 j hj i List.mem_cons_self, ?_⟩
      cases hb : (nth 0 (behind ops.toList) i).testBit j with
      | false => rfl
      | true =>
        exfalso
        have h1 := ahead_listed hok hsz hcl i o ho hedges j hb
        have : j ∈ unlisted m listed := by rw [hsplit]; exact List.mem_append_left _ hj
        simp only [unlisted, List.mem_filter, List.mem_range, Bool.not_eq_true'] at this
        rw [this.2] at h1
        cases h1
    obtain ⟨s1, k1, k2⟩ := move_front pre i o post st fin (by rw [Array.getElem?_toList]; exact ho) hpre hok h
    refine wpOp_mono (fun a' w' hs' => ?_) (opN_sound hE (i := itemAt ex ops.toList (behind ops.toList) i o) ho hs k1)
    have hil : i < listed.size := by omega
    have hnew : unlisted m (listed.setIfInBounds i true) = pre ++ post := by
      have hnd : (pre ++ i :: post).Nodup := hsorted.imp (fun h => Nat.ne_of_lt h)
      have : unlisted m (listed.setIfInBounds i true) = (unlisted m listed).filter (fun j => j ≠ i) := by
        simp only [unlisted, List.filter_filter]
        apply List.filter_congr
        intro j hj
        by_cases hji : j = i
        · subst hji
          simp [hil]
        · have : (listed.setIfInBounds i true).getD j true = listed.getD j true := getD_set_ne true (fun e => hji e.symm)
          rw [this]
          simp [hji]
      rw [this, hsplit, List.filter_append, List.filter_cons]
      have hni : i ∉ pre ∧ i ∉ post := by
        rw [List.nodup_append] at hnd
        refine ⟨fun hm => hnd.2.2 i hm i List.mem_cons_self rfl, (List.nodup_cons.1 hnd.2.1).1⟩
      simp only [ne_eq, not_true_eq_false, decide_false, Bool.false_eq_true, if_false]
      rw [List.filter_eq_self.2 (fun j hj => by simp; rintro rfl; exact hni.1 hj), List.filter_eq_self.2 (fun j hj => by simp; rintro rfl; exact hni.2 hj)]
    refine ih (listed.setIfInBounds i true) s1 a' w' (by simpa using hsz) ?_ ?_ ?_ (by rw [hnew]; exact k2) hs'
    · rw [hnew]
      rw [hsplit] at hlen
      simp at hlen ⊢
      omega
    · intro k ok_ hk hl e he hb
      by_cases hki : k = i
      · subst hki
        rw [ho] at hk
        cases hk
        exact getD_set_true (hedges e he hb)
      · rw [getD_set_ne true (fun e => hki e.symm)] at hl
        exact getD_set_true (hcl k ok_ hk hl e he hb)
    · intro k hk hks
      rw [getD_set_ne true (by omega)]
      exact hup k hk hks

/-- From one bar to the next. -/
theorem draw_bar (hE : EnvOk P w0.G E C) {ops : Array Oper} (hok : drawOk ops.toList = true) {j m : Nat} (hjm : j ≤ m) (hm : m ≤ ops.size) (hbar : ∀ i, m ≤ i → i < ops.size → ∀ q, q < m → (nth 0 (behind ops.toList) i).testBit q = true)
    {fin st : ASt} {fe : Nat} (hQ : ∀ a w, Sim w0 I0 fin a ov w → wpAny P .any ops Q fe (upTo ops.size m) a w) {a : Act} {w : World}
    (h : RunIdx E C ex ops.toList (List.range' j (m - j)) st fin) (hs : Sim w0 I0 st a ov w) : wpAny P .any ops Q (m - j + fe) (upTo ops.size j) a w := by
  have hun : unlisted m (upTo ops.size j) = List.range' j (m - j) := by
    have e1 : m = j + (m - j) := by omega
    unfold unlisted
    conv => lhs; rw [e1, List.range_add, List.filter_append]
    have h1 : (List.range j).filter (fun i => !(upTo ops.size j).getD i true) = [] := by
      rw [List.filter_eq_nil_iff]
      intro i hi
      have : i < j := by simpa using hi
      rw [upTo_get (by omega), blt_t this]
      simp
    have h2 : ((List.range (m - j)).map (j + ·)).filter (fun i => !(upTo ops.size j).getD i true) = (List.range (m - j)).map (j + ·) := by
      rw [List.filter_eq_self]
      intro i hi
      simp only [List.mem_map, List.mem_range] at hi
      obtain ⟨k, hk, rfl⟩ := hi
      rw [upTo_get (by omega), blt_f (by omega)]
      rfl
    rw [h1, h2, List.nil_append, List.range'_eq_map_range]
  refine draw_seg (ex := ex) hE hok hm hbar hQ (m - j) (upTo ops.size j) st a w (upTo_size _ _) (by rw [hun]; simp) (fun k o hk hl e he hb => ?_) (fun k hk hks => ?_) (by rw [hun]; exact h) hs
  · have hks : k < ops.size := (Array.getElem?_eq_some_iff.1 hk).1
    rw [upTo_get hks] at hl
    have hkj : k < j := lt_of_blt hl
    have hlt2 := edgesBelow_spec ((allOk_spec ops.toList 0 hok k o (by rw [Array.getElem?_toList]; exact hk)).1) e (by simpa using he) hb
    simp only [Nat.zero_add] at hlt2
    rw [upTo_get (by omega), blt_t (by omega)]
  · rw [upTo_get hks]
    exact blt_f (by omega)
end
end Go.Ab

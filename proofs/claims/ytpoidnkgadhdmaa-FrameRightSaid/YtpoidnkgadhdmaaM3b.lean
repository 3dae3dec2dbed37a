/- Trees that are closed for good at the end of a way, and slices that are lengthened, told by closed values. No condition. -/
import Derived.Test.YtpoidnkgadhdmaaM3
namespace Go.Ab
open Go.RowKit
set_option linter.unusedVariables false
section
variable {P : Program} {w w' : World} {I I' : Nat → Prop} {x y : TV} {u v : Value} {S : Nat → Prop}

/-- What has no block of its own stands for good. -/
theorem RepO.empty (h : RepO w I x v S) : (∀ b, ¬ S b) → Rep w I x v := by
  induction h with
  | fr h => intro _; exact h
  | sl us vs ty F hS => intro hn; exact absurd hS (hn _)
  | @buf s e v S h hS =>
    intro hn
    rcases h.2 with ⟨rfl, h0⟩ | ⟨g, cap, cur, fz, rfl, _⟩
    · exact .buf e h0
    · exact absurd (hS g rfl) (hn _)
  | @agg cs vs S F hl h1 hr hF hd ih => intro hn; exact .agg hl h1 (fun j c hj => ih j c hj (fun b hb => hn b (hF j b hb)))
  | @tup cs vs S F hl hr hF hd ih => intro hn; exact .tup hl (fun j c hj => ih j c hj (fun b hb => hn b (hF j b hb)))

theorem nd_frz (x : TV) : (frz x).nd = x.nd := by
  cases x <;> simp [frz, TV.nd, frzLL_eq]

theorem Node.frz : ∀ {q : Way} {x : TV} {u v : Value} {nd : Option (Nat × Nat)}, Node w q x u v nd → Node w q (frz x) u v nd
  | [], x, u, v, nd, h => ⟨h.1, by rw [nd_frz]; exact h.2⟩
  | (k, j) :: q, x, u, v, nd, ⟨o, s, xs, a, n, cap, e, y, u', hx, hu, he, hy, hc, h⟩ => by
    subst hx
    refine ⟨false, s, xs.map fun x => x.map Ab.frz, a, n, cap, e.map Ab.frz, Ab.frz y, u', by simp [Ab.frz, frzLL_eq], hu, by simp [he], by simp [hy], hc, Node.frz h⟩

/-- A slice of one's own is lengthened. -/
theorem RepO.app {s : Nat} {news : List (List TV)} (h : RepO w I x v S) (hp : papp s x news = some y) : ∃ n us, Own w s v n us ∧ n + news.length ≤ room ∧ slLen y = some (n + news.length) ∧ (∀ a m c, v = .slice (some a) m c → S a.block) ∧ (∃ a c, v = .slice a n c) ∧
    ∀ (w' : World) (v' : Value) (us2 : List Value) (T : Nat → Nat → Prop), us2.length = news.length * s → (∀ x ∈ news, x.length = s) → (∀ (k : Nat) (c : TV), news.flatten[k]? = some c → RepO w I c (us2.getD k undef) (T k)) →
      (∀ k k' b, T k b → T k' b → k = k') → (∀ b, I b → b < w.heap.size) → (∀ b, S b → b < w.heap.size ∧ ¬ I b) → (∀ k b, T k b → b < w.heap.size ∧ ¬ S b) → Grown w w' s v v' (n + news.length) (us ++ us2) →
      RepO w' I y v' (fun b => S b ∨ (b = w.heap.size ∧ b < w'.heap.size) ∨ ∃ k, T k b) ∧ (∃ a c, v' = .slice a (n + news.length) c) := by
  -- what both have in common
  have core : ∀ (xs : List (List TV)) (us : List Value) (F : Nat → Nat → Prop), (∀ x ∈ xs, x.length = s) → us.length = xs.length * s → (∀ (k : Nat) (c : TV), xs.flatten[k]? = some c → RepO w I c (us.getD k undef) (F k)) →
      (∀ k b, F k b → S b ∧ ∀ a m c, v = .slice (some a) m c → b ≠ a.block) → (∀ k k' b, F k b → F k' b → k = k') →
      ∀ (w' : World) (a : Addr) (cap : Nat) (vs : Array Value) (ty : TypeId) (us2 : List Value) (T : Nat → Nat → Prop), us2.length = news.length * s → (∀ x ∈ news, x.length = s) → (∀ (k : Nat) (c : TV), news.flatten[k]? = some c → RepO w I c (us2.getD k undef) (T k)) →
      (∀ k k' b, T k b → T k' b → k = k') → (∀ b, I b → b < w.heap.size) → (∀ b, S b → b < w.heap.size ∧ ¬ I b) → (∀ k b, T k b → b < w.heap.size ∧ ¬ S b) → (∀ a m c, v = .slice (some a) m c → S a.block) →
      Row w' a (xs.length + news.length) cap s (us ++ us2) vs ty → ((∃ a' n' c', v = .slice (some a') n' c' ∧ a'.block = a.block) ∨ a.block = w.heap.size) →
      (∀ k, k < w.heap.size → (∀ a n c, v = .slice (some a) n c → k ≠ a.block) → w'.heap[k]? = w.heap[k]?) →
      RepO w' I (.sl true s (xs ++ news)) (.slice (some a) (xs.length + news.length) cap) (fun b => S b ∨ (b = w.heap.size ∧ b < w'.heap.size) ∨ ∃ k, T k b) := by
    intro xs us F hl hul hr hF hd w' a cap vs ty us2 T hul2 hl2 hr2 hd2 hI hS hT hva hrow hab hblk
    have hfl := flat_len hl
    have hfl2 := flat_len hl2
    have keep : ∀ b, b < w.heap.size → (∀ a m c, v = .slice (some a) m c → b ≠ a.block) → w'.heap[b]? = w.heap[b]? := hblk
    have hIk : ∀ b, I b → w'.heap[b]? = w.heap[b]? := fun b hb => keep b (hI b hb) (fun a m c hv e => (hS _ (hva a m c hv)).2 (e ▸ hb))
    have hablk : S a.block ∨ a.block = w.heap.size := by
      rcases hab with ⟨a', n', c', h1, h2⟩ | h1
      · exact .inl (h2 ▸ hva a' n' c' h1)
      · exact .inr h1
    have hTa : ∀ k b, T k b → b ≠ a.block := fun k b hb e => by
      rcases hablk with h1 | h1
      · exact (hT k b hb).2 (e ▸ h1)
      · have := (hT k b hb).1; omega
    have hFa : ∀ k b, F k b → b ≠ a.block := fun k b hb e => by
      rcases hab with ⟨a', n', c', h1, h2⟩ | h1
      · exact (hF k b hb).2 a' n' c' h1 (e.trans h2.symm)
      · have := (hS b (hF k b hb).1).1; omega
    have key : RepO w' I (.sl true s (xs ++ news)) (.slice (some a) (xs ++ news).length cap) (fun b => S b ∨ (b = w.heap.size ∧ b < w'.heap.size) ∨ ∃ k, T k b) := by
      refine .sl (us ++ us2) vs ty (fun k b => if k < xs.length * s then F k b else T (k - xs.length * s) b) ?_ (by rw [List.length_append]; exact hrow) (fun x hx => ?_) (fun k c hc => ?_) (fun k b hb => ?_) (fun k k' b hb hb' => ?_)
      · rcases hablk with h1 | h1
        · exact .inl h1
        · exact .inr (.inl ⟨h1, (Array.getElem?_eq_some_iff.1 hrow.heap).1⟩)
      · rcases List.mem_append.1 hx with h1 | h1
        · exact hl x h1
        · exact hl2 x h1
      · rw [List.flatten_append] at hc
        by_cases hk : k < xs.length * s
        · simp only [hk, if_true]
          rw [List.getElem?_append_left (by omega)] at hc
          have := hr k c hc
          rw [List.getD_eq_getElem?_getD, List.getElem?_append_left (by omega), ← List.getD_eq_getElem?_getD]
          exact this.mv hIk (fun _ h => h) (fun b hb => keep b (hS b (hF k b hb).1).1 (hF k b hb).2) (fun _ h => h)
        · simp only [hk, if_false]
          rw [List.getElem?_append_right (by omega), hfl] at hc
          have := hr2 _ c hc
          rw [List.getD_eq_getElem?_getD, List.getElem?_append_right (by omega), hul, ← List.getD_eq_getElem?_getD]
          exact this.mv hIk (fun _ h => h) (fun b hb => keep b (hT _ b hb).1 (fun a' m c' hv e => (hT _ b hb).2 (e ▸ hva a' m c' hv))) (fun _ h => h)
      · by_cases hk : k < xs.length * s
        · simp only [hk, if_true] at hb
          exact ⟨.inl (hF k b hb).1, hFa k b hb⟩
        · simp only [hk, if_false] at hb
          exact ⟨.inr (.inr ⟨_, hb⟩), hTa _ b hb⟩
      · by_cases hk : k < xs.length * s <;> by_cases hk' : k' < xs.length * s
        · simp only [hk, hk', if_true] at hb hb'
          exact hd _ _ b hb hb'
        · simp only [hk, hk', if_true, if_false] at hb hb'
          exact absurd (hF k b hb).1 (hT _ b hb').2
        · simp only [hk, hk', if_true, if_false] at hb hb'
          exact absurd (hF k' b hb').1 (hT _ b hb).2
        · simp only [hk, hk', if_false] at hb hb'
          have := hd2 _ _ b hb hb'
          omega
    rwa [List.length_append] at key
  unfold papp at hp
  split at hp
  · split at hp
    · rename_i hroom
      simp only [Option.some.injEq] at hp
      subst hp
      have := repO_lit h
      subst this
      refine ⟨0, [], .inl ⟨rfl, rfl, rfl⟩, by omega, ?_, fun a m c hv => (by cases hv), ⟨none, 0, rfl⟩, ?_⟩
      · cases news <;> simp [rowT, slLen, nilV]
      intro w' v' us2 T hul2 hl2 hr2 hd2 hI hS hT hg
      rcases hg.form with ⟨e1, e2, e3, e4, e5⟩ | ⟨a, cap, vs, ty, e1, hrow, hab⟩
      · have : news = [] := List.eq_nil_of_length_eq_zero (by omega)
        subst this
        subst e1
        exact ⟨.fr (.lit _), none, 0, rfl⟩
      · subst e1
        have hab' : a.block = w.heap.size := by
          rcases hab with ⟨a', n', c', h1, h2⟩ | h1
          · cases h1
          · exact h1
        have r := core [] [] (fun _ _ => False) (by simp) (by simp) (by simp) (fun _ _ h => h.elim) (fun _ _ _ h => h.elim) w' a cap vs ty us2 T hul2 hl2 hr2 hd2 hI hS hT (fun a m c hv => by cases hv) (by simpa using hrow) (.inr hab') hg.block
        simp only [List.length_nil, Nat.zero_add, List.nil_append] at r ⊢
        refine ⟨?_, _, _, rfl⟩
        cases hn : news with
        | nil => subst hn; have := hg.keep rfl; cases this
        | cons z l => rw [hn] at r; simpa [rowT] using r
    · cases hp
  · rename_i s' xs
    split at hp
    · rename_i hc
      obtain ⟨rfl, hroom⟩ := hc
      simp only [Option.some.injEq] at hp
      subst hp
      cases h with
      | fr h => cases h
      | @sl _ _ a cap S us vs ty F hS row hl hr hF hd =>
        refine ⟨xs.length, us, .inr ⟨a, cap, vs, ty, rfl, row⟩, hroom, by simp [slLen], fun a' m c hv => by cases hv; exact hS, ⟨_, _, rfl⟩, ?_⟩
        intro w' v' us2 T hul2 hl2 hr2 hd2 hI hS' hT hg
        rcases hg.form with ⟨e1, e2, e3, e4, e5⟩ | ⟨a2, cap2, vs2, ty2, e1, hrow2, hab⟩
        · cases e2
        · subst e1
          exact ⟨core xs us F hl row.len hr (fun k b hb => ⟨(hF k b hb).1, fun a' m c hv => by cases hv; exact (hF k b hb).2⟩) hd w' a2 cap2 vs2 ty2 us2 T hul2 hl2 hr2 hd2 hI hS' hT (fun a' m c hv => by cases hv; exact hS) hrow2 hab hg.block, _, _, rfl⟩
    · cases hp
  · cases hp
end
end Go.Ab

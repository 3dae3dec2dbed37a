/- Ways into trees, and what becomes of trees where something in them is set, taken out, closed, or grows. No condition. -/
import Derived.Test.YtpoidnkgadhdmaaM1
namespace Go.Ab
open Go.RowKit
set_option linter.unusedVariables false

def TV.nd (x : TV) : Option (Nat × Nat) := match x with | .sl _ s xs => some (s, xs.length) | _ => none

/-- What lies at the end of a way: its value, and, of a slice, the size and number of its elements. -/
def Node (w : World) : Way → TV → Value → Value → Option (Nat × Nat) → Prop
  | [], x, u, v, nd => v = u ∧ nd = x.nd
  | (k, j) :: p, x, u, v, nd => ∃ o s xs a n cap e y u', x = .sl o s xs ∧ u = .slice (some a) n cap ∧ xs[k]? = some e ∧ e[j]? = some y ∧ w.cell? (a.add (k * s + j)) = some u' ∧ Node w p y u' v nd

section
variable {w w' : World} {I I' : Nat → Prop} {x y : TV} {u v : Value} {S : Nat → Prop}

theorem getD_some {l : List Value} {k : Nat} {u : Value} (h : l[k]? = some u) : l.getD k undef = u := by simp [h]

/-- A cell of a slice. -/
theorem RepO.child {o : Bool} {s : Nat} {xs : List (List TV)} (h : RepO w I (.sl o s xs) u S) {k j : Nat} {e : List TV} {y : TV} (hk : xs[k]? = some e) (hj : e[j]? = some y) :
    ∃ a cap u' S', u = .slice (some a) xs.length cap ∧ w.cell? (a.add (k * s + j)) = some u' ∧ u'.oneCell' = true ∧ RepO w I y u' S' ∧ (∀ b, S' b → S b) ∧ (S a.block ∨ I a.block) ∧ e.length = s := by
  have hlt : k < xs.length := (List.getElem?_eq_some_iff.1 hk).1
  cases h with
  | fr h =>
    cases h with
    | @sl _ _ a cap cell hI hc hm hl hcell h1 hr =>
      have hel := hl e (List.mem_of_getElem? hk)
      have hf : k * s + j < xs.length * s := by
        have hj' := (List.getElem?_eq_some_iff.1 hj).1
        have := Nat.mul_le_mul_right s (Nat.succ_le_of_lt hlt)
        rw [Nat.succ_mul] at this
        omega
      exact ⟨a, cap, _, fun _ => False, rfl, hcell _ hf, h1 _ hf, .fr (hr k e hk j y hj), fun _ h => h.elim, .inr (hI (by omega)), hel⟩
  | @sl _ _ a cap S us vs ty F hS row hl hr hF hd =>
    have hel := hl e (List.mem_of_getElem? hk)
    have hfg := flat_get hl hk hj
    have hlt2 : k * s + j < us.length := by
      rw [row.len, ← flat_len hl]
      exact (List.getElem?_eq_some_iff.1 hfg).1
    have hu := List.getElem?_eq_getElem hlt2
    refine ⟨a, cap, us[k * s + j], F (k * s + j), rfl, row.cell hu, row.one _ (List.getElem_mem hlt2), ?_, fun b hb => (hF _ b hb).1, .inl hS, hel⟩
    have := hr _ _ hfg
    rwa [getD_some hu] at this

theorem Node.mv : ∀ {p : Way} {x : TV} {u v : Value} {nd : Option (Nat × Nat)} {S : Nat → Prop}, RepO w I x u S → (∀ b, I b → w'.heap[b]? = w.heap[b]?) → (∀ b, S b → w'.heap[b]? = w.heap[b]?) → Node w p x u v nd → Node w' p x u v nd
  | [], x, u, v, nd, S, _, _, _, h => h
  | (k, j) :: p, x, u, v, nd, S, hr, hI, hS, ⟨o, s, xs, a, n, cap, e, y, u', hx, hu, he, hy, hc, h⟩ => by
    subst hx
    obtain ⟨a', cap', u2, S', h1, h2, h3, h4, h5, h6, h7⟩ := hr.child he hy
    rw [hu] at h1
    cases h1
    rw [hc] at h2
    cases h2
    refine ⟨o, s, xs, a, _, _, e, y, u', rfl, hu, he, hy, ?_, Node.mv h4 hI (fun b hb => hS b (h5 b hb)) h⟩
    rw [← hc]
    refine World.cell?_of_block ?_
    rw [add_block]
    rcases h6 with h6 | h6
    · exact hS _ h6
    · exact hI _ h6

/-- The value at the end of a way is there. -/
theorem RepO.get : ∀ {p : Way} {x y : TV} {u : Value} {S : Nat → Prop}, RepO w I x u S → getP p x = some y → ∃ v S', Node w p x u v y.nd ∧ RepO w I y v S' ∧ (∀ b, S' b → S b) ∧ (p ≠ [] → v.oneCell' = true)
  | [], x, y, u, S, hr, h => by
    simp only [getP, Option.some.injEq] at h
    subst h
    exact ⟨u, S, ⟨rfl, rfl⟩, hr, fun _ h => h, fun h => absurd rfl h⟩
  | (k, j) :: p, x, y, u, S, hr, h => by
    cases x with
    | sl o s xs =>
      simp only [getP] at h
      cases he : xs[k]? with
      | none => simp [he] at h
      | some e =>
        simp only [he] at h
        cases hz : e[j]? with
        | none => simp [hz] at h
        | some z =>
          simp only [hz] at h
          obtain ⟨a, cap, u', S1, h1, h2, h3, h4, h5, h6, h7⟩ := hr.child he hz
          obtain ⟨v, S2, n1, n2, n3, n4⟩ := RepO.get h4 h
          refine ⟨v, S2, ⟨o, s, xs, a, _, cap, e, z, u', rfl, h1, he, hz, h2, n1⟩, n2, fun b hb => h5 b (n3 b hb), fun _ => ?_⟩
          cases p with
          | nil => rw [n1.1]; exact h3
          | cons => exact n4 (by simp)
    | _ => simp [getP] at h

/-- A way has one end. -/
theorem Node.getP : ∀ {p : Way} {x : TV} {u v : Value} {nd : Option (Nat × Nat)}, Node w p x u v nd → ∃ y, Ab.getP p x = some y ∧ nd = y.nd
  | [], x, u, v, nd, h => ⟨x, rfl, h.2⟩
  | (k, j) :: p, x, u, v, nd, ⟨o, s, xs, a, n, cap, e, y, u', hx, hu, he, hy, hc, h⟩ => by
    subst hx
    obtain ⟨z, h1, h2⟩ := Node.getP h
    exact ⟨z, by simp only [Ab.getP, he, hy, h1], h2⟩
theorem Node.unique : ∀ {p : Way} {x : TV} {u v v' : Value} {nd nd' : Option (Nat × Nat)}, Node w p x u v nd → Node w p x u v' nd' → v = v' ∧ nd = nd'
  | [], x, u, v, v', nd, nd', h, h' => ⟨h.1.trans h'.1.symm, h.2.trans h'.2.symm⟩
  | (k, j) :: p, x, u, v, v', nd, nd', ⟨o, s, xs, a, n, cap, e, y, u', hx, hu, he, hy, hc, h⟩, ⟨o2, s2, xs2, a2, n2, cap2, e2, y2, u2, hx2, hu2, he2, hy2, hc2, h2⟩ => by
    subst hx
    cases hx2
    subst hu
    cases hu2
    rw [he] at he2
    cases he2
    rw [hy] at hy2
    cases hy2
    rw [hc] at hc2
    cases hc2
    exact Node.unique h h2

/-- Another value at the end of a way of one's own: where it stands has not turned. -/
theorem RepO.sub : ∀ {p : Way} {x y : TV} {u : Value} {S : Nat → Prop}, RepO w I x u S → getP p x = some y →
    ∃ v Sy, RepO w I y v Sy ∧ (∀ b, Sy b → S b) ∧ Node w p x u v y.nd ∧ (p ≠ [] → v.oneCell' = true) ∧
      ∀ (w' : World) (I' : Nat → Prop) (y' x' : TV) (S' : Nat → Prop), setP p x y' = some x' → (∀ b, I b → w'.heap[b]? = w.heap[b]?) → (∀ b, I b → I' b) → (∀ b, S b → ¬ Sy b → w'.heap[b]? = w.heap[b]?) →
        RepO w' I' y' v S' → (∀ b, S' b → S b → Sy b) → RepO w' I' x' u (fun b => (S b ∧ ¬ Sy b) ∨ S' b) ∧
        ∀ (q : Way) (v' : Value) (nd : Option (Nat × Nat)), (∀ q', q = p ++ q' → Node w q' y v v' nd → Node w' q' y' v v' nd) → Node w q x u v' nd → Node w' q x' u v' nd
  | [], x, y, u, S, hr, h => by
    simp only [Ab.getP, Option.some.injEq] at h
    subst h
    refine ⟨u, S, hr, fun _ h => h, ⟨rfl, rfl⟩, fun h => absurd rfl h, ?_⟩
    intro w' I' y' x' S' hs hI hII hh hr' hd
    simp only [setP, Option.some.injEq] at hs
    subst hs
    exact ⟨hr'.mono (fun b hb => .inr hb), fun q v' nd hq hn => hq q rfl hn⟩
  | (k, j) :: p, x, y, u, S, hr, h => by
    cases x with
    | sl o s xs =>
      simp only [Ab.getP] at h
      cases he : xs[k]? with
      | none => simp [he] at h
      | some e =>
        simp only [he] at h
        cases hz : e[j]? with
        | none => simp [hz] at h
        | some z =>
          simp only [hz] at h
          cases o with
          | false =>
            obtain ⟨v, S', n1, n2, n3, n4⟩ := RepO.get (p := (k, j) :: p) (y := y) hr (by simp only [Ab.getP, he, hz, h])
            refine ⟨v, S', n2, n3, n1, n4, ?_⟩
            intro w' I' y' x' S2 hs
            simp [setP] at hs
          | true =>
            cases hr with
            | fr h => cases h
            | @sl _ _ a cap S us vs ty F hS row hl hr hF hd =>
              have hel := hl e (List.mem_of_getElem? he)
              have hjl : j < e.length := (List.getElem?_eq_some_iff.1 hz).1
              have hfg := flat_get hl he hz
              have hlt2 : k * s + j < us.length := by
                rw [row.len, ← flat_len hl]
                exact (List.getElem?_eq_some_iff.1 hfg).1
              have hu := List.getElem?_eq_getElem hlt2
              have hrz := hr _ _ hfg
              rw [getD_some hu] at hrz
              obtain ⟨v, Sy, m1, m2, m3, m4, m5⟩ := RepO.sub hrz h
              have hSyF : ∀ b, Sy b → F (k * s + j) b := m2
              refine ⟨v, Sy, m1, fun b hb => (hF _ b (m2 b hb)).1, ⟨true, s, xs, a, _, cap, e, z, us[k * s + j], rfl, rfl, he, hz, row.cell hu, m3⟩, fun _ => ?_, ?_⟩
              · cases p with
                | nil => rw [m3.1]; exact row.one _ (List.getElem_mem hlt2)
                | cons => exact m4 (by simp)
              intro w' I' y' x' S' hs hI hII hh hr' hdis
              simp only [setP, he, hz] at hs
              cases hz' : setP p z y' with
              | none => simp [hz'] at hs
              | some z' =>
                simp only [hz', Option.some.injEq, setNth_eq] at hs
                subst hs
                have hablk : ¬ Sy a.block := fun hb => (hF _ _ (m2 _ hb)).2 rfl
                obtain ⟨r1, r2⟩ := m5 w' I' y' z' S' hz' hI hII (fun b hb hn => hh b (hF _ b hb).1 hn) hr' (fun b hb hb2 => hdis b hb (hF _ b hb2).1)
                have hset : e.set j z' = spl e j [z'] := by
                  apply List.ext_getElem?
                  intro m
                  rw [spl_get (by simp; omega), List.getElem?_set]
                  by_cases hjm : j = m
                  · subst hjm; simp [hjl]
                  · rw [if_neg hjm, if_neg (by simp; omega)]
                obtain ⟨f1, f2⟩ := flat_spl (ys := [z']) hl he (by simp; omega : j + [z'].length ≤ e.length)
                have hlen : (xs.set k (e.set j z')).length = xs.length := by simp
                have hrow : Row w' a (xs.set k (e.set j z')).length cap s us vs ty := by
                  rw [hlen]
                  exact ⟨by rw [hh _ hS hablk]; exact row.heap, row.spot, row.le, row.max, row.fit, row.len, row.cells, row.one⟩
                have hother : ∀ m c, m ≠ k * s + j → xs.flatten[m]? = some c → RepO w' I' c (us.getD m undef) (F m) := fun m c hm hc =>
                  (hr m c hc).mv hI hII (fun b hb => hh b (hF m b hb).1 (fun hs => hm (hd m _ b hb (m2 b hs)))) (fun _ h => h)
                constructor
                · have key : RepO w' I' (.sl true s (xs.set k (e.set j z'))) (.slice (some a) (xs.set k (e.set j z')).length cap) (fun b => (S b ∧ ¬ Sy b) ∨ S' b) := by
                    refine .sl us vs ty (fun m b => if m = k * s + j then (F (k * s + j) b ∧ ¬ Sy b) ∨ S' b else F m b) (.inl ⟨hS, hablk⟩) hrow (set_all hl (by simp [hel])) (fun m c hc => ?_) (fun m b hb => ?_) (fun m m' b hb hb' => ?_)
                    · rw [hset, f1, spl_get f2] at hc
                      by_cases hm : m = k * s + j
                      · subst hm
                        simp only [List.length_singleton, Nat.sub_self] at hc
                        rw [if_pos (by omega)] at hc
                        simp only [List.getElem?_cons_zero, Option.some.injEq] at hc
                        subst hc
                        simp only [if_true]
                        rw [getD_some hu]
                        exact r1
                      · rw [if_neg (by simp only [List.length_singleton]; omega)] at hc
                        simp only [hm, if_false]
                        exact hother m c hm hc
                    · by_cases hm : m = k * s + j
                      · subst hm
                        simp only [if_true] at hb
                        rcases hb with ⟨h1, h2⟩ | h1
                        · exact ⟨.inl ⟨(hF _ b h1).1, h2⟩, (hF _ b h1).2⟩
                        · exact ⟨.inr h1, fun e => by subst e; exact hablk (hdis _ h1 hS)⟩
                      · simp only [hm, if_false] at hb
                        exact ⟨.inl ⟨(hF _ b hb).1, fun hs => hm (hd _ _ b hb (m2 b hs))⟩, (hF _ b hb).2⟩
                    · by_cases hm : m = k * s + j <;> by_cases hm' : m' = k * s + j
                      · rw [hm, hm']
                      · simp only [hm, hm', if_true, if_false] at hb hb'
                        rcases hb with ⟨h1, h2⟩ | h1
                        · exact hm ▸ hd _ _ b h1 hb'
                        · exact hm ▸ hd _ _ b (m2 b (hdis b h1 (hF _ b hb').1)) hb'
                      · simp only [hm, hm', if_true, if_false] at hb hb'
                        rcases hb' with ⟨h1, h2⟩ | h1
                        · exact hm' ▸ hd _ _ b hb h1
                        · exact hm' ▸ hd _ _ b hb (m2 b (hdis b h1 (hF _ b hb).1))
                      · simp only [hm, hm', if_false] at hb hb'
                        exact hd _ _ b hb hb'
                  rwa [hlen] at key
                · intro q v' nd hq hn
                  cases q with
                  | nil =>
                    obtain ⟨e1, e2⟩ := hn
                    exact ⟨e1, by rw [e2]; simp [TV.nd]⟩
                  | cons kj q =>
                    obtain ⟨k1, j1⟩ := kj
                    obtain ⟨o2, s2, xs2, a2, n2, cap2, e2, y2, u2, hx2, hu2, he2, hy2, hc2, hn2⟩ := hn
                    cases hx2
                    cases hu2
                    have hblk : ∀ m, w'.cell? (a.add m) = w.cell? (a.add m) := fun m => World.cell?_of_block (by rw [add_block]; exact hh _ hS hablk)
                    by_cases hk1 : k1 = k
                    · subst hk1
                      rw [he] at he2
                      cases he2
                      have hk2 : k1 < xs.length := (List.getElem?_eq_some_iff.1 he).1
                      by_cases hj1 : j1 = j
                      · subst hj1
                        rw [hz] at hy2
                        cases hy2
                        have : u2 = us[k1 * s + j1] := by rw [row.cell hu] at hc2; exact (Option.some.inj hc2).symm
                        subst this
                        refine ⟨true, s, _, a, _, cap, e.set j1 z', z', us[k1 * s + j1], rfl, rfl, by rw [List.getElem?_set_self hk2], by rw [List.getElem?_set_self hjl], by rw [hblk]; exact hc2, ?_⟩
                        exact r2 q v' nd (fun q' hq' => hq q' (by rw [hq']; rfl)) hn2
                      · refine ⟨true, s, _, a, _, cap, e.set j z', y2, u2, rfl, rfl, by rw [List.getElem?_set_self hk2], by rw [List.getElem?_set_ne (fun h => hj1 h.symm)]; exact hy2, by rw [hblk]; exact hc2, ?_⟩
                        have hfg2 := flat_get hl he hy2
                        have hm : k1 * s + j1 ≠ k1 * s + j := by omega
                        have hr2 := hr _ _ hfg2
                        have hlt3 : k1 * s + j1 < us.length := by rw [row.len, ← flat_len hl]; exact (List.getElem?_eq_some_iff.1 hfg2).1
                        rw [getD_some (List.getElem?_eq_getElem hlt3)] at hr2
                        have : u2 = us[k1 * s + j1] := by rw [row.cell (List.getElem?_eq_getElem hlt3)] at hc2; exact (Option.some.inj hc2).symm
                        subst this
                        exact Node.mv hr2 hI (fun b hb => hh b (hF _ b hb).1 (fun hs => hm (hd _ _ b hb (m2 b hs)))) hn2
                    · refine ⟨true, s, _, a, _, cap, e2, y2, u2, rfl, rfl, by rw [List.getElem?_set_ne (fun h => hk1 h.symm)]; exact he2, hy2, by rw [hblk]; exact hc2, ?_⟩
                      have hfg2 := flat_get hl he2 hy2
                      have hel2 := hl e2 (List.mem_of_getElem? he2)
                      have hj2 : j1 < e2.length := (List.getElem?_eq_some_iff.1 hy2).1
                      have hm : k1 * s + j1 ≠ k * s + j := by
                        intro heq
                        rcases Nat.lt_or_gt_of_ne hk1 with h' | h'
                        · have := Nat.mul_le_mul_right s (Nat.succ_le_of_lt h')
                          rw [Nat.succ_mul] at this
                          omega
                        · have := Nat.mul_le_mul_right s (Nat.succ_le_of_lt h')
                          rw [Nat.succ_mul] at this
                          omega
                      have hr2 := hr _ _ hfg2
                      have hlt3 : k1 * s + j1 < us.length := by rw [row.len, ← flat_len hl]; exact (List.getElem?_eq_some_iff.1 hfg2).1
                      rw [getD_some (List.getElem?_eq_getElem hlt3)] at hr2
                      have : u2 = us[k1 * s + j1] := by rw [row.cell (List.getElem?_eq_getElem hlt3)] at hc2; exact (Option.some.inj hc2).symm
                      subst this
                      exact Node.mv hr2 hI (fun b hb => hh b (hF _ b hb).1 (fun hs => hm (hd _ _ b hb (m2 b hs)))) hn2
    | _ => simp [Ab.getP] at h
end
end Go.Ab

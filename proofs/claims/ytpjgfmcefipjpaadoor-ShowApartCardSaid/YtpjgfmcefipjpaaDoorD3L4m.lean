/-
  For any two modules the law ShowApart of layer 3 answers true (modules that may be shown have the same text only if they are the same, and a text ends with a line), and its arguments stay as they were.
  Conditions: none beyond the given row's own; the tables that its row lists are tied to the program's text by the card.
-/
import Derived.Test.YtpjgfmcefipjpaaDoorD3F25
import Derived.Test.YtpjgfmcefipjpaaDoorD3Ty
import Derived.Test.YtpjgfmcefipjpaaDoorRows
import Derived.Test.YtpjgfmcefipjpaaDoorTie
import Derived.Test.YtpjgfmcefipjpaaDoorCards
import Derived.WalkKit
import Derived.ProofKit
import Derived.OpenShut
import Derived.LaidMore
import Derived.Lib.LaidTab
import Derived.Stop.LaidErr
import Derived.SevenTiedAt
set_option linter.unusedVariables false
set_option maxRecDepth 20000
namespace Go.Ab
/-! ### lists of marked pieces -/
theorem tw_append {α : Type} {p : α → Bool} : ∀ {r s : List α}, (∀ a, a ∈ r → p a = false) → (s = [] ∨ ∃ a l, s = a :: l ∧ p a = true) → (r ++ s).takeWhile (fun a => !p a) = r ∧ (r ++ s).dropWhile (fun a => !p a) = s
  | [], s, _, h => by
    rcases h with rfl | ⟨a, l, rfl, ha⟩
    · simp
    · simp [ha]
  | a :: r, s, hr, h => by
    have ha : p a = false := hr a (by simp)
    obtain ⟨h1, h2⟩ := tw_append (p := p) (r := r) (s := s) (fun b hb => hr b (by simp [hb])) h
    simp [ha, h1, h2]
theorem piece_eq {α : Type} {p : α → Bool} {r s r' s' : List α} (hr : ∀ a, a ∈ r → p a = false) (hs : s = [] ∨ ∃ a l, s = a :: l ∧ p a = true) (hr' : ∀ a, a ∈ r' → p a = false) (hs' : s' = [] ∨ ∃ a l, s' = a :: l ∧ p a = true) (h : r ++ s = r' ++ s') : r = r' ∧ s = s' := by
  obtain ⟨h1, h2⟩ := tw_append hr hs
  obtain ⟨h3, h4⟩ := tw_append hr' hs'
  rw [h] at h1 h2
  exact ⟨h1.symm.trans h3, h2.symm.trans h4⟩
def Marked {α β : Type} (p : α → Bool) (g : β → List α) (x : β) : Prop := ∃ s r, g x = s :: r ∧ p s = true ∧ ∀ a, a ∈ r → p a = false
theorem marked_start {α β : Type} {p : α → Bool} {g : β → List α} : ∀ {xs : List β}, (∀ x, x ∈ xs → Marked p g x) → xs.flatMap g = [] ∨ ∃ a l, xs.flatMap g = a :: l ∧ p a = true
  | [], _ => .inl rfl
  | x :: xs, h => by
    obtain ⟨s, r, hg, hp, _⟩ := h x (by simp)
    exact .inr ⟨s, r ++ xs.flatMap g, by rw [List.flatMap_cons, hg]; rfl, hp⟩
theorem marked_eq {α β γ : Type} {p : α → Bool} {g : β → List α} {g' : γ → List α} : ∀ {xs : List β} {ys : List γ}, (∀ x, x ∈ xs → Marked p g x) → (∀ y, y ∈ ys → Marked p g' y) → xs.flatMap g = ys.flatMap g' → xs.map g = ys.map g'
  | [], [], _, _, _ => rfl
  | [], y :: ys, _, hy, h => by
    obtain ⟨s, r, hg, _⟩ := hy y (by simp)
    rw [List.flatMap_cons, hg] at h
    cases h
  | x :: xs, [], hx, _, h => by
    obtain ⟨s, r, hg, _⟩ := hx x (by simp)
    rw [List.flatMap_cons, hg] at h
    cases h
  | x :: xs, y :: ys, hx, hy, h => by
    have hx2 : ∀ z, z ∈ xs → Marked p g z := fun z hz => hx z (by simp [hz])
    have hy2 : ∀ z, z ∈ ys → Marked p g' z := fun z hz => hy z (by simp [hz])
    obtain ⟨s, r, hg, hs, hr⟩ := hx x (by simp)
    obtain ⟨s', r', hg', hs', hr'⟩ := hy y (by simp)
    rw [List.flatMap_cons, List.flatMap_cons, hg, hg', List.cons_append, List.cons_append] at h
    injection h with h1 h2
    obtain ⟨h3, h4⟩ := piece_eq hr (marked_start hx2) hr' (marked_start hy2) h2
    rw [List.map_cons, List.map_cons, hg, hg', h1, h3, marked_eq hx2 hy2 h4]

/-! ### lines -/
theorem ends_front : ∀ (ls : List (List UInt8)), 10 :: ls.flatMap (fun l => l ++ [10]) = ls.flatMap (fun l => 10 :: l) ++ [10]
  | [] => rfl
  | l :: ls => by
    rw [List.flatMap_cons, List.flatMap_cons]
    have := ends_front ls
    simp only [List.append_assoc, List.cons_append, List.nil_append]
    rw [this]
theorem lines_eq {ls ms : List (List UInt8)} (hl : ∀ l, l ∈ ls → l.count 10 = 0) (hm : ∀ l, l ∈ ms → l.count 10 = 0) (h : ls.flatMap (fun l => l ++ [10]) = ms.flatMap (fun l => l ++ [10])) : ls = ms := by
  have h1 : ls.flatMap (fun l => 10 :: l) ++ [10] = ms.flatMap (fun l => 10 :: l) ++ [10] := by rw [← ends_front, ← ends_front, h]
  have h2 := List.append_cancel_right h1
  have mk : ∀ {l : List UInt8}, l.count 10 = 0 → Marked (fun c => c == 10) (fun l : List UInt8 => 10 :: l) l := fun {l} h => ⟨10, l, rfl, by simp, fun a ha => by
    rw [List.count_eq_zero] at h
    simp only [beq_eq_false_iff_ne]
    rintro rfl
    exact h ha⟩
  have h3 := marked_eq (fun l h => mk (hl l h)) (fun l h => mk (hm l h)) h2
  have inj : ∀ {ls ms : List (List UInt8)}, ls.map (fun l => 10 :: l) = ms.map (fun l => 10 :: l) → ls = ms := by
    intro ls
    induction ls with
    | nil => intro ms h; cases ms with | nil => rfl | cons m ms => simp at h
    | cons l ls ih =>
      intro ms h
      cases ms with
      | nil => simp at h
      | cons m ms =>
        simp only [List.map_cons, List.cons.injEq, true_and] at h
        rw [h.1, ih h.2]
  exact inj h3

/-! ### words -/
def tokT (w : List UInt8) (ts : List (List UInt8)) : List UInt8 := w ++ ts.flatMap fun t => 32 :: t
def plain (w : List UInt8) : Prop := ∀ c, c ∈ w → (c == 32) = false
theorem tok_eq {w w' : List UInt8} {ts ts' : List (List UInt8)} (hw : plain w) (hw' : plain w') (ht : ∀ t, t ∈ ts → plain t) (ht' : ∀ t, t ∈ ts' → plain t) (h : tokT w ts = tokT w' ts') : w = w' ∧ ts = ts' := by
  have mk : ∀ {l : List UInt8}, plain l → Marked (fun c => c == 32) (fun l : List UInt8 => 32 :: l) l := fun {l} h => ⟨32, l, rfl, by simp, h⟩
  obtain ⟨h1, h2⟩ := piece_eq (p := fun c => c == 32) hw (marked_start fun t h => mk (ht t h)) hw' (marked_start fun t h => mk (ht' t h)) h
  refine ⟨h1, ?_⟩
  have h3 := marked_eq (fun l h => mk (ht l h)) (fun l h => mk (ht' l h)) h2
  have inj : ∀ {ls ms : List (List UInt8)}, ls.map (fun l => 32 :: l) = ms.map (fun l => 32 :: l) → ls = ms := by
    intro ls
    induction ls with
    | nil => intro ms h; cases ms with | nil => rfl | cons m ms => simp at h
    | cons l ls ih =>
      intro ms h
      cases ms with
      | nil => simp at h
      | cons m ms =>
        simp only [List.map_cons, List.cons.injEq, true_and] at h
        rw [h.1, ih h.2]
  exact inj h3
theorem plain_itoa (n : Int) : plain (Lib.itoa n) := fun c hc => by
  have := itoa_byte n c hc
  simp only [beq_eq_false_iff_ne]
  rintro rfl
  simp at this
theorem lineT_tok (w : List UInt8) (ns : List Int) : lineT w ns = tokT w (ns.map Lib.itoa) := by
  unfold lineT tokT
  congr 1
  induction ns with
  | nil => rfl
  | cons n l ih => rw [List.flatMap_cons, List.map_cons, List.flatMap_cons, ih]; rfl

/-! ### numerals -/
def valD (l : List UInt8) : Nat := l.foldl (fun n c => 10 * n + (c.toNat - 48)) 0
theorem valD_dec : ∀ u : Nat, valD (Lib.decDigits u) = u := by
  intro u
  induction u using Nat.strongRecOn with
  | _ u ih =>
    by_cases h : u < 10
    · rw [Lib.decDigits_one h]
      simp [valD, UInt8.toNat_ofNat']
      omega
    · rw [Lib.decDigits, dif_neg h, valD, List.foldl_append]
      have := ih (u / 10) (by omega)
      unfold valD at this
      rw [this]
      simp [UInt8.toNat_ofNat']
      omega
theorem itoa_inj {n m : Int} (h : Lib.itoa n = Lib.itoa m) : n = m := by
  have neq : ∀ (u : Nat) (r : List UInt8), Lib.decDigits u ≠ 45 :: r := fun u r h => by
    have := digit_byte u 45 (by rw [h]; simp)
    simp at this
  unfold Lib.itoa at h
  split at h <;> split at h
  · injection h with _ h
    have := congrArg valD h
    rw [valD_dec, valD_dec] at this
    omega
  · exact absurd h.symm (neq _ _)
  · exact absurd h (neq _ _)
  · have := congrArg valD h
    rw [valD_dec, valD_dec] at this
    omega
theorem map_inj {α β : Type} {f : α → β} : ∀ {l m : List α}, (∀ a b, a ∈ l → b ∈ m → f a = f b → a = b) → l.map f = m.map f → l = m
  | [], [], _, _ => rfl
  | [], _ :: _, _, h => by simp at h
  | _ :: _, [], _, h => by simp at h
  | a :: l, b :: m, hi, h => by
    simp only [List.map_cons, List.cons.injEq] at h
    rw [hi a b (by simp) (by simp) h.1, map_inj (fun x y hx hy => hi x y (by simp [hx]) (by simp [hy])) h.2]
theorem nums_inj {l m : List Int} (h : l.map Lib.itoa = m.map Lib.itoa) : l = m := map_inj (fun _ _ _ _ h => itoa_inj h) h
theorem line_eq {w w' : List UInt8} {ns ns' : List Int} (hw : plain w) (hw' : plain w') (h : lineT w ns = lineT w' ns') : w = w' ∧ ns = ns' := by
  rw [lineT_tok, lineT_tok] at h
  obtain ⟨h1, h2⟩ := tok_eq hw hw' (fun t ht => by obtain ⟨n, _, rfl⟩ := List.mem_map.1 ht; exact plain_itoa n) (fun t ht => by obtain ⟨n, _, rfl⟩ := List.mem_map.1 ht; exact plain_itoa n) h
  exact ⟨h1, nums_inj h2⟩
end Go.Ab

namespace Go.Ab
def wOf (op : Int) : List UInt8 :=
  if op = 1 then [99, 111, 110, 115, 116] else if op = 2 then [99, 111, 112, 121] else if op = 3 then [97, 100, 100] else if op = 4 then [115, 117, 98] else if op = 5 then [109, 117, 108] else if op = 6 then [100, 105, 118] else if op = 7 then [101, 113] else if op = 8 then [108, 116] else if op = 9 then [108, 111, 97, 100] else if op = 10 then [115, 116, 111, 114, 101] else if op = 11 then [99, 97, 108, 108] else if op = 12 then [111, 117, 116] else if op = 13 then [105, 110] else []
def opN (w : List UInt8) : Int :=
  if w = [99, 111, 110, 115, 116] then 1 else if w = [99, 111, 112, 121] then 2 else if w = [97, 100, 100] then 3 else if w = [115, 117, 98] then 4 else if w = [109, 117, 108] then 5 else if w = [100, 105, 118] then 6 else if w = [101, 113] then 7 else if w = [108, 116] then 8 else if w = [108, 111, 97, 100] then 9 else if w = [115, 116, 111, 114, 101] then 10 else if w = [99, 97, 108, 108] then 11 else if w = [111, 117, 116] then 12 else if w = [105, 110] then 13 else 0
def kOf (op : Int) : List UInt8 :=
  if op = 1 then [114, 101, 116] else if op = 2 then [106, 117, 109, 112] else if op = 3 then [98, 114, 97, 110, 99, 104] else if op = 4 then [105, 110, 118, 111, 107, 101] else if op = 5 then [116, 104, 114, 111, 119] else if op = 6 then [114, 101, 115, 117, 109, 101] else []
def kN (w : List UInt8) : Int :=
  if w = [114, 101, 116] then 1 else if w = [106, 117, 109, 112] then 2 else if w = [98, 114, 97, 110, 99, 104] then 3 else if w = [105, 110, 118, 111, 107, 101] then 4 else if w = [116, 104, 114, 111, 119] then 5 else if w = [114, 101, 115, 117, 109, 101] then 6 else 0
def nsI (x : DIns) : List Int :=
  if x.op = 1 then [x.dst, x.k] else if x.op = 2 then [x.dst, x.a] else if x.op = 3 then [x.dst, x.a, x.b] else if x.op = 4 then [x.dst, x.a, x.b] else if x.op = 5 then [x.dst, x.a, x.b] else if x.op = 6 then [x.dst, x.a, x.b] else if x.op = 7 then [x.dst, x.a, x.b] else if x.op = 8 then [x.dst, x.a, x.b] else if x.op = 9 then [x.dst, x.a] else if x.op = 10 then [x.a, x.b] else if x.op = 11 then [x.dst, x.f] ++ x.args else if x.op = 12 then [x.a] else if x.op = 13 then [x.dst] else []
def nsE (x : DEnd) : List Int :=
  if x.kind = 1 then [x.a] else if x.kind = 2 then [x.to] else if x.kind = 3 then [x.a, x.to, x.els] else if x.kind = 4 then [x.dst, x.f, x.to, x.pad] ++ x.args else if x.kind = 5 then [x.a] else if x.kind = 6 then [] else []
end Go.Ab
namespace Go.Ab.D3
open Go Go.Ab Go.Proofs
theorem ops_is {op : Int} (h : has (usesI op) 1 = true) : op = 1 ∨ op = 2 ∨ op = 3 ∨ op = 4 ∨ op = 5 ∨ op = 6 ∨ op = 7 ∨ op = 8 ∨ op = 9 ∨ op = 10 ∨ op = 11 ∨ op = 12 ∨ op = 13 := by
  by_cases h1 : op = 1
  · simp [h1]
  by_cases h2 : op = 2
  · simp [h2]
  by_cases h3 : op = 3
  · simp [h3]
  by_cases h4 : op = 4
  · simp [h4]
  by_cases h5 : op = 5
  · simp [h5]
  by_cases h6 : op = 6
  · simp [h6]
  by_cases h7 : op = 7
  · simp [h7]
  by_cases h8 : op = 8
  · simp [h8]
  by_cases h9 : op = 9
  · simp [h9]
  by_cases h10 : op = 10
  · simp [h10]
  by_cases h11 : op = 11
  · simp [h11]
  by_cases h12 : op = 12
  · simp [h12]
  by_cases h13 : op = 13
  · simp [h13]
  have : usesI op = 0 := by simp [usesI, h1, h2, h3, h4, h5, h6, h7, h8, h9, h10, h11, h12, h13]
  rw [this] at h
  exact absurd h (by decide)
theorem kinds_is {op : Int} (h : has (usesE op) 1 = true) : op = 1 ∨ op = 2 ∨ op = 3 ∨ op = 4 ∨ op = 5 ∨ op = 6 := by
  by_cases h1 : op = 1
  · simp [h1]
  by_cases h2 : op = 2
  · simp [h2]
  by_cases h3 : op = 3
  · simp [h3]
  by_cases h4 : op = 4
  · simp [h4]
  by_cases h5 : op = 5
  · simp [h5]
  by_cases h6 : op = 6
  · simp [h6]
  have : usesE op = 0 := by simp [usesE, h1, h2, h3, h4, h5, h6]
  rw [this] at h
  exact absurd h (by decide)
theorem w_plain {op : Int} (h : has (usesI op) 1 = true) : plain (wOf op) ∧ opN (wOf op) = op ∧ (wOf op).count 10 = 0 := by
  rcases ops_is h with rfl | rfl | rfl | rfl | rfl | rfl | rfl | rfl | rfl | rfl | rfl | rfl | rfl <;> exact ⟨by unfold plain; decide, by decide, by decide⟩
theorem k_plain {op : Int} (h : has (usesE op) 1 = true) : plain (kOf op) ∧ kN (kOf op) = op ∧ (kOf op).count 10 = 0 := by
  rcases kinds_is h with rfl | rfl | rfl | rfl | rfl | rfl <;> exact ⟨by unfold plain; decide, by decide, by decide⟩
theorem insT_is {x : DIns} (h : has (usesI x.op) 1 = true) : insT x = lineT (wOf x.op) (nsI x) := by
  rcases ops_is h with h | h | h | h | h | h | h | h | h | h | h | h | h <;> simp [insT, wOf, nsI, h]
theorem endT_is {x : DEnd} (h : has (usesE x.kind) 1 = true) : endT x = lineT (kOf x.kind) (nsE x) := by
  rcases kinds_is h with h | h | h | h | h | h <;> simp [endT, kOf, nsE, h]
theorem insT_inj {fs fs' : List DFunc} {regs regs' : Int} {x y : DIns} (hx : insP fs regs x) (hy : insP fs' regs' y) (h : insT x = insT y) : x = y := by
  rw [insT_is hx.1, insT_is hy.1] at h
  obtain ⟨hw, hn⟩ := line_eq (w_plain hx.1).1 (w_plain hy.1).1 h
  have hop : x.op = y.op := by rw [← (w_plain hx.1).2.1, ← (w_plain hy.1).2.1, hw]
  obtain ⟨h1, hd, ha, hb, hk, hc⟩ := hx
  obtain ⟨g1, gd, ga, gb, gk, gc⟩ := hy
  rcases ops_is h1 with e | e | e | e | e | e | e | e | e | e | e | e | e
  · have e2 : y.op = 1 := hop.symm.trans e
    rw [e] at hd ha hb hk hc; rw [e2] at gd ga gb gk gc
    simp only [nsI, e, e2] at hn
    simp at hn
    exact ins_eq.2 ⟨hop, hn.1, (ha.2 rfl).trans (ga.2 rfl).symm, (hb.2 rfl).trans (gb.2 rfl).symm, hn.2, ((hc.2 rfl).1).trans ((gc.2 rfl).1).symm, ((hc.2 rfl).2).trans ((gc.2 rfl).2).symm⟩
  · have e2 : y.op = 2 := hop.symm.trans e
    rw [e] at hd ha hb hk hc; rw [e2] at gd ga gb gk gc
    simp only [nsI, e, e2] at hn
    simp at hn
    exact ins_eq.2 ⟨hop, hn.1, hn.2, (hb.2 rfl).trans (gb.2 rfl).symm, (hk.resolve_left (fun h => nomatch (show false = true from h))).trans (gk.resolve_left (fun h => nomatch (show false = true from h))).symm, ((hc.2 rfl).1).trans ((gc.2 rfl).1).symm, ((hc.2 rfl).2).trans ((gc.2 rfl).2).symm⟩
  · have e2 : y.op = 3 := hop.symm.trans e
    rw [e] at hd ha hb hk hc; rw [e2] at gd ga gb gk gc
    simp only [nsI, e, e2] at hn
    simp at hn
    exact ins_eq.2 ⟨hop, hn.1, hn.2.1, hn.2.2, (hk.resolve_left (fun h => nomatch (show false = true from h))).trans (gk.resolve_left (fun h => nomatch (show false = true from h))).symm, ((hc.2 rfl).1).trans ((gc.2 rfl).1).symm, ((hc.2 rfl).2).trans ((gc.2 rfl).2).symm⟩
  · have e2 : y.op = 4 := hop.symm.trans e
    rw [e] at hd ha hb hk hc; rw [e2] at gd ga gb gk gc
    simp only [nsI, e, e2] at hn
    simp at hn
    exact ins_eq.2 ⟨hop, hn.1, hn.2.1, hn.2.2, (hk.resolve_left (fun h => nomatch (show false = true from h))).trans (gk.resolve_left (fun h => nomatch (show false = true from h))).symm, ((hc.2 rfl).1).trans ((gc.2 rfl).1).symm, ((hc.2 rfl).2).trans ((gc.2 rfl).2).symm⟩
  · have e2 : y.op = 5 := hop.symm.trans e
    rw [e] at hd ha hb hk hc; rw [e2] at gd ga gb gk gc
    simp only [nsI, e, e2] at hn
    simp at hn
    exact ins_eq.2 ⟨hop, hn.1, hn.2.1, hn.2.2, (hk.resolve_left (fun h => nomatch (show false = true from h))).trans (gk.resolve_left (fun h => nomatch (show false = true from h))).symm, ((hc.2 rfl).1).trans ((gc.2 rfl).1).symm, ((hc.2 rfl).2).trans ((gc.2 rfl).2).symm⟩
  · have e2 : y.op = 6 := hop.symm.trans e
    rw [e] at hd ha hb hk hc; rw [e2] at gd ga gb gk gc
    simp only [nsI, e, e2] at hn
    simp at hn
    exact ins_eq.2 ⟨hop, hn.1, hn.2.1, hn.2.2, (hk.resolve_left (fun h => nomatch (show false = true from h))).trans (gk.resolve_left (fun h => nomatch (show false = true from h))).symm, ((hc.2 rfl).1).trans ((gc.2 rfl).1).symm, ((hc.2 rfl).2).trans ((gc.2 rfl).2).symm⟩
  · have e2 : y.op = 7 := hop.symm.trans e
    rw [e] at hd ha hb hk hc; rw [e2] at gd ga gb gk gc
    simp only [nsI, e, e2] at hn
    simp at hn
    exact ins_eq.2 ⟨hop, hn.1, hn.2.1, hn.2.2, (hk.resolve_left (fun h => nomatch (show false = true from h))).trans (gk.resolve_left (fun h => nomatch (show false = true from h))).symm, ((hc.2 rfl).1).trans ((gc.2 rfl).1).symm, ((hc.2 rfl).2).trans ((gc.2 rfl).2).symm⟩
  · have e2 : y.op = 8 := hop.symm.trans e
    rw [e] at hd ha hb hk hc; rw [e2] at gd ga gb gk gc
    simp only [nsI, e, e2] at hn
    simp at hn
    exact ins_eq.2 ⟨hop, hn.1, hn.2.1, hn.2.2, (hk.resolve_left (fun h => nomatch (show false = true from h))).trans (gk.resolve_left (fun h => nomatch (show false = true from h))).symm, ((hc.2 rfl).1).trans ((gc.2 rfl).1).symm, ((hc.2 rfl).2).trans ((gc.2 rfl).2).symm⟩
  · have e2 : y.op = 9 := hop.symm.trans e
    rw [e] at hd ha hb hk hc; rw [e2] at gd ga gb gk gc
    simp only [nsI, e, e2] at hn
    simp at hn
    exact ins_eq.2 ⟨hop, hn.1, hn.2, (hb.2 rfl).trans (gb.2 rfl).symm, (hk.resolve_left (fun h => nomatch (show false = true from h))).trans (gk.resolve_left (fun h => nomatch (show false = true from h))).symm, ((hc.2 rfl).1).trans ((gc.2 rfl).1).symm, ((hc.2 rfl).2).trans ((gc.2 rfl).2).symm⟩
  · have e2 : y.op = 10 := hop.symm.trans e
    rw [e] at hd ha hb hk hc; rw [e2] at gd ga gb gk gc
    simp only [nsI, e, e2] at hn
    simp at hn
    exact ins_eq.2 ⟨hop, (hd.2 rfl).trans (gd.2 rfl).symm, hn.1, hn.2, (hk.resolve_left (fun h => nomatch (show false = true from h))).trans (gk.resolve_left (fun h => nomatch (show false = true from h))).symm, ((hc.2 rfl).1).trans ((gc.2 rfl).1).symm, ((hc.2 rfl).2).trans ((gc.2 rfl).2).symm⟩
  · have e2 : y.op = 11 := hop.symm.trans e
    rw [e] at hd ha hb hk hc; rw [e2] at gd ga gb gk gc
    simp only [nsI, e, e2] at hn
    simp at hn
    exact ins_eq.2 ⟨hop, hn.1, (ha.2 rfl).trans (ga.2 rfl).symm, (hb.2 rfl).trans (gb.2 rfl).symm, (hk.resolve_left (fun h => nomatch (show false = true from h))).trans (gk.resolve_left (fun h => nomatch (show false = true from h))).symm, hn.2.1, hn.2.2⟩
  · have e2 : y.op = 12 := hop.symm.trans e
    rw [e] at hd ha hb hk hc; rw [e2] at gd ga gb gk gc
    simp only [nsI, e, e2] at hn
    simp at hn
    exact ins_eq.2 ⟨hop, (hd.2 rfl).trans (gd.2 rfl).symm, hn, (hb.2 rfl).trans (gb.2 rfl).symm, (hk.resolve_left (fun h => nomatch (show false = true from h))).trans (gk.resolve_left (fun h => nomatch (show false = true from h))).symm, ((hc.2 rfl).1).trans ((gc.2 rfl).1).symm, ((hc.2 rfl).2).trans ((gc.2 rfl).2).symm⟩
  · have e2 : y.op = 13 := hop.symm.trans e
    rw [e] at hd ha hb hk hc; rw [e2] at gd ga gb gk gc
    simp only [nsI, e, e2] at hn
    simp at hn
    exact ins_eq.2 ⟨hop, hn, (ha.2 rfl).trans (ga.2 rfl).symm, (hb.2 rfl).trans (gb.2 rfl).symm, (hk.resolve_left (fun h => nomatch (show false = true from h))).trans (gk.resolve_left (fun h => nomatch (show false = true from h))).symm, ((hc.2 rfl).1).trans ((gc.2 rfl).1).symm, ((hc.2 rfl).2).trans ((gc.2 rfl).2).symm⟩
theorem endT_inj {fs fs' : List DFunc} {bs bs' : List DBlock} {regs regs' : Int} {x y : DEnd} (hx : endP fs regs bs x) (hy : endP fs' regs' bs' y) (h : endT x = endT y) : x = y := by
  rw [endT_is hx.1, endT_is hy.1] at h
  obtain ⟨hw, hn⟩ := line_eq (k_plain hx.1).1 (k_plain hy.1).1 h
  have hop : x.kind = y.kind := by rw [← (k_plain hx.1).2.1, ← (k_plain hy.1).2.1, hw]
  obtain ⟨h1, ha, hd, hc, ht, he, hp⟩ := hx
  obtain ⟨g1, ga, gd, gc, gt, ge, gp⟩ := hy
  rcases kinds_is h1 with e | e | e | e | e | e
  · have e2 : y.kind = 1 := hop.symm.trans e
    rw [e] at ha hd hc ht he hp; rw [e2] at ga gd gc gt ge gp
    simp only [nsE, e, e2] at hn
    simp at hn
    exact end_eq.2 ⟨hop, hn, (hd.2 rfl).trans (gd.2 rfl).symm, ((hc.2 rfl).1).trans ((gc.2 rfl).1).symm, ((hc.2 rfl).2).trans ((gc.2 rfl).2).symm, (ht.2 rfl).trans (gt.2 rfl).symm, (he.2 rfl).trans (ge.2 rfl).symm, (hp.2 rfl).trans (gp.2 rfl).symm⟩
  · have e2 : y.kind = 2 := hop.symm.trans e
    rw [e] at ha hd hc ht he hp; rw [e2] at ga gd gc gt ge gp
    simp only [nsE, e, e2] at hn
    simp at hn
    exact end_eq.2 ⟨hop, (ha.2 rfl).trans (ga.2 rfl).symm, (hd.2 rfl).trans (gd.2 rfl).symm, ((hc.2 rfl).1).trans ((gc.2 rfl).1).symm, ((hc.2 rfl).2).trans ((gc.2 rfl).2).symm, hn, (he.2 rfl).trans (ge.2 rfl).symm, (hp.2 rfl).trans (gp.2 rfl).symm⟩
  · have e2 : y.kind = 3 := hop.symm.trans e
    rw [e] at ha hd hc ht he hp; rw [e2] at ga gd gc gt ge gp
    simp only [nsE, e, e2] at hn
    simp at hn
    exact end_eq.2 ⟨hop, hn.1, (hd.2 rfl).trans (gd.2 rfl).symm, ((hc.2 rfl).1).trans ((gc.2 rfl).1).symm, ((hc.2 rfl).2).trans ((gc.2 rfl).2).symm, hn.2.1, hn.2.2, (hp.2 rfl).trans (gp.2 rfl).symm⟩
  · have e2 : y.kind = 4 := hop.symm.trans e
    rw [e] at ha hd hc ht he hp; rw [e2] at ga gd gc gt ge gp
    simp only [nsE, e, e2] at hn
    simp at hn
    exact end_eq.2 ⟨hop, (ha.2 rfl).trans (ga.2 rfl).symm, hn.1, hn.2.1, hn.2.2.2.2, hn.2.2.1, (he.2 rfl).trans (ge.2 rfl).symm, hn.2.2.2.1⟩
  · have e2 : y.kind = 5 := hop.symm.trans e
    rw [e] at ha hd hc ht he hp; rw [e2] at ga gd gc gt ge gp
    simp only [nsE, e, e2] at hn
    simp at hn
    exact end_eq.2 ⟨hop, hn, (hd.2 rfl).trans (gd.2 rfl).symm, ((hc.2 rfl).1).trans ((gc.2 rfl).1).symm, ((hc.2 rfl).2).trans ((gc.2 rfl).2).symm, (ht.2 rfl).trans (gt.2 rfl).symm, (he.2 rfl).trans (ge.2 rfl).symm, (hp.2 rfl).trans (gp.2 rfl).symm⟩
  · have e2 : y.kind = 6 := hop.symm.trans e
    rw [e] at ha hd hc ht he hp; rw [e2] at ga gd gc gt ge gp
    exact end_eq.2 ⟨hop, (ha.2 rfl).trans (ga.2 rfl).symm, (hd.2 rfl).trans (gd.2 rfl).symm, ((hc.2 rfl).1).trans ((gc.2 rfl).1).symm, ((hc.2 rfl).2).trans ((gc.2 rfl).2).symm, (ht.2 rfl).trans (gt.2 rfl).symm, (he.2 rfl).trans (ge.2 rfl).symm, (hp.2 rfl).trans (gp.2 rfl).symm⟩

/-! ### pads -/
def padW (p : DPad) : List (List UInt8) := Lib.itoa p.dst :: ((if 0 < p.catches.length then [99, 97, 116, 99, 104] :: p.catches.map Lib.itoa else []) ++ ((bif p.all then [[97, 108, 108]] else []) ++ (bif p.cleanup then [[99, 108, 101, 97, 110, 117, 112]] else [])))
theorem padT_is (p : DPad) : padT p = tokT [112, 97, 100] (padW p) := by
  have h1 : ∀ l : List Int, (l.map Lib.itoa).flatMap (fun t => 32 :: t) = l.flatMap numT := fun l => by
    induction l with
    | nil => rfl
    | cons n l ih => rw [List.flatMap_cons, List.map_cons, List.flatMap_cons, ih]; rfl
  unfold padT tokT padW lineT
  by_cases h : 0 < p.catches.length
  · simp only [if_pos h]
    cases p.all <;> cases p.cleanup <;> simp [h1, numT]
  · simp only [if_neg h]
    cases p.all <;> cases p.cleanup <;> simp [numT]
theorem word_num {c : UInt8} {r : List UInt8} (hc : 58 ≤ c.toNat) (n : Int) : c :: r ≠ Lib.itoa n := fun h => by
  have := itoa_byte n c (by rw [← h]; simp)
  omega
theorem padW_plain (p : DPad) : ∀ t, t ∈ padW p → plain t := by
  intro t ht
  unfold padW at ht
  have w1 : plain [99, 97, 116, 99, 104] := by unfold plain; decide
  have w2 : plain [97, 108, 108] := by unfold plain; decide
  have w3 : plain [99, 108, 101, 97, 110, 117, 112] := by unfold plain; decide
  rcases List.mem_cons.1 ht with rfl | ht
  · exact plain_itoa _
  rcases List.mem_append.1 ht with ht | ht
  · split at ht
    · rcases List.mem_cons.1 ht with rfl | ht
      · exact w1
      · obtain ⟨n, _, rfl⟩ := List.mem_map.1 ht
        exact plain_itoa n
    · cases ht
  rcases List.mem_append.1 ht with ht | ht
  · cases hp : p.all <;> simp [hp] at ht
    rw [ht]; exact w2
  · cases hp : p.cleanup <;> simp [hp] at ht
    rw [ht]; exact w3
def notNum (t : List UInt8) : Bool := match t with | [] => true | c :: _ => decide (58 ≤ c.toNat)
theorem num_not (n : Int) : notNum (Lib.itoa n) = false := by
  cases h : Lib.itoa n with
  | nil =>
    have h1 := congrArg List.length h
    unfold Lib.itoa at h1
    split at h1
    · simp at h1
    · have := valD_dec n.toNat
      rw [Lib.decDigits] at h1
      split at h1 <;> simp at h1
  | cons c r =>
    have := itoa_byte n c (by rw [h]; simp)
    simp [notNum]; omega
/-- The two words behind the numbers. -/
theorem tail_inj {a b a' b' : Bool} (h : (bif a then [[97, 108, 108]] else ([] : List (List UInt8))) ++ (bif b then [[99, 108, 101, 97, 110, 117, 112]] else []) = (bif a' then [[97, 108, 108]] else []) ++ (bif b' then [[99, 108, 101, 97, 110, 117, 112]] else [])) : a = a' ∧ b = b' := by
  cases a <;> cases b <;> cases a' <;> cases b' <;> simp at h ⊢
theorem padT_inj {p r : DPad} (h : padT p = padT r) : p = r := by
  rw [padT_is, padT_is] at h
  have w0 : plain [112, 97, 100] := by unfold plain; decide
  obtain ⟨_, hw⟩ := tok_eq w0 w0 (padW_plain p) (padW_plain r) h
  unfold padW at hw
  injection hw with hd hw
  have hd := itoa_inj hd
  have st : ∀ (a b : Bool), ((bif a then [[97, 108, 108]] else ([] : List (List UInt8))) ++ (bif b then [[99, 108, 101, 97, 110, 117, 112]] else [])) = [] ∨ ∃ t l, ((bif a then [[97, 108, 108]] else ([] : List (List UInt8))) ++ (bif b then [[99, 108, 101, 97, 110, 117, 112]] else [])) = t :: l ∧ notNum t = true := by
    intro a b
    cases a <;> cases b <;> simp [notNum]
  have nn : ∀ (l : List Int) t, t ∈ l.map Lib.itoa → notNum t = false := fun l t ht => by
    obtain ⟨n, _, rfl⟩ := List.mem_map.1 ht
    exact num_not n
  by_cases h1 : 0 < p.catches.length <;> by_cases h2 : 0 < r.catches.length
  · rw [if_pos h1, if_pos h2, List.cons_append, List.cons_append] at hw
    injection hw with _ hw
    obtain ⟨h3, h4⟩ := piece_eq (p := notNum) (nn _) (st _ _) (nn _) (st _ _) hw
    obtain ⟨h5, h6⟩ := tail_inj h4
    exact pad_eq.2 ⟨hd, nums_inj h3, h5, h6⟩
  · rw [if_pos h1, if_neg h2, List.cons_append, List.nil_append] at hw
    cases hp : r.all <;> cases hq : r.cleanup <;> simp [hp, hq] at hw
  · rw [if_neg h1, if_pos h2, List.cons_append, List.nil_append] at hw
    cases hp : p.all <;> cases hq : p.cleanup <;> simp [hp, hq] at hw
  · rw [if_neg h1, if_neg h2, List.nil_append, List.nil_append] at hw
    obtain ⟨h5, h6⟩ := tail_inj hw
    have e1 : p.catches = [] := List.length_eq_zero_iff.1 (by omega)
    have e2 : r.catches = [] := List.length_eq_zero_iff.1 (by omega)
    exact pad_eq.2 ⟨hd, e1.trans e2.symm, h5, h6⟩
end Go.Ab.D3

namespace Go.Ab
def blockL (b : DBlock) : List (List UInt8) := headT b :: (b.ins.map insT ++ [endT b.fin])
def funcL (f : DFunc) : List (List UInt8) := lineT [102, 117, 110, 99] [f.params, f.regs] :: f.blocks.flatMap blockL
def modL (m : DMod) : List (List UInt8) := m.funcs.flatMap funcL
def nlE (ls : List (List UInt8)) : List UInt8 := ls.flatMap fun l => l ++ [10]
theorem nlE_append (a b : List (List UInt8)) : nlE (a ++ b) = nlE a ++ nlE b := List.flatMap_append
theorem nlE_cons (a : List UInt8) (b : List (List UInt8)) : nlE (a :: b) = a ++ [10] ++ nlE b := List.flatMap_cons
theorem blockT_is (b : DBlock) : blockT b = nlE (blockL b) := by
  have h : ∀ l : List DIns, nlE (l.map insT) = l.flatMap fun x => insT x ++ [10] := fun l => by
    induction l with
    | nil => rfl
    | cons x l ih => rw [List.map_cons, nlE_cons, ih, List.flatMap_cons]
  rw [blockL, nlE_cons, nlE_append, h, nlE_cons]
  simp [blockT, nlE]
theorem blocksT_is : ∀ l : List DBlock, l.flatMap blockT = nlE (l.flatMap blockL)
  | [] => rfl
  | b :: l => by rw [List.flatMap_cons, List.flatMap_cons, nlE_append, blockT_is, blocksT_is l]
theorem funcT_is (f : DFunc) : funcT f = nlE (funcL f) := by
  rw [funcL, nlE_cons, ← blocksT_is, funcT]
theorem funcsT_is : ∀ l : List DFunc, l.flatMap funcT = nlE (l.flatMap funcL)
  | [] => rfl
  | f :: l => by rw [List.flatMap_cons, List.flatMap_cons, nlE_append, funcT_is, funcsT_is l]
theorem modT_is (m : DMod) : modT m = nlE (modL m) := funcsT_is m.funcs
theorem block_lines (b : DBlock) : ∀ l, l ∈ blockL b → l.count 10 = 0 := by
  intro l hl
  rcases List.mem_cons.1 hl with rfl | hl
  · exact nl_head b
  rcases List.mem_append.1 hl with hl | hl
  · obtain ⟨x, _, rfl⟩ := List.mem_map.1 hl
    exact nl_ins x
  · rw [List.mem_singleton.1 hl]; exact nl_end _
theorem mod_lines (m : DMod) : ∀ l, l ∈ modL m → l.count 10 = 0 := by
  intro l hl
  obtain ⟨f, _, hl⟩ := List.mem_flatMap.1 hl
  rcases List.mem_cons.1 hl with rfl | hl
  · exact nl_line (by decide) _
  · obtain ⟨b, _, hl⟩ := List.mem_flatMap.1 hl
    exact block_lines b l hl
/-- How a line begins. -/
def front (l : List UInt8) : List UInt8 := l.take 2
theorem front_line {w : List UInt8} (ns : List Int) (h : 2 ≤ w.length) : front (lineT w ns) = w.take 2 := by
  unfold front lineT
  rw [List.take_append_of_le_length h]
def isHead (l : List UInt8) : Bool := front l == [98, 108] || front l == [112, 97]
def isFunc (l : List UInt8) : Bool := front l == [102, 117]
theorem head_front (b : DBlock) : front (headT b) = bif b.landing then [112, 97] else [98, 108] := by
  unfold headT
  cases b.landing
  · exact front_line _ (by simp)
  · simp [front, padT, lineT]
end Go.Ab
namespace Go.Ab.D3
open Go Go.Ab Go.Proofs
theorem ins_front {x : DIns} (h : has (usesI x.op) 1 = true) : isHead (insT x) = false ∧ isFunc (insT x) = false := by
  rw [insT_is h]
  unfold isHead isFunc
  rcases ops_is h with e | e | e | e | e | e | e | e | e | e | e | e | e <;> (rw [front_line _ (by rw [e]; decide), e]; exact ⟨by decide, by decide⟩)
theorem end_front {x : DEnd} (h : has (usesE x.kind) 1 = true) : isHead (endT x) = false ∧ isFunc (endT x) = false := by
  rw [endT_is h]
  unfold isHead isFunc
  rcases kinds_is h with e | e | e | e | e | e <;> (rw [front_line _ (by rw [e]; decide), e]; exact ⟨by decide, by decide⟩)
theorem block_ins_ok {fs : List DFunc} {regs : Int} {bs : List DBlock} {b : DBlock} (h : blockP fs regs bs b) : ∀ x, x ∈ b.ins → insP fs regs x := fun x hx => by
  obtain ⟨i, hi⟩ := List.mem_iff_getElem?.1 hx
  exact h.2.2.1 i (List.getElem?_eq_some_iff.1 hi).1 x hi
theorem func_blocks_ok {fs : List DFunc} {f : DFunc} (h : funcP fs f) : ∀ b, b ∈ f.blocks → blockP fs f.regs f.blocks b := fun x hx => by
  obtain ⟨i, hi⟩ := List.mem_iff_getElem?.1 hx
  exact h.2.2.2 i (List.getElem?_eq_some_iff.1 hi).1 x hi
theorem mod_funcs_ok {m : DMod} (h : modP m) : ∀ f, f ∈ m.funcs → funcP m.funcs f := fun x hx => by
  obtain ⟨i, hi⟩ := List.mem_iff_getElem?.1 hx
  exact h.2.2 i (List.getElem?_eq_some_iff.1 hi).1 x hi
theorem block_marked {fs : List DFunc} {regs : Int} {bs : List DBlock} {b : DBlock} (h : blockP fs regs bs b) : Marked isHead blockL b := by
  refine ⟨_, _, rfl, ?_, fun l hl => ?_⟩
  · unfold isHead
    rw [head_front]
    cases b.landing <;> decide
  · rcases List.mem_append.1 hl with hl | hl
    · obtain ⟨x, hx, rfl⟩ := List.mem_map.1 hl
      exact (ins_front (block_ins_ok h x hx).1).1
    · rw [List.mem_singleton.1 hl]; exact (end_front h.2.2.2.1).1
theorem func_marked {fs : List DFunc} {f : DFunc} (h : funcP fs f) : Marked isFunc funcL f := by
  refine ⟨_, _, rfl, ?_, fun l hl => ?_⟩
  · unfold isFunc
    rw [front_line _ (by decide)]
    decide
  · obtain ⟨b, hb, hl⟩ := List.mem_flatMap.1 hl
    have hbp := func_blocks_ok h b hb
    rcases List.mem_cons.1 hl with rfl | hl
    · unfold isFunc
      rw [head_front]
      cases b.landing <;> decide
    rcases List.mem_append.1 hl with hl | hl
    · obtain ⟨x, hx, rfl⟩ := List.mem_map.1 hl
      exact (ins_front (block_ins_ok hbp x hx).1).2
    · rw [List.mem_singleton.1 hl]; exact (end_front hbp.2.2.2.1).2
theorem blockL_inj {fs fs' : List DFunc} {regs regs' : Int} {bs bs' : List DBlock} {b c : DBlock} (hb : blockP fs regs bs b) (hc : blockP fs' regs' bs' c) (h : blockL b = blockL c) : b = c := by
  unfold blockL at h
  injection h with hh ht
  obtain ⟨h1, h2⟩ := List.append_inj' ht rfl
  have hf : b.fin = c.fin := endT_inj hb.2.2.2 hc.2.2.2 (by simpa using h2)
  have hi : b.ins = c.ins := map_inj (fun x y hx hy h => insT_inj (block_ins_ok hb x hx) (block_ins_ok hc y hy) h) h1
  have hfr := congrArg front hh
  rw [head_front, head_front] at hfr
  have hl : b.landing = c.landing := by
    cases h1 : b.landing <;> cases h2 : c.landing <;> simp [h1, h2] at hfr ⊢
  have hp : b.pad = c.pad := by
    cases h1 : b.landing with
    | true =>
      have h2 : c.landing = true := hl ▸ h1
      unfold headT at hh
      rw [h1, h2] at hh
      exact padT_inj hh
    | false =>
      have h2 : c.landing = false := hl ▸ h1
      obtain ⟨a1, a2, a3, a4⟩ := hb.2.1.1 h1
      obtain ⟨c1, c2, c3, c4⟩ := hc.2.1.1 h2
      exact pad_eq.2 ⟨a1.trans c1.symm, a2.trans c2.symm, a3.trans c3.symm, a4.trans c4.symm⟩
  exact block_eq.2 ⟨hl, hp, hi, hf⟩
theorem funcL_inj {fs fs' : List DFunc} {f g : DFunc} (hf : funcP fs f) (hg : funcP fs' g) (h : funcL f = funcL g) : f = g := by
  unfold funcL at h
  injection h with hh ht
  have w : plain [102, 117, 110, 99] := by unfold plain; decide
  obtain ⟨_, hn⟩ := line_eq w w hh
  simp only [List.cons.injEq, and_true] at hn
  have h1 := marked_eq (fun b hb => block_marked (func_blocks_ok hf b hb)) (fun b hb => block_marked (func_blocks_ok hg b hb)) ht
  have h2 := map_inj (fun b c hb hc h => blockL_inj (func_blocks_ok hf b hb) (func_blocks_ok hg c hc) h) h1
  exact func_eq.2 ⟨hn.1, hn.2, h2⟩
theorem modT_inj {m n : DMod} (hm : modP m) (hn : modP n) (h : modT m = modT n) : m = n := by
  rw [modT_is, modT_is] at h
  have h0 := lines_eq (mod_lines m) (mod_lines n) h
  have h1 := marked_eq (fun b hb => func_marked (mod_funcs_ok hm b hb)) (fun b hb => func_marked (mod_funcs_ok hn b hb)) h0
  exact mod_eq.2 (map_inj (fun b c hb hc h => funcL_inj (mod_funcs_ok hm b hb) (mod_funcs_ok hn c hc) h) h1)
theorem modT_last {m : DMod} (hm : modP m) : modT m ≠ [] ∧ ∃ r, modT m = r ++ [10] := by
  obtain ⟨_, ⟨f, hf, _⟩, _⟩ := hm
  have hne : m.funcs ≠ [] := by rintro h; rw [h] at hf; cases hf
  have key : ∀ ls : List (List UInt8), ls ≠ [] → ∃ r, nlE ls = r ++ [10] := by
    intro ls
    induction ls with
    | nil => intro h; exact absurd rfl h
    | cons l ls ih =>
      intro _
      by_cases h : ls = []
      · subst h; exact ⟨l, by simp [nlE]⟩
      · obtain ⟨r, hr⟩ := ih h
        exact ⟨l ++ [10] ++ r, by rw [nlE_cons, hr]; simp [List.append_assoc]⟩
  obtain ⟨r, hr⟩ := key (modL m) (by
    intro h
    have := List.flatMap_eq_nil_iff.1 h f (List.mem_of_getElem? hf)
    simp [funcL] at this)
  rw [← modT_is] at hr
  exact ⟨by rw [hr]; simp, r, hr⟩
/-- Promise: different modules have different texts. -/
theorem apart_runs {q q' : Option Bool} {e e' : List TV} {m n : DMod} (hm : RMod q e m) (hn : RMod q' e' n) : Runs prog 4 [.agg e, .agg e'] (B true) := by
  obtain ⟨b, h7, hshort⟩ := r7 hm
  obtain ⟨b', h7', hshort'⟩ := r7 hn
  have h9 : shortM m → Runs prog 9 [.agg e] (showT m) := fun h => show_runs hm h (modT_room hm h)
  have h9' : shortM n → Runs prog 9 [.agg e'] (showT n) := fun h => show_runs hn h (modT_room hn h)
  have hsame := r17 hm hn
  obtain ⟨x, rfl, hx⟩ := hm
  obtain ⟨y, rfl, hy⟩ := hn
  refine Runs.of (f4_MR _ _) ?_
  unfold f4_M
  refine Goes.chk rfl (Goes.chk rfl (Goes.call awake_runs (Goes.chk rfl (Goes.tv rfl (Goes.ite (v := false) rfl (fun h => nomatch h) fun _ => ?_)))))
  refine Goes.call h7 (Goes.chk rfl (Goes.tv rfl (Goes.ite rfl (fun _ => Goes.ret) fun hb => ?_)))
  have hb : b = true := by simpa using hb
  refine Goes.call h7' (Goes.chk rfl (Goes.tv rfl (Goes.ite rfl (fun _ => Goes.ret) fun hb' => ?_)))
  have hb' : b' = true := by simpa using hb'
  specialize h9 (hshort hb)
  specialize h9' (hshort' hb')
  have answers : ∀ k : DMod, (modP k ∧ (modT k).length ≤ 65536 ∧ showT k = .tup [S (modT k), I 0]) ∨ showT k = .tup [S [], I 3] ∨ showT k = .tup [S [], I 1] := by
    intro k
    unfold showT
    by_cases hp : modP k
    · by_cases hl : (modT k).length ≤ 65536
      · exact .inl ⟨hp, hl, by rw [if_pos hp, if_pos hl]⟩
      · exact .inr (.inl (by rw [if_pos hp, if_neg hl]))
    · exact .inr (.inr (by rw [if_neg hp]))
  refine Goes.call h9 ?_
  rcases answers m with ⟨hp, hl, hs⟩ | hs | hs <;> rcases answers n with ⟨hp', hl', hs'⟩ | hs' | hs' <;> rw [hs] <;> rw [hs'] at h9' <;> refine Goes.chk rfl (Goes.chk rfl (Goes.chk rfl (Goes.call h9' (Goes.chk rfl (Goes.chk rfl (Goes.chk rfl ?_))))))
  · refine Goes.tv rfl (Goes.ite (v := false) rfl (fun h => nomatch h) fun _ => Goes.tv rfl (Goes.jmp (f4_0_R _ _ _ _ _ _ _) ?_))
    unfold f4_0
    refine Goes.ite (v := false) rfl (fun h => nomatch h) fun _ => Goes.tv (peql_str _ _) (Goes.call hsame (Goes.chk rfl (Goes.tv (v := B true) ?_ (Goes.ite (v := true) rfl (fun _ => ?_) fun h => nomatch h))))
    · have : tt (modT m = modT n) = tt (m = n) := tt_congr ⟨modT_inj hp hp', fun h => by rw [h]⟩
      rw [this]
      cases tt (m = n) <;> rfl
    · obtain ⟨hne, r, hr⟩ := modT_last hp
      have hlen : (modT m).length = r.length + 1 := by rw [hr]; simp
      refine Goes.tv (v := I (modT m).length) rfl (Goes.tv (v := B (decide (((modT m).length : Int) > 0))) rfl (Goes.ite (v := true) (by simp [asBool]; omega) (fun _ => ?_) fun h => nomatch h))
      refine Goes.tv (v := I (modT m).length) rfl (Goes.tv (v := I (r.length : Int)) ?_ (Goes.tv (v := .lit (.int .u8 ((10 : UInt8).toNat : Int))) (pstr_at (by rw [hr]; simp)) (Goes.tv (v := B true) rfl Goes.ret)))
      have := psub (a := ((modT m).length : Int)) (b := 1) (by constructor <;> omega)
      rw [this, hlen]
      simp
  all_goals
    repeat' (first
      | exact Goes.ret
      | refine Goes.tv (peql_same _) ?_
      | refine Goes.tv rfl ?_
      | refine Goes.ite (v := true) rfl (fun _ => ?_) (fun h => nomatch h)
      | refine Goes.ite (v := false) rfl (fun h => nomatch h) (fun _ => ?_)
      | (refine Goes.jmp (f4_0_R _ _ _ _ _ _ _) ?_; unfold f4_0))
end Go.Ab.D3
namespace Go.Proofs.YtpjgfmcefipjpaaDoor.lawsLaid
open Go Go.Ab Go.ChangeShapes Go.WideShapes Go.ChangeAt Go.RowKit
set_option linter.unusedVariables false
set_option maxRecDepth 100000
theorem own : ownKnob Tryd.prog.godebug = none := by kernel_rfl
theorem laid : laidOutB Tryd.prog = true := by kernel_rfl
theorem door_met (os : Os) (args : Array Value) : laidMetH Tryd.prog Rows.showApartRow.laid ((World.doorLaid Tryd.prog 72 os).forCall (fun _ _ => 0) ⟨#[], args, []⟩).memory :=
  laidMetH_of_parts3 (fuel := 8) (laidMet_of_run' 8 (by kernel_rfl) (by kernel_rfl)) (by kernel_rfl) (by kernel_rfl)
theorem pow_tab : (Rows.laid_internal_strconv_uint64pow10 : DataW Unit) = Lib.tabData .u64 Lib.pow10Tab := by rfl
theorem tab_of {W : World} (h : laidMetH Tryd.prog Rows.showApartRow.laid W) : (tabG Tryd.prog).P W (fun b => b < W.heap.size) := by
  rw [MakeChecks.laidMetH_plain _ _ _ (by kernel_rfl)] at h
  have h1 := laidMet.tail (laidMet.tail (x := ("math/bits.deBruijn32tab", Rows.laid_math_bits_deBruijn32tab)) (r := [("math/bits.deBruijn64tab", Rows.laid_math_bits_deBruijn64tab), ("internal/strconv.uint64pow10", Rows.laid_internal_strconv_uint64pow10)]) h)
  rw [pow_tab] at h1
  have h2 := Lib.tabIs_of_head (g := 1) (t := 165) (e := 117) (n := 20) (by kernel_rfl) (by kernel_rfl) Tryd.underlying165 Tryd.underlying117 (by kernel_rfl) (by kernel_rfl) h1
  refine ⟨h2, fun g hg => ?_⟩
  have hg1 : Tryd.prog.globalNamed "internal/strconv.uint64pow10" = some 1 := by kernel_rfl
  obtain rfl : 1 = g := Option.some.inj (hg1.symm.trans hg)
  unfold Lib.TabIs World.var? at h2
  rw [hg1] at h2
  simp only [Option.bind_some] at h2
  cases hc : W.heap[1]? with
  | none => rw [hc] at h2; cases h2
  | some o => exact (Array.getElem?_eq_some_iff.1 hc).1
end Go.Proofs.YtpjgfmcefipjpaaDoor.lawsLaid
namespace Go.Proofs.YtpjgfmcefipjpaaDoor.showApart
open Go Go.Ab Go.ChangeShapes Go.WideShapes Go.ChangeAt Go.RowKit
set_option linter.unusedVariables false
set_option maxRecDepth 100000
open lawsLaid
theorem plain : ∀ t ∈ Tryd.f4.params.toList, plainTy Tryd.prog 24 t = true ∧ Tryd.prog.readableRec t = true ∧ t < Tryd.prog.types.size := by
  intro t ht
  rw [Tryd.params4] at ht
  simp only [List.mem_cons, List.mem_nil_iff, or_false] at ht
  rcases ht with rfl | rfl <;> exact ⟨by kernel_rfl, by kernel_rfl, by decide +kernel⟩
theorem core : ∀ xs, ValsTy Tryd.prog Tryd.f4.params.toList xs → ∃ n, acall D3.prog n 4 xs = some (.lit (.bool true)) := by
  intro xs h
  rw [Tryd.params4] at h
  match xs, h with
  | [x, y], ⟨hx, hy, _⟩ =>
    obtain ⟨cs, m, rfl, hm⟩ := D3.v_mod hx
    obtain ⟨cs2, n, rfl, hn⟩ := D3.v_mod hy
    exact D3.apart_runs hm hn
theorem lifted (os : Os) (started : os.Started) (H : Type) (enc : TypeId × Value → H) :
    ReturnsInHanded {} Tryd.checked os 4 .any (fun w args => (Rows.showApartSpec.pre enc Tryd.prog Tryd.f4 [] false w args ∧ laidMetH Tryd.prog Rows.showApartRow.laid w) ∧ sizedMet enc Tryd.prog Tryd.f4 (OpenSpec.ofChange Rows.showApartSpec) false w args)
      (Rows.showApartSpec.post enc Tryd.prog Tryd.f4 false true false false) := by
  refine returnsInHanded_of_change_and (C := Tryd.checked) (X := fun w _ => laidMetH Tryd.prog Rows.showApartRow.laid w) (fun _ _ _ hh h => h.of_heap hh) own started (by kernel_rfl) Tryd.func4
    (ChangeSpec.witness_shaped (enc := enc) (C := Tryd.checked) (os := os) (X := fun w _ => laidMetH Tryd.prog Rows.showApartRow.laid w) false (World.doorLaid Tryd.prog 72 os) #[.agg #[.slice Option.none 0 0], .agg #[.slice Option.none 0 0]] 8 rfl (World.shaped_of_RefB (by kernel_rfl) (by kernel_rfl)) (by kernel_rfl) (by kernel_rfl) (by kernel_rfl) (door_met os _)) ?_
  intro W base args ds gs before hval hW _ _ hL _
  exact law_core (A := Go.Ab.D3.prog) Go.Ab.D3.ok (tab_of hL) rfl (f := Tryd.f4) laid plain (by kernel_rfl) Tryd.underlying4 rfl (fun ds hl => by
    have hl : ds.length = 2 := hl.trans (by rw [Tryd.params4]; rfl)
    match ds, hl with
    | [_, _], _ => rfl) core hval hW
theorem over : Rows.showApartRow.holds Tryd.pinned (OpenSpec.ofChange Rows.showApartSpec) :=
  OpenClaim.holds_of_wide 4 Tryd.f4 rfl rfl rfl rfl rfl rfl rfl ⟨rfl, rfl, rfl, rfl, rfl⟩ rfl rfl rfl rfl rfl (by kernel_rfl) Tryd.func4 (by kernel_rfl)
    (of_decide_eq_true (by kernel_rfl)) (by unfold Func.isWrapper; first | (rw [if_pos (by decide +kernel)]; kernel_rfl) | (rw [if_neg (by decide +kernel)]; exact ⟨rfl, rfl⟩))
    (fun os started H enc _ => lifted os started H enc)
theorem tied : Claim7.holds Tryd.pinned (.plain (OpenSpec.ofChange Rows.showApartSpec)) Rows.showApartCard :=
  Claim7.holds_tied_plain_at .later [] [.data, .data, .data] true (true, "0901d2f80f33a1dced56c84846a3d9ebbb69ce72e1be38978180e656b7874c07") true
    over (fun _ h => by cases h) (by kernel_rfl) (fun _ h => by cases h) showApart_row_tie rfl ⟨rfl, rfl⟩ (by kernel_rfl) rfl
    (fun f fn hf hfn => by
      obtain rfl : f = 4 := Option.some.inj ((show Tryd.prog.funcNamed "davit/davitlaw03.ShowApart" = some 4 by kernel_rfl).symm.trans hf) |>.symm
      obtain rfl : fn = Tryd.f4 := (Option.some.inj (Tryd.func4.symm.trans hfn)).symm
      exact ⟨by kernel_rfl, fun j t ht => by
        rw [Tryd.params4] at ht
        have hm : t ∈ [24] := by simpa using Array.mem_of_getElem? ht
        have hall : ([24].all fun u => !Tryd.prog.wantsStandIn u) = true := by kernel_rfl
        exact (show Tryd.prog.wantsStandIn t = false by simpa using List.all_eq_true.1 hall t hm)⟩)
    (by kernel_rfl)
end Go.Proofs.YtpjgfmcefipjpaaDoor.showApart
namespace Go.Proofs.YtpjgfmcefipjpaaDoor
/-- The statement. -/
theorem showApart_holds : Rows.ShowApartCardSaid := showApart.tied
#print axioms showApart_holds
end Go.Proofs.YtpjgfmcefipjpaaDoor

/- What each function of layer 1 that the three statements call answers, as contracts of their calls; no condition but that words are from 0 to 65535. -/
import Derived.Test.YtpcaeocopbfacaaRows
import Derived.WalkKit
import Derived.ProofKit
import Derived.OpenShut
import Derived.Lib.Hide
namespace Go.Proofs.Ytpcaeocopbfacaa
open Go.ChangeShapes Go.WideShapes Go.ChangeAt Go.RowKit

/-- A word. -/
def Word (a : Int) : Prop := 0 ≤ a ∧ a ≤ 65535
theorem word_of {a : Int} (h : (Lit.int .u16 a).wf = true) : Word a := bounds_u16 h

/-- What an operation answers. -/
def dN (op a b : Int) : Int :=
  if op = 2 then a else if op = 3 then (a + b) % 65536 else if op = 4 then (a - b) % 65536 else if op = 5 then (a * b) % 65536 else if op = 6 then (if b = 0 then 0 else a / b) else if op = 7 then (if a = b then 1 else 0) else if op = 8 then (if a < b then 1 else 0) else 0
/-- Is there an answer? -/
def dB (op b : Int) : Bool := decide (2 ≤ op ∧ op ≤ 8 ∧ (op = 6 → b ≠ 0))
def pB (op : Int) : Bool := decide (2 ≤ op ∧ op ≤ 8)
def tB (op : Int) : Bool := decide (3 ≤ op ∧ op ≤ 8)
def uB (op : Int) : Bool := decide (op = 3 ∨ op = 5 ∨ op = 7)

theorem ret2 {k : IntKind} {a b : Int} {x y : Bool} (h : a = b) (g : x = y) : Ending.returned (.tuple #[.int k a, .bool x]) = .returned (.tuple #[.int k b, .bool y]) := by rw [h, g]
theorem retb {x y : Bool} (g : x = y) : Ending.returned (.bool x) = .returned (.bool y) := by rw [g]
theorem wrap16 (n : Int) : IntKind.u16.wrap n = n % 65536 := rfl

theorem opCases (op : Int) : op = 2 ∨ op = 3 ∨ op = 4 ∨ op = 5 ∨ op = 6 ∨ op = 7 ∨ op = 8 ∨ (op < 2 ∨ 8 < op) := by omega
theorem opNot {op : Int} (h : op < 2 ∨ 8 < op) : (op == 2) = false ∧ (op == 3) = false ∧ (op == 4) = false ∧ (op == 5) = false ∧ (op == 6) = false ∧ (op == 7) = false ∧ (op == 8) = false := by
  refine ⟨?_, ?_, ?_, ?_, ?_, ?_, ?_⟩ <;> (simp only [beq_eq_false_iff_ne]; omega)

theorem truth_t (w : World) : Calls Try.prog 13 #[.bool true] w fun e w' => e = .returned (.int .u16 1) ∧ w = w' := by
  go_enter Try.func13, Try.ntmps13
  go_wp2
  go_ret
  exact ⟨rfl, rfl⟩
theorem truth_f (w : World) : Calls Try.prog 13 #[.bool false] w fun e w' => e = .returned (.int .u16 0) ∧ w = w' := by
  go_enter Try.func13, Try.ntmps13
  go_wp2
  go_ret
  exact ⟨rfl, rfl⟩
theorem quot_0 (a : Int) (w : World) : Calls Try.prog 12 #[.int .u16 a, .int .u16 0] w fun e w' => e = .returned (.tuple #[.int .u16 0, .bool false]) ∧ w = w' := by
  go_enter Try.func12, Try.ntmps12
  go_wp2
  go_ret2
  exact ⟨rfl, rfl⟩
theorem div_word {a b : Int} (ha : Word a) (hb : Word b) : 0 ≤ a / b ∧ a / b ≤ 65535 := by
  obtain ⟨a0, a1⟩ := ha; obtain ⟨b0, b1⟩ := hb
  exact ⟨Int.ediv_nonneg a0 b0, Int.le_trans (Int.ediv_le_self b a0) a1⟩
theorem quot_1 (a b : Int) (ha : Word a) (hb : Word b) (h : b ≠ 0) (w : World) : Calls Try.prog 12 #[.int .u16 a, .int .u16 b] w fun e w' => e = .returned (.tuple #[.int .u16 (a / b), .bool true]) ∧ w = w' := by
  have hd := div_word ha hb
  have ht : IntKind.u16.wrap (a.tdiv b) = a / b := by
    rw [wrap16, Int.tdiv_eq_ediv_of_nonneg ha.1]; omega
  have HT := Lib.hid ht
  clear ht
  have hz : (b == 0) = false := by simpa using h
  have H := Lib.hid h
  have HD := Lib.hid hd
  have HA := Lib.hid ha
  have HB := Lib.hid hb
  clear hd h ha hb
  go_enter Try.func12, Try.ntmps12
  go_wp2
  go_ret2
  exact ⟨ret2 HT.out rfl, rfl⟩

theorem do_2 (a b : Int) (w : World) : Calls Try.prog 7 #[.int .i64 2, .int .u16 a, .int .u16 b] w fun e w' => e = .returned (.tuple #[.int .u16 a, .bool true]) ∧ w = w' := by
  go_enter Try.func7, Try.ntmps7
  go_wp2
  go_ret2
  exact ⟨rfl, rfl⟩
theorem do_3 (a b : Int) (w : World) : Calls Try.prog 7 #[.int .i64 3, .int .u16 a, .int .u16 b] w fun e w' => e = .returned (.tuple #[.int .u16 ((a + b) % 65536), .bool true]) ∧ w = w' := by
  go_enter Try.func7, Try.ntmps7
  go_wp2
  go_ret2
  exact ⟨rfl, rfl⟩
theorem do_4 (a b : Int) (w : World) : Calls Try.prog 7 #[.int .i64 4, .int .u16 a, .int .u16 b] w fun e w' => e = .returned (.tuple #[.int .u16 ((a - b) % 65536), .bool true]) ∧ w = w' := by
  go_enter Try.func7, Try.ntmps7
  go_wp2
  go_ret2
  exact ⟨rfl, rfl⟩
theorem do_5 (a b : Int) (w : World) : Calls Try.prog 7 #[.int .i64 5, .int .u16 a, .int .u16 b] w fun e w' => e = .returned (.tuple #[.int .u16 ((a * b) % 65536), .bool true]) ∧ w = w' := by
  go_enter Try.func7, Try.ntmps7
  go_wp2
  go_ret2
  exact ⟨rfl, rfl⟩
theorem do_60 (a : Int) (w : World) : Calls Try.prog 7 #[.int .i64 6, .int .u16 a, .int .u16 0] w fun e w' => e = .returned (.tuple #[.int .u16 0, .bool false]) ∧ w = w' := by
  go_enter Try.func7, Try.ntmps7
  go_wp2_with (go_at_call 12; refine (quot_0 _ _).mono ?_; rintro e w' ⟨rfl, rfl⟩)
  go_ret2
  exact ⟨rfl, rfl⟩
theorem do_61 (a b : Int) (ha : Word a) (hb : Word b) (h : b ≠ 0) (w : World) : Calls Try.prog 7 #[.int .i64 6, .int .u16 a, .int .u16 b] w fun e w' => e = .returned (.tuple #[.int .u16 (a / b), .bool true]) ∧ w = w' := by
  have H := Lib.hid h
  clear h
  go_enter Try.func7, Try.ntmps7
  go_wp2_with (go_at_call 12; refine (quot_1 _ _ ha hb H.out _).mono ?_; rintro e w' ⟨rfl, rfl⟩)
  go_ret2
  exact ⟨rfl, rfl⟩
theorem do_7t (a : Int) (w : World) : Calls Try.prog 7 #[.int .i64 7, .int .u16 a, .int .u16 a] w fun e w' => e = .returned (.tuple #[.int .u16 1, .bool true]) ∧ w = w' := by
  go_enter Try.func7, Try.ntmps7
  go_wp2_with (go_at_call 13; refine (truth_t _).mono ?_; rintro e w' ⟨rfl, rfl⟩)
  go_ret2
  exact ⟨rfl, rfl⟩
theorem do_7f (a b : Int) (hz : (a == b) = false) (w : World) : Calls Try.prog 7 #[.int .i64 7, .int .u16 a, .int .u16 b] w fun e w' => e = .returned (.tuple #[.int .u16 0, .bool true]) ∧ w = w' := by
  go_enter Try.func7, Try.ntmps7
  go_wp2_with (go_at_call 13; refine (truth_f _).mono ?_; rintro e w' ⟨rfl, rfl⟩)
  go_ret2
  exact ⟨rfl, rfl⟩
theorem do_8t (a b : Int) (hz : decide (a < b) = true) (w : World) : Calls Try.prog 7 #[.int .i64 8, .int .u16 a, .int .u16 b] w fun e w' => e = .returned (.tuple #[.int .u16 1, .bool true]) ∧ w = w' := by
  go_enter Try.func7, Try.ntmps7
  go_wp2_with (go_at_call 13; refine (truth_t _).mono ?_; rintro e w' ⟨rfl, rfl⟩)
  go_ret2
  exact ⟨rfl, rfl⟩
theorem do_8f (a b : Int) (hz : decide (a < b) = false) (w : World) : Calls Try.prog 7 #[.int .i64 8, .int .u16 a, .int .u16 b] w fun e w' => e = .returned (.tuple #[.int .u16 0, .bool true]) ∧ w = w' := by
  go_enter Try.func7, Try.ntmps7
  go_wp2_with (go_at_call 13; refine (truth_f _).mono ?_; rintro e w' ⟨rfl, rfl⟩)
  go_ret2
  exact ⟨rfl, rfl⟩
theorem do_no (op a b : Int) (h : op < 2 ∨ 8 < op) (w : World) : Calls Try.prog 7 #[.int .i64 op, .int .u16 a, .int .u16 b] w fun e w' => e = .returned (.tuple #[.int .u16 0, .bool false]) ∧ w = w' := by
  obtain ⟨h2, h3, h4, h5, h6, h7, h8⟩ := opNot h
  clear h
  go_enter Try.func7, Try.ntmps7
  go_wp2
  go_ret2
  exact ⟨rfl, rfl⟩

theorem dN_no {op : Int} (a b : Int) (h : op < 2 ∨ 8 < op) : dN op a b = 0 := by
  unfold dN
  rw [if_neg (by omega), if_neg (by omega), if_neg (by omega), if_neg (by omega), if_neg (by omega), if_neg (by omega), if_neg (by omega)]
theorem dB_no {op : Int} (b : Int) (h : op < 2 ∨ 8 < op) : dB op b = false := by
  unfold dB
  exact decide_eq_false (by omega)

/-- word.Do. -/
theorem do_any (op a b : Int) (ha : Word a) (hb : Word b) (w : World) : Calls Try.prog 7 #[.int .i64 op, .int .u16 a, .int .u16 b] w fun e w' => e = .returned (.tuple #[.int .u16 (dN op a b), .bool (dB op b)]) ∧ w = w' := by
  rcases opCases op with rfl | rfl | rfl | rfl | rfl | rfl | rfl | h
  · exact do_2 a b w
  · exact do_3 a b w
  · exact do_4 a b w
  · exact do_5 a b w
  · by_cases h : b = 0
    · subst h; exact do_60 a w
    · refine (do_61 a b ha hb h w).mono ?_
      rintro e w' ⟨rfl, rfl⟩
      exact ⟨ret2 (by show a / b = if b = 0 then 0 else a / b; rw [if_neg h]) (by unfold dB; exact (decide_eq_true ⟨by omega, by omega, fun _ => h⟩).symm), rfl⟩
  · by_cases h : a = b
    · subst h
      rw [show dN 7 a a = 1 from if_pos rfl]; exact do_7t a w
    · rw [show dN 7 a b = 0 from if_neg h]; exact do_7f a b (by simpa using h) w
  · by_cases h : a < b
    · rw [show dN 8 a b = 1 from if_pos h]; exact do_8t a b (by simpa using h) w
    · rw [show dN 8 a b = 0 from if_neg h]; exact do_8f a b (by simpa using h) w
  · rw [dN_no a b h, dB_no b h]; exact do_no op a b h w

/-- word.Pure. -/
theorem pure_any (op : Int) (w : World) : Calls Try.prog 9 #[.int .i64 op] w fun e w' => e = .returned (.bool (pB op)) ∧ w = w' := by
  rcases opCases op with rfl | rfl | rfl | rfl | rfl | rfl | rfl | h
  case inr.inr.inr.inr.inr.inr.inr =>
    have hp := Lib.hid (show pB op = false from decide_eq_false (by omega))
    obtain ⟨h2, h3, h4, h5, h6, h7, h8⟩ := opNot h
    clear h
    go_enter Try.func9, Try.ntmps9
    go_wp2
    go_ret
    exact ⟨retb hp.out.symm, rfl⟩
  all_goals
    go_enter Try.func9, Try.ntmps9
    go_wp2
    go_ret
    exact ⟨rfl, rfl⟩
/-- word.Two. -/
theorem two_any (op : Int) (w : World) : Calls Try.prog 10 #[.int .i64 op] w fun e w' => e = .returned (.bool (tB op)) ∧ w = w' := by
  by_cases h : 2 ≤ op ∧ op ≤ 8
  · have hp : pB op = true := decide_eq_true h
    by_cases h2 : op = 2
    · subst h2
      go_enter Try.func10, Try.ntmps10
      go_wp2_with (go_at_call 9; refine (pure_any _ _).mono ?_; rintro e w' ⟨rfl, rfl⟩)
      go_ret
      exact ⟨rfl, rfl⟩
    · have ht := Lib.hid (show tB op = true from decide_eq_true (by omega))
      have hz : (op != 2) = true := by simpa using h2
      clear h h2
      go_enter Try.func10, Try.ntmps10
      go_wp2_with (go_at_call 9; refine (pure_any _ _).mono ?_; rintro e w' ⟨rfl, rfl⟩)
      go_ret
      exact ⟨retb ht.out.symm, rfl⟩
  · have hp : pB op = false := decide_eq_false h
    have ht := Lib.hid (show tB op = false from decide_eq_false (by omega))
    clear h
    go_enter Try.func10, Try.ntmps10
    go_wp2_with (go_at_call 9; refine (pure_any _ _).mono ?_; rintro e w' ⟨rfl, rfl⟩)
    go_ret
    exact ⟨retb ht.out.symm, rfl⟩
/-- word.Turns. -/
theorem turns_any (op : Int) (w : World) : Calls Try.prog 11 #[.int .i64 op] w fun e w' => e = .returned (.bool (uB op)) ∧ w = w' := by
  by_cases h3 : op = 3
  · subst h3
    go_enter Try.func11, Try.ntmps11
    go_wp2
    go_ret
    exact ⟨rfl, rfl⟩
  · by_cases h5 : op = 5
    · subst h5
      clear h3
      go_enter Try.func11, Try.ntmps11
      go_wp2
      go_ret
      exact ⟨rfl, rfl⟩
    · by_cases h7 : op = 7
      · subst h7
        clear h3 h5
        go_enter Try.func11, Try.ntmps11
        go_wp2
        go_ret
        exact ⟨rfl, rfl⟩
      · have hp := Lib.hid (show uB op = false from decide_eq_false (by omega))
        have e3 : (op == 3) = false := by simpa using h3
        have e5 : (op == 5) = false := by simpa using h5
        have e7 : (op == 7) = false := by simpa using h7
        clear h3 h5 h7
        go_enter Try.func11, Try.ntmps11
        go_wp2
        go_ret
        exact ⟨retb hp.out.symm, rfl⟩
theorem aw_add (w : World) : Calls Try.prog 7 #[.int .i64 3, .int .u16 65535, .int .u16 3] w fun e w' => e = .returned (.tuple #[.int .u16 2, .bool true]) ∧ w = w' := do_3 65535 3 w
theorem aw_pure (w : World) : Calls Try.prog 9 #[.int .i64 5] w fun e w' => e = .returned (.bool true) ∧ w = w' := pure_any 5 w
theorem aw_two (w : World) : Calls Try.prog 10 #[.int .i64 8] w fun e w' => e = .returned (.bool true) ∧ w = w' := two_any 8 w
theorem aw_turns (w : World) : Calls Try.prog 11 #[.int .i64 7] w fun e w' => e = .returned (.bool true) ∧ w = w' := turns_any 7 w
/-- davitlaw01.awake. -/
theorem awake_any (w : World) : Calls Try.prog 6 #[] w fun e w' => e = .returned (.bool true) ∧ w = w' := by
  go_enter Try.func6, Try.ntmps6
  go_wp2_with (first
    | (go_at_call 7; (first | (with_reducible refine (aw_add _).mono ?_) | (with_reducible refine (do_60 _ _).mono ?_)); rintro e w' ⟨rfl, rfl⟩)
    | (go_at_call 9; (with_reducible refine (aw_pure _).mono ?_); rintro e w' ⟨rfl, rfl⟩)
    | (go_at_call 10; (with_reducible refine (aw_two _).mono ?_); rintro e w' ⟨rfl, rfl⟩)
    | (go_at_call 11; (with_reducible refine (aw_turns _).mono ?_); rintro e w' ⟨rfl, rfl⟩))
  go_ret
  exact ⟨rfl, rfl⟩
end Go.Proofs.Ytpcaeocopbfacaa

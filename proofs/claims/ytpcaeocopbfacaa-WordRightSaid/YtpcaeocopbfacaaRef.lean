/- What the document's own answer for layer 1 is, as a contract of its call: the same as the program's; no condition but that words are from 0 to 65535. -/
import Derived.Test.YtpcaeocopbfacaaWalks
namespace Go.Proofs.Ytpcaeocopbfacaa
open Go.ChangeShapes Go.WideShapes Go.ChangeAt Go.RowKit

theorem ref_2 (a b : Int) (a0 : 0 ≤ a) (a1 : a ≤ 65535) (b0 : 0 ≤ b) (b1 : b ≤ 65535) (w : World) : Calls Try.prog 8 #[.int .i64 2, .int .u16 a, .int .u16 b] w fun e w' => e = .returned (.tuple #[.int .u16 a, .bool true]) ∧ w = w' := by
  go_enter Try.func8, Try.ntmps8
  go_wp2
  go_ret2
  exact ⟨rfl, rfl⟩
theorem ref_3 (a b : Int) (a0 : 0 ≤ a) (a1 : a ≤ 65535) (b0 : 0 ≤ b) (b1 : b ≤ 65535) (w : World) : Calls Try.prog 8 #[.int .i64 3, .int .u16 a, .int .u16 b] w fun e w' => e = .returned (.tuple #[.int .u16 ((a + b) % 65536), .bool true]) ∧ w = w' := by
  go_enter Try.func8, Try.ntmps8
  go_wp2
  go_ret2
  exact ⟨ret2 (by omega) rfl, rfl⟩
theorem ref_4 (a b : Int) (a0 : 0 ≤ a) (a1 : a ≤ 65535) (b0 : 0 ≤ b) (b1 : b ≤ 65535) (w : World) : Calls Try.prog 8 #[.int .i64 4, .int .u16 a, .int .u16 b] w fun e w' => e = .returned (.tuple #[.int .u16 ((a - b) % 65536), .bool true]) ∧ w = w' := by
  go_enter Try.func8, Try.ntmps8
  go_wp2
  go_ret2
  exact ⟨ret2 (by omega) rfl, rfl⟩
theorem mul_word {a b : Int} (a0 : 0 ≤ a) (a1 : a ≤ 65535) (b0 : 0 ≤ b) (b1 : b ≤ 65535) : IntKind.u16.wrap ((IntKind.u64.wrap (a * b)).tmod 65536) = (a * b) % 65536 := by
  have h0 : 0 ≤ a * b := Int.mul_nonneg a0 b0
  have h1 : a * b ≤ 65535 * 65535 := Int.mul_le_mul a1 b1 b0 (by decide)
  have hu : IntKind.u64.wrap (a * b) = a * b := by
    show (a * b) % 18446744073709551616 = a * b
    omega
  rw [hu, Int.tmod_eq_emod_of_nonneg h0, wrap16]
  omega
theorem ref_5 (a b : Int) (a0 : 0 ≤ a) (a1 : a ≤ 65535) (b0 : 0 ≤ b) (b1 : b ≤ 65535) (w : World) : Calls Try.prog 8 #[.int .i64 5, .int .u16 a, .int .u16 b] w fun e w' => e = .returned (.tuple #[.int .u16 ((a * b) % 65536), .bool true]) ∧ w = w' := by
  go_enter Try.func8, Try.ntmps8
  go_wp2
  go_ret2
  exact ⟨ret2 (mul_word a0 a1 b0 b1) rfl, rfl⟩
theorem ref_60 (a : Int) (a0 : 0 ≤ a) (a1 : a ≤ 65535) (w : World) : Calls Try.prog 8 #[.int .i64 6, .int .u16 a, .int .u16 0] w fun e w' => e = .returned (.tuple #[.int .u16 0, .bool false]) ∧ w = w' := by
  go_enter Try.func8, Try.ntmps8
  go_wp2
  go_ret2
  exact ⟨rfl, rfl⟩
theorem ref_61 (a b : Int) (a0 : 0 ≤ a) (a1 : a ≤ 65535) (b0 : 0 < b) (b1 : b ≤ 65535) (w : World) : Calls Try.prog 8 #[.int .i64 6, .int .u16 a, .int .u16 b] w fun e w' => e = .returned (.tuple #[.int .u16 (a / b), .bool true]) ∧ w = w' := by
  have hd := Lib.hid (div_word (a := a) (b := b) ⟨a0, a1⟩ ⟨by omega, b1⟩)
  go_enter Try.func8, Try.ntmps8
  go_wp2
  go_ret2
  have := hd.out
  exact ⟨ret2 (by rw [wrap16]; omega) rfl, rfl⟩
theorem ref_7t (a : Int) (a0 : 0 ≤ a) (a1 : a ≤ 65535) (w : World) : Calls Try.prog 8 #[.int .i64 7, .int .u16 a, .int .u16 a] w fun e w' => e = .returned (.tuple #[.int .u16 1, .bool true]) ∧ w = w' := by
  go_enter Try.func8, Try.ntmps8
  go_wp2
  go_ret2
  exact ⟨rfl, rfl⟩
theorem ref_7f (a b : Int) (hz : (a == b) = false) (a0 : 0 ≤ a) (a1 : a ≤ 65535) (b0 : 0 ≤ b) (b1 : b ≤ 65535) (w : World) : Calls Try.prog 8 #[.int .i64 7, .int .u16 a, .int .u16 b] w fun e w' => e = .returned (.tuple #[.int .u16 0, .bool true]) ∧ w = w' := by
  go_enter Try.func8, Try.ntmps8
  go_wp2
  go_ret2
  exact ⟨rfl, rfl⟩
theorem ref_8t (a b : Int) (hz : decide (a < b) = true) (a0 : 0 ≤ a) (a1 : a ≤ 65535) (b0 : 0 ≤ b) (b1 : b ≤ 65535) (w : World) : Calls Try.prog 8 #[.int .i64 8, .int .u16 a, .int .u16 b] w fun e w' => e = .returned (.tuple #[.int .u16 1, .bool true]) ∧ w = w' := by
  go_enter Try.func8, Try.ntmps8
  go_wp2
  go_ret2
  exact ⟨rfl, rfl⟩
theorem ref_8f (a b : Int) (hz : decide (a < b) = false) (a0 : 0 ≤ a) (a1 : a ≤ 65535) (b0 : 0 ≤ b) (b1 : b ≤ 65535) (w : World) : Calls Try.prog 8 #[.int .i64 8, .int .u16 a, .int .u16 b] w fun e w' => e = .returned (.tuple #[.int .u16 0, .bool true]) ∧ w = w' := by
  go_enter Try.func8, Try.ntmps8
  go_wp2
  go_ret2
  exact ⟨rfl, rfl⟩
theorem ref_no (op a b : Int) (h : op < 2 ∨ 8 < op) (a0 : 0 ≤ a) (a1 : a ≤ 65535) (b0 : 0 ≤ b) (b1 : b ≤ 65535) (w : World) : Calls Try.prog 8 #[.int .i64 op, .int .u16 a, .int .u16 b] w fun e w' => e = .returned (.tuple #[.int .u16 0, .bool false]) ∧ w = w' := by
  obtain ⟨h2, h3, h4, h5, h6, h7, h8⟩ := opNot h
  clear h
  go_enter Try.func8, Try.ntmps8
  go_wp2
  go_ret2
  exact ⟨rfl, rfl⟩

/-- davitref01.Do. -/
theorem ref_any (op a b : Int) (ha : Word a) (hb : Word b) (w : World) : Calls Try.prog 8 #[.int .i64 op, .int .u16 a, .int .u16 b] w fun e w' => e = .returned (.tuple #[.int .u16 (dN op a b), .bool (dB op b)]) ∧ w = w' := by
  obtain ⟨a0, a1⟩ := ha
  obtain ⟨b0, b1⟩ := hb
  rcases opCases op with rfl | rfl | rfl | rfl | rfl | rfl | rfl | h
  · exact ref_2 a b a0 a1 b0 b1 w
  · exact ref_3 a b a0 a1 b0 b1 w
  · exact ref_4 a b a0 a1 b0 b1 w
  · exact ref_5 a b a0 a1 b0 b1 w
  · by_cases h : b = 0
    · subst h; exact ref_60 a a0 a1 w
    · rw [show dN 6 a b = a / b from if_neg h, show dB 6 b = true from decide_eq_true ⟨by omega, by omega, fun _ => h⟩]
      exact ref_61 a b a0 a1 (by omega) b1 w
  · by_cases h : a = b
    · subst h
      rw [show dN 7 a a = 1 from if_pos rfl]; exact ref_7t a a0 a1 w
    · rw [show dN 7 a b = 0 from if_neg h]; exact ref_7f a b (by simpa using h) a0 a1 b0 b1 w
  · by_cases h : a < b
    · rw [show dN 8 a b = 1 from if_pos h]; exact ref_8t a b (by simpa using h) a0 a1 b0 b1 w
    · rw [show dN 8 a b = 0 from if_neg h]; exact ref_8f a b (by simpa using h) a0 a1 b0 b1 w
  · rw [dN_no a b h, dB_no b h]; exact ref_no op a b h a0 a1 b0 b1 w
end Go.Proofs.Ytpcaeocopbfacaa

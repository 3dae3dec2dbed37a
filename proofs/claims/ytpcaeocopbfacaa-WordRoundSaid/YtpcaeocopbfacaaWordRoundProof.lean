/-
  For every operation's number and any two words the law WordRound of layer 1 answers true (what was put to a word is taken away again; a division and its rest make it up), and its arguments stay as they were.
  Conditions: none beyond the given row's own.
-/
import Derived.Test.YtpcaeocopbfacaaWalks
import Derived.WalkKit
import Derived.ProofKit
import Derived.OpenShut
namespace Go.Proofs.Ytpcaeocopbfacaa.wordRound
open Go.ChangeShapes Go.WideShapes Go.ChangeAt Go.RowKit
set_option linter.unusedVariables false      -- a walk need not use every 'w<i>' (that an integer argument fits its kind)

theorem own : ownKnob Try.prog.godebug = none := by kernel_rfl

theorem do_is {op a b v : Int} {t : Bool} (ha : Word a) (hb : Word b) (h : dN op a b = v) (g : dB op b = t) (w : World) : Calls Try.prog 7 #[.int .i64 op, .int .u16 a, .int .u16 b] w fun e w' => e = .returned (.tuple #[.int .u16 v, .bool t]) ∧ w = w' := h ▸ g ▸ do_any op a b ha hb w
theorem pure_is {op : Int} {v : Bool} (h : pB op = v) (w : World) : Calls Try.prog 9 #[.int .i64 op] w fun e w' => e = .returned (.bool v) ∧ w = w' := h ▸ pure_any op w
theorem turns_is {op : Int} {v : Bool} (h : uB op = v) (w : World) : Calls Try.prog 11 #[.int .i64 op] w fun e w' => e = .returned (.bool v) ∧ w = w' := h ▸ turns_any op w
/-- A call of word.Do with its answer. -/
def Ans (op a b v : Int) (t : Bool) : Prop := ∀ w : World, Calls Try.prog 7 #[.int .i64 op, .int .u16 a, .int .u16 b] w fun e w' => e = .returned (.tuple #[.int .u16 v, .bool t]) ∧ w = w'
theorem dN_word (op : Int) {a b : Int} (ha : Word a) (hb : Word b) : Word (dN op a b) := by
  rcases opCases op with rfl | rfl | rfl | rfl | rfl | rfl | rfl | h
  · exact ha
  · show Word ((a + b) % 65536); exact ⟨by omega, by omega⟩
  · show Word ((a - b) % 65536); exact ⟨by omega, by omega⟩
  · show Word ((a * b) % 65536); exact ⟨by omega, by omega⟩
  · show Word (if b = 0 then 0 else a / b)
    split
    · exact ⟨by decide, by decide⟩
    · exact div_word ha hb
  · show Word (if a = b then 1 else 0); split <;> exact ⟨by decide, by decide⟩
  · show Word (if a < b then 1 else 0); split <;> exact ⟨by decide, by decide⟩
  · rw [dN_no a b h]; exact ⟨by decide, by decide⟩
theorem ans {op a b : Int} (v : Int) (t : Bool) (ha : Word a) (hb : Word b) (h : dN op a b = v) (g : dB op b = t) : Hid (Ans op a b v t) := Lib.hid (fun w => do_is ha hb h g w)
theorem c1 {op a b v : Int} {t : Bool} (h : Ans op a b v t) (w : World) : Calls Try.prog 7 #[.int .i64 op, .int .u16 a, .int .u16 b] w fun e w' => e = .returned (.tuple #[.int .u16 v, .bool t]) ∧ w = w' := h w
theorem walk_2z (a s n m : Int) (k1 : Hid (Ans 3 a 0 s true)) (k2 : Hid (Ans 4 s 0 a true)) (k3 : Hid (Ans 6 a 0 0 false)) (k7 : Hid (Ans 2 a 0 n true)) (k8 : Hid (Ans 2 0 a m true)) (kp : Hid (pB 2 = true)) (ku : Hid (uB 2 = false)) (w : World) :
    Calls Try.prog 4 #[.int .i64 2, .int .u16 a, .int .u16 0] w fun e w' => e = .returned (.bool true) ∧ w = w' := by
  go_enter Try.func4, Try.ntmps4
  go_wp2_with (first
    | (go_at_call 6; (with_reducible refine (awake_any _).mono ?_); rintro e w' ⟨rfl, rfl⟩)
    | (go_at_call 7; (with_reducible refine (c1 k1.out _).mono ?_); rintro e w' ⟨rfl, rfl⟩)
    | (go_at_call 7; (with_reducible refine (c1 k2.out _).mono ?_); rintro e w' ⟨rfl, rfl⟩)
    | (go_at_call 7; (with_reducible refine (c1 k3.out _).mono ?_); rintro e w' ⟨rfl, rfl⟩)
    | (go_at_call 7; (with_reducible refine (c1 k7.out _).mono ?_); rintro e w' ⟨rfl, rfl⟩)
    | (go_at_call 7; (with_reducible refine (c1 k8.out _).mono ?_); rintro e w' ⟨rfl, rfl⟩)
    | (go_at_call 9; (with_reducible refine (pure_is kp.out _).mono ?_); rintro e w' ⟨rfl, rfl⟩)
    | (go_at_call 11; (with_reducible refine (turns_is ku.out _).mono ?_); rintro e w' ⟨rfl, rfl⟩))
  go_ret
  exact ⟨rfl, rfl⟩
theorem walk_3z (a s : Int) (k1 : Hid (Ans 3 a 0 s true)) (k2 : Hid (Ans 4 s 0 a true)) (k3 : Hid (Ans 6 a 0 0 false)) (k8 : Hid (Ans 3 0 a s true)) (kp : Hid (pB 3 = true)) (ku : Hid (uB 3 = true)) (w : World) :
    Calls Try.prog 4 #[.int .i64 3, .int .u16 a, .int .u16 0] w fun e w' => e = .returned (.bool true) ∧ w = w' := by
  go_enter Try.func4, Try.ntmps4
  go_wp2_with (first
    | (go_at_call 6; (with_reducible refine (awake_any _).mono ?_); rintro e w' ⟨rfl, rfl⟩)
    | (go_at_call 7; (with_reducible refine (c1 k1.out _).mono ?_); rintro e w' ⟨rfl, rfl⟩)
    | (go_at_call 7; (with_reducible refine (c1 k2.out _).mono ?_); rintro e w' ⟨rfl, rfl⟩)
    | (go_at_call 7; (with_reducible refine (c1 k3.out _).mono ?_); rintro e w' ⟨rfl, rfl⟩)
    | (go_at_call 7; (with_reducible refine (c1 k8.out _).mono ?_); rintro e w' ⟨rfl, rfl⟩)
    | (go_at_call 9; (with_reducible refine (pure_is kp.out _).mono ?_); rintro e w' ⟨rfl, rfl⟩)
    | (go_at_call 11; (with_reducible refine (turns_is ku.out _).mono ?_); rintro e w' ⟨rfl, rfl⟩))
  go_ret
  exact ⟨rfl, rfl⟩
theorem walk_4z (a s n m : Int) (k1 : Hid (Ans 3 a 0 s true)) (k2 : Hid (Ans 4 s 0 a true)) (k3 : Hid (Ans 6 a 0 0 false)) (k7 : Hid (Ans 4 a 0 n true)) (k8 : Hid (Ans 4 0 a m true)) (kp : Hid (pB 4 = true)) (ku : Hid (uB 4 = false)) (w : World) :
    Calls Try.prog 4 #[.int .i64 4, .int .u16 a, .int .u16 0] w fun e w' => e = .returned (.bool true) ∧ w = w' := by
  go_enter Try.func4, Try.ntmps4
  go_wp2_with (first
    | (go_at_call 6; (with_reducible refine (awake_any _).mono ?_); rintro e w' ⟨rfl, rfl⟩)
    | (go_at_call 7; (with_reducible refine (c1 k1.out _).mono ?_); rintro e w' ⟨rfl, rfl⟩)
    | (go_at_call 7; (with_reducible refine (c1 k2.out _).mono ?_); rintro e w' ⟨rfl, rfl⟩)
    | (go_at_call 7; (with_reducible refine (c1 k3.out _).mono ?_); rintro e w' ⟨rfl, rfl⟩)
    | (go_at_call 7; (with_reducible refine (c1 k7.out _).mono ?_); rintro e w' ⟨rfl, rfl⟩)
    | (go_at_call 7; (with_reducible refine (c1 k8.out _).mono ?_); rintro e w' ⟨rfl, rfl⟩)
    | (go_at_call 9; (with_reducible refine (pure_is kp.out _).mono ?_); rintro e w' ⟨rfl, rfl⟩)
    | (go_at_call 11; (with_reducible refine (turns_is ku.out _).mono ?_); rintro e w' ⟨rfl, rfl⟩))
  go_ret
  exact ⟨rfl, rfl⟩
theorem walk_5z (a s n : Int) (k1 : Hid (Ans 3 a 0 s true)) (k2 : Hid (Ans 4 s 0 a true)) (k3 : Hid (Ans 6 a 0 0 false)) (k7 : Hid (Ans 5 a 0 n true)) (k8 : Hid (Ans 5 0 a n true)) (kp : Hid (pB 5 = true)) (ku : Hid (uB 5 = true)) (w : World) :
    Calls Try.prog 4 #[.int .i64 5, .int .u16 a, .int .u16 0] w fun e w' => e = .returned (.bool true) ∧ w = w' := by
  go_enter Try.func4, Try.ntmps4
  go_wp2_with (first
    | (go_at_call 6; (with_reducible refine (awake_any _).mono ?_); rintro e w' ⟨rfl, rfl⟩)
    | (go_at_call 7; (with_reducible refine (c1 k1.out _).mono ?_); rintro e w' ⟨rfl, rfl⟩)
    | (go_at_call 7; (with_reducible refine (c1 k2.out _).mono ?_); rintro e w' ⟨rfl, rfl⟩)
    | (go_at_call 7; (with_reducible refine (c1 k3.out _).mono ?_); rintro e w' ⟨rfl, rfl⟩)
    | (go_at_call 7; (with_reducible refine (c1 k7.out _).mono ?_); rintro e w' ⟨rfl, rfl⟩)
    | (go_at_call 7; (with_reducible refine (c1 k8.out _).mono ?_); rintro e w' ⟨rfl, rfl⟩)
    | (go_at_call 9; (with_reducible refine (pure_is kp.out _).mono ?_); rintro e w' ⟨rfl, rfl⟩)
    | (go_at_call 11; (with_reducible refine (turns_is ku.out _).mono ?_); rintro e w' ⟨rfl, rfl⟩))
  go_ret
  exact ⟨rfl, rfl⟩
theorem walk_6z (a s m : Int) (v : Bool) (k1 : Hid (Ans 3 a 0 s true)) (k2 : Hid (Ans 4 s 0 a true)) (k3 : Hid (Ans 6 a 0 0 false)) (k8 : Hid (Ans 6 0 a m v)) (kp : Hid (pB 6 = true)) (ku : Hid (uB 6 = false)) (w : World) :
    Calls Try.prog 4 #[.int .i64 6, .int .u16 a, .int .u16 0] w fun e w' => e = .returned (.bool true) ∧ w = w' := by
  go_enter Try.func4, Try.ntmps4
  go_wp2_with (first
    | (go_at_call 6; (with_reducible refine (awake_any _).mono ?_); rintro e w' ⟨rfl, rfl⟩)
    | (go_at_call 7; (with_reducible refine (c1 k1.out _).mono ?_); rintro e w' ⟨rfl, rfl⟩)
    | (go_at_call 7; (with_reducible refine (c1 k2.out _).mono ?_); rintro e w' ⟨rfl, rfl⟩)
    | (go_at_call 7; (with_reducible refine (c1 k3.out _).mono ?_); rintro e w' ⟨rfl, rfl⟩)
    | (go_at_call 7; (with_reducible refine (c1 k8.out _).mono ?_); rintro e w' ⟨rfl, rfl⟩)
    | (go_at_call 9; (with_reducible refine (pure_is kp.out _).mono ?_); rintro e w' ⟨rfl, rfl⟩)
    | (go_at_call 11; (with_reducible refine (turns_is ku.out _).mono ?_); rintro e w' ⟨rfl, rfl⟩))
  go_ret
  exact ⟨rfl, rfl⟩
theorem walk_7z (a s n : Int) (k1 : Hid (Ans 3 a 0 s true)) (k2 : Hid (Ans 4 s 0 a true)) (k3 : Hid (Ans 6 a 0 0 false)) (k7 : Hid (Ans 7 a 0 n true)) (k8 : Hid (Ans 7 0 a n true)) (kp : Hid (pB 7 = true)) (ku : Hid (uB 7 = true)) (w : World) :
    Calls Try.prog 4 #[.int .i64 7, .int .u16 a, .int .u16 0] w fun e w' => e = .returned (.bool true) ∧ w = w' := by
  go_enter Try.func4, Try.ntmps4
  go_wp2_with (first
    | (go_at_call 6; (with_reducible refine (awake_any _).mono ?_); rintro e w' ⟨rfl, rfl⟩)
    | (go_at_call 7; (with_reducible refine (c1 k1.out _).mono ?_); rintro e w' ⟨rfl, rfl⟩)
    | (go_at_call 7; (with_reducible refine (c1 k2.out _).mono ?_); rintro e w' ⟨rfl, rfl⟩)
    | (go_at_call 7; (with_reducible refine (c1 k3.out _).mono ?_); rintro e w' ⟨rfl, rfl⟩)
    | (go_at_call 7; (with_reducible refine (c1 k7.out _).mono ?_); rintro e w' ⟨rfl, rfl⟩)
    | (go_at_call 7; (with_reducible refine (c1 k8.out _).mono ?_); rintro e w' ⟨rfl, rfl⟩)
    | (go_at_call 9; (with_reducible refine (pure_is kp.out _).mono ?_); rintro e w' ⟨rfl, rfl⟩)
    | (go_at_call 11; (with_reducible refine (turns_is ku.out _).mono ?_); rintro e w' ⟨rfl, rfl⟩))
  go_ret
  exact ⟨rfl, rfl⟩
theorem walk_8z (a s n m : Int) (k1 : Hid (Ans 3 a 0 s true)) (k2 : Hid (Ans 4 s 0 a true)) (k3 : Hid (Ans 6 a 0 0 false)) (k7 : Hid (Ans 8 a 0 n true)) (k8 : Hid (Ans 8 0 a m true)) (kp : Hid (pB 8 = true)) (ku : Hid (uB 8 = false)) (w : World) :
    Calls Try.prog 4 #[.int .i64 8, .int .u16 a, .int .u16 0] w fun e w' => e = .returned (.bool true) ∧ w = w' := by
  go_enter Try.func4, Try.ntmps4
  go_wp2_with (first
    | (go_at_call 6; (with_reducible refine (awake_any _).mono ?_); rintro e w' ⟨rfl, rfl⟩)
    | (go_at_call 7; (with_reducible refine (c1 k1.out _).mono ?_); rintro e w' ⟨rfl, rfl⟩)
    | (go_at_call 7; (with_reducible refine (c1 k2.out _).mono ?_); rintro e w' ⟨rfl, rfl⟩)
    | (go_at_call 7; (with_reducible refine (c1 k3.out _).mono ?_); rintro e w' ⟨rfl, rfl⟩)
    | (go_at_call 7; (with_reducible refine (c1 k7.out _).mono ?_); rintro e w' ⟨rfl, rfl⟩)
    | (go_at_call 7; (with_reducible refine (c1 k8.out _).mono ?_); rintro e w' ⟨rfl, rfl⟩)
    | (go_at_call 9; (with_reducible refine (pure_is kp.out _).mono ?_); rintro e w' ⟨rfl, rfl⟩)
    | (go_at_call 11; (with_reducible refine (turns_is ku.out _).mono ?_); rintro e w' ⟨rfl, rfl⟩))
  go_ret
  exact ⟨rfl, rfl⟩
theorem walk_oz (a op s : Int) (k1 : Hid (Ans 3 a 0 s true)) (k2 : Hid (Ans 4 s 0 a true)) (k3 : Hid (Ans 6 a 0 0 false)) (k7 : Hid (Ans op a 0 0 false)) (k8 : Hid (Ans op 0 a 0 false)) (kp : Hid (pB op = false)) (ku : Hid (uB op = false)) (w : World) :
    Calls Try.prog 4 #[.int .i64 op, .int .u16 a, .int .u16 0] w fun e w' => e = .returned (.bool true) ∧ w = w' := by
  go_enter Try.func4, Try.ntmps4
  go_wp2_with (first
    | (go_at_call 6; (with_reducible refine (awake_any _).mono ?_); rintro e w' ⟨rfl, rfl⟩)
    | (go_at_call 7; (with_reducible refine (c1 k1.out _).mono ?_); rintro e w' ⟨rfl, rfl⟩)
    | (go_at_call 7; (with_reducible refine (c1 k2.out _).mono ?_); rintro e w' ⟨rfl, rfl⟩)
    | (go_at_call 7; (with_reducible refine (c1 k3.out _).mono ?_); rintro e w' ⟨rfl, rfl⟩)
    | (go_at_call 7; (with_reducible refine (c1 k7.out _).mono ?_); rintro e w' ⟨rfl, rfl⟩)
    | (go_at_call 7; (with_reducible refine (c1 k8.out _).mono ?_); rintro e w' ⟨rfl, rfl⟩)
    | (go_at_call 9; (with_reducible refine (pure_is kp.out _).mono ?_); rintro e w' ⟨rfl, rfl⟩)
    | (go_at_call 11; (with_reducible refine (turns_is ku.out _).mono ?_); rintro e w' ⟨rfl, rfl⟩))
  go_ret
  exact ⟨rfl, rfl⟩
theorem walk_2n (a b s q p r n m : Int) (k1 : Hid (Ans 3 a b s true)) (k2 : Hid (Ans 4 s b a true)) (k3 : Hid (Ans 6 a b q true)) (k4 : Hid (Ans 5 q b p true)) (k5 : Hid (Ans 4 a p r true)) (k6 : Hid (Ans 8 r b 1 true)) (k7 : Hid (Ans 2 a b n true)) (k8 : Hid (Ans 2 b a m true)) (kp : Hid (pB 2 = true)) (ku : Hid (uB 2 = false)) (hb : (b != 0) = true) (hpa : decide (a < p) = false) (w : World) :
    Calls Try.prog 4 #[.int .i64 2, .int .u16 a, .int .u16 b] w fun e w' => e = .returned (.bool true) ∧ w = w' := by
  go_enter Try.func4, Try.ntmps4
  go_wp2_with (first
    | (go_at_call 6; (with_reducible refine (awake_any _).mono ?_); rintro e w' ⟨rfl, rfl⟩)
    | (go_at_call 7; (with_reducible refine (c1 k1.out _).mono ?_); rintro e w' ⟨rfl, rfl⟩)
    | (go_at_call 7; (with_reducible refine (c1 k2.out _).mono ?_); rintro e w' ⟨rfl, rfl⟩)
    | (go_at_call 7; (with_reducible refine (c1 k3.out _).mono ?_); rintro e w' ⟨rfl, rfl⟩)
    | (go_at_call 7; (with_reducible refine (c1 k4.out _).mono ?_); rintro e w' ⟨rfl, rfl⟩)
    | (go_at_call 7; (with_reducible refine (c1 k5.out _).mono ?_); rintro e w' ⟨rfl, rfl⟩)
    | (go_at_call 7; (with_reducible refine (c1 k6.out _).mono ?_); rintro e w' ⟨rfl, rfl⟩)
    | (go_at_call 7; (with_reducible refine (c1 k7.out _).mono ?_); rintro e w' ⟨rfl, rfl⟩)
    | (go_at_call 7; (with_reducible refine (c1 k8.out _).mono ?_); rintro e w' ⟨rfl, rfl⟩)
    | (go_at_call 9; (with_reducible refine (pure_is kp.out _).mono ?_); rintro e w' ⟨rfl, rfl⟩)
    | (go_at_call 11; (with_reducible refine (turns_is ku.out _).mono ?_); rintro e w' ⟨rfl, rfl⟩))
  go_ret
  exact ⟨rfl, rfl⟩
theorem walk_3n (a b s q p r : Int) (k1 : Hid (Ans 3 a b s true)) (k2 : Hid (Ans 4 s b a true)) (k3 : Hid (Ans 6 a b q true)) (k4 : Hid (Ans 5 q b p true)) (k5 : Hid (Ans 4 a p r true)) (k6 : Hid (Ans 8 r b 1 true)) (k8 : Hid (Ans 3 b a s true)) (kp : Hid (pB 3 = true)) (ku : Hid (uB 3 = true)) (hb : (b != 0) = true) (hpa : decide (a < p) = false) (w : World) :
    Calls Try.prog 4 #[.int .i64 3, .int .u16 a, .int .u16 b] w fun e w' => e = .returned (.bool true) ∧ w = w' := by
  go_enter Try.func4, Try.ntmps4
  go_wp2_with (first
    | (go_at_call 6; (with_reducible refine (awake_any _).mono ?_); rintro e w' ⟨rfl, rfl⟩)
    | (go_at_call 7; (with_reducible refine (c1 k1.out _).mono ?_); rintro e w' ⟨rfl, rfl⟩)
    | (go_at_call 7; (with_reducible refine (c1 k2.out _).mono ?_); rintro e w' ⟨rfl, rfl⟩)
    | (go_at_call 7; (with_reducible refine (c1 k3.out _).mono ?_); rintro e w' ⟨rfl, rfl⟩)
    | (go_at_call 7; (with_reducible refine (c1 k4.out _).mono ?_); rintro e w' ⟨rfl, rfl⟩)
    | (go_at_call 7; (with_reducible refine (c1 k5.out _).mono ?_); rintro e w' ⟨rfl, rfl⟩)
    | (go_at_call 7; (with_reducible refine (c1 k6.out _).mono ?_); rintro e w' ⟨rfl, rfl⟩)
    | (go_at_call 7; (with_reducible refine (c1 k8.out _).mono ?_); rintro e w' ⟨rfl, rfl⟩)
    | (go_at_call 9; (with_reducible refine (pure_is kp.out _).mono ?_); rintro e w' ⟨rfl, rfl⟩)
    | (go_at_call 11; (with_reducible refine (turns_is ku.out _).mono ?_); rintro e w' ⟨rfl, rfl⟩))
  go_ret
  exact ⟨rfl, rfl⟩
theorem walk_4n (a b s q p r n m : Int) (k1 : Hid (Ans 3 a b s true)) (k2 : Hid (Ans 4 s b a true)) (k3 : Hid (Ans 6 a b q true)) (k4 : Hid (Ans 5 q b p true)) (k5 : Hid (Ans 4 a p r true)) (k6 : Hid (Ans 8 r b 1 true)) (k7 : Hid (Ans 4 a b n true)) (k8 : Hid (Ans 4 b a m true)) (kp : Hid (pB 4 = true)) (ku : Hid (uB 4 = false)) (hb : (b != 0) = true) (hpa : decide (a < p) = false) (w : World) :
    Calls Try.prog 4 #[.int .i64 4, .int .u16 a, .int .u16 b] w fun e w' => e = .returned (.bool true) ∧ w = w' := by
  go_enter Try.func4, Try.ntmps4
  go_wp2_with (first
    | (go_at_call 6; (with_reducible refine (awake_any _).mono ?_); rintro e w' ⟨rfl, rfl⟩)
    | (go_at_call 7; (with_reducible refine (c1 k1.out _).mono ?_); rintro e w' ⟨rfl, rfl⟩)
    | (go_at_call 7; (with_reducible refine (c1 k2.out _).mono ?_); rintro e w' ⟨rfl, rfl⟩)
    | (go_at_call 7; (with_reducible refine (c1 k3.out _).mono ?_); rintro e w' ⟨rfl, rfl⟩)
    | (go_at_call 7; (with_reducible refine (c1 k4.out _).mono ?_); rintro e w' ⟨rfl, rfl⟩)
    | (go_at_call 7; (with_reducible refine (c1 k5.out _).mono ?_); rintro e w' ⟨rfl, rfl⟩)
    | (go_at_call 7; (with_reducible refine (c1 k6.out _).mono ?_); rintro e w' ⟨rfl, rfl⟩)
    | (go_at_call 7; (with_reducible refine (c1 k7.out _).mono ?_); rintro e w' ⟨rfl, rfl⟩)
    | (go_at_call 7; (with_reducible refine (c1 k8.out _).mono ?_); rintro e w' ⟨rfl, rfl⟩)
    | (go_at_call 9; (with_reducible refine (pure_is kp.out _).mono ?_); rintro e w' ⟨rfl, rfl⟩)
    | (go_at_call 11; (with_reducible refine (turns_is ku.out _).mono ?_); rintro e w' ⟨rfl, rfl⟩))
  go_ret
  exact ⟨rfl, rfl⟩
theorem walk_5n (a b s q p r n : Int) (k1 : Hid (Ans 3 a b s true)) (k2 : Hid (Ans 4 s b a true)) (k3 : Hid (Ans 6 a b q true)) (k4 : Hid (Ans 5 q b p true)) (k5 : Hid (Ans 4 a p r true)) (k6 : Hid (Ans 8 r b 1 true)) (k7 : Hid (Ans 5 a b n true)) (k8 : Hid (Ans 5 b a n true)) (kp : Hid (pB 5 = true)) (ku : Hid (uB 5 = true)) (hb : (b != 0) = true) (hpa : decide (a < p) = false) (w : World) :
    Calls Try.prog 4 #[.int .i64 5, .int .u16 a, .int .u16 b] w fun e w' => e = .returned (.bool true) ∧ w = w' := by
  go_enter Try.func4, Try.ntmps4
  go_wp2_with (first
    | (go_at_call 6; (with_reducible refine (awake_any _).mono ?_); rintro e w' ⟨rfl, rfl⟩)
    | (go_at_call 7; (with_reducible refine (c1 k1.out _).mono ?_); rintro e w' ⟨rfl, rfl⟩)
    | (go_at_call 7; (with_reducible refine (c1 k2.out _).mono ?_); rintro e w' ⟨rfl, rfl⟩)
    | (go_at_call 7; (with_reducible refine (c1 k3.out _).mono ?_); rintro e w' ⟨rfl, rfl⟩)
    | (go_at_call 7; (with_reducible refine (c1 k4.out _).mono ?_); rintro e w' ⟨rfl, rfl⟩)
    | (go_at_call 7; (with_reducible refine (c1 k5.out _).mono ?_); rintro e w' ⟨rfl, rfl⟩)
    | (go_at_call 7; (with_reducible refine (c1 k6.out _).mono ?_); rintro e w' ⟨rfl, rfl⟩)
    | (go_at_call 7; (with_reducible refine (c1 k7.out _).mono ?_); rintro e w' ⟨rfl, rfl⟩)
    | (go_at_call 7; (with_reducible refine (c1 k8.out _).mono ?_); rintro e w' ⟨rfl, rfl⟩)
    | (go_at_call 9; (with_reducible refine (pure_is kp.out _).mono ?_); rintro e w' ⟨rfl, rfl⟩)
    | (go_at_call 11; (with_reducible refine (turns_is ku.out _).mono ?_); rintro e w' ⟨rfl, rfl⟩))
  go_ret
  exact ⟨rfl, rfl⟩
theorem walk_6n (a b s q p r m : Int) (v : Bool) (k1 : Hid (Ans 3 a b s true)) (k2 : Hid (Ans 4 s b a true)) (k3 : Hid (Ans 6 a b q true)) (k4 : Hid (Ans 5 q b p true)) (k5 : Hid (Ans 4 a p r true)) (k6 : Hid (Ans 8 r b 1 true)) (k8 : Hid (Ans 6 b a m v)) (kp : Hid (pB 6 = true)) (ku : Hid (uB 6 = false)) (hb : (b != 0) = true) (hpa : decide (a < p) = false) (w : World) :
    Calls Try.prog 4 #[.int .i64 6, .int .u16 a, .int .u16 b] w fun e w' => e = .returned (.bool true) ∧ w = w' := by
  go_enter Try.func4, Try.ntmps4
  go_wp2_with (first
    | (go_at_call 6; (with_reducible refine (awake_any _).mono ?_); rintro e w' ⟨rfl, rfl⟩)
    | (go_at_call 7; (with_reducible refine (c1 k1.out _).mono ?_); rintro e w' ⟨rfl, rfl⟩)
    | (go_at_call 7; (with_reducible refine (c1 k2.out _).mono ?_); rintro e w' ⟨rfl, rfl⟩)
    | (go_at_call 7; (with_reducible refine (c1 k3.out _).mono ?_); rintro e w' ⟨rfl, rfl⟩)
    | (go_at_call 7; (with_reducible refine (c1 k4.out _).mono ?_); rintro e w' ⟨rfl, rfl⟩)
    | (go_at_call 7; (with_reducible refine (c1 k5.out _).mono ?_); rintro e w' ⟨rfl, rfl⟩)
    | (go_at_call 7; (with_reducible refine (c1 k6.out _).mono ?_); rintro e w' ⟨rfl, rfl⟩)
    | (go_at_call 7; (with_reducible refine (c1 k8.out _).mono ?_); rintro e w' ⟨rfl, rfl⟩)
    | (go_at_call 9; (with_reducible refine (pure_is kp.out _).mono ?_); rintro e w' ⟨rfl, rfl⟩)
    | (go_at_call 11; (with_reducible refine (turns_is ku.out _).mono ?_); rintro e w' ⟨rfl, rfl⟩))
  go_ret
  exact ⟨rfl, rfl⟩
theorem walk_7n (a b s q p r n : Int) (k1 : Hid (Ans 3 a b s true)) (k2 : Hid (Ans 4 s b a true)) (k3 : Hid (Ans 6 a b q true)) (k4 : Hid (Ans 5 q b p true)) (k5 : Hid (Ans 4 a p r true)) (k6 : Hid (Ans 8 r b 1 true)) (k7 : Hid (Ans 7 a b n true)) (k8 : Hid (Ans 7 b a n true)) (kp : Hid (pB 7 = true)) (ku : Hid (uB 7 = true)) (hb : (b != 0) = true) (hpa : decide (a < p) = false) (w : World) :
    Calls Try.prog 4 #[.int .i64 7, .int .u16 a, .int .u16 b] w fun e w' => e = .returned (.bool true) ∧ w = w' := by
  go_enter Try.func4, Try.ntmps4
  go_wp2_with (first
    | (go_at_call 6; (with_reducible refine (awake_any _).mono ?_); rintro e w' ⟨rfl, rfl⟩)
    | (go_at_call 7; (with_reducible refine (c1 k1.out _).mono ?_); rintro e w' ⟨rfl, rfl⟩)
    | (go_at_call 7; (with_reducible refine (c1 k2.out _).mono ?_); rintro e w' ⟨rfl, rfl⟩)
    | (go_at_call 7; (with_reducible refine (c1 k3.out _).mono ?_); rintro e w' ⟨rfl, rfl⟩)
    | (go_at_call 7; (with_reducible refine (c1 k4.out _).mono ?_); rintro e w' ⟨rfl, rfl⟩)
    | (go_at_call 7; (with_reducible refine (c1 k5.out _).mono ?_); rintro e w' ⟨rfl, rfl⟩)
    | (go_at_call 7; (with_reducible refine (c1 k6.out _).mono ?_); rintro e w' ⟨rfl, rfl⟩)
    | (go_at_call 7; (with_reducible refine (c1 k7.out _).mono ?_); rintro e w' ⟨rfl, rfl⟩)
    | (go_at_call 7; (with_reducible refine (c1 k8.out _).mono ?_); rintro e w' ⟨rfl, rfl⟩)
    | (go_at_call 9; (with_reducible refine (pure_is kp.out _).mono ?_); rintro e w' ⟨rfl, rfl⟩)
    | (go_at_call 11; (with_reducible refine (turns_is ku.out _).mono ?_); rintro e w' ⟨rfl, rfl⟩))
  go_ret
  exact ⟨rfl, rfl⟩
theorem walk_8n (a b s q p r n m : Int) (k1 : Hid (Ans 3 a b s true)) (k2 : Hid (Ans 4 s b a true)) (k3 : Hid (Ans 6 a b q true)) (k4 : Hid (Ans 5 q b p true)) (k5 : Hid (Ans 4 a p r true)) (k6 : Hid (Ans 8 r b 1 true)) (k7 : Hid (Ans 8 a b n true)) (k8 : Hid (Ans 8 b a m true)) (kp : Hid (pB 8 = true)) (ku : Hid (uB 8 = false)) (hb : (b != 0) = true) (hpa : decide (a < p) = false) (w : World) :
    Calls Try.prog 4 #[.int .i64 8, .int .u16 a, .int .u16 b] w fun e w' => e = .returned (.bool true) ∧ w = w' := by
  go_enter Try.func4, Try.ntmps4
  go_wp2_with (first
    | (go_at_call 6; (with_reducible refine (awake_any _).mono ?_); rintro e w' ⟨rfl, rfl⟩)
    | (go_at_call 7; (with_reducible refine (c1 k1.out _).mono ?_); rintro e w' ⟨rfl, rfl⟩)
    | (go_at_call 7; (with_reducible refine (c1 k2.out _).mono ?_); rintro e w' ⟨rfl, rfl⟩)
    | (go_at_call 7; (with_reducible refine (c1 k3.out _).mono ?_); rintro e w' ⟨rfl, rfl⟩)
    | (go_at_call 7; (with_reducible refine (c1 k4.out _).mono ?_); rintro e w' ⟨rfl, rfl⟩)
    | (go_at_call 7; (with_reducible refine (c1 k5.out _).mono ?_); rintro e w' ⟨rfl, rfl⟩)
    | (go_at_call 7; (with_reducible refine (c1 k6.out _).mono ?_); rintro e w' ⟨rfl, rfl⟩)
    | (go_at_call 7; (with_reducible refine (c1 k7.out _).mono ?_); rintro e w' ⟨rfl, rfl⟩)
    | (go_at_call 7; (with_reducible refine (c1 k8.out _).mono ?_); rintro e w' ⟨rfl, rfl⟩)
    | (go_at_call 9; (with_reducible refine (pure_is kp.out _).mono ?_); rintro e w' ⟨rfl, rfl⟩)
    | (go_at_call 11; (with_reducible refine (turns_is ku.out _).mono ?_); rintro e w' ⟨rfl, rfl⟩))
  go_ret
  exact ⟨rfl, rfl⟩
theorem walk_on (a b op s q p r : Int) (k1 : Hid (Ans 3 a b s true)) (k2 : Hid (Ans 4 s b a true)) (k3 : Hid (Ans 6 a b q true)) (k4 : Hid (Ans 5 q b p true)) (k5 : Hid (Ans 4 a p r true)) (k6 : Hid (Ans 8 r b 1 true)) (k7 : Hid (Ans op a b 0 false)) (k8 : Hid (Ans op b a 0 false)) (kp : Hid (pB op = false)) (ku : Hid (uB op = false)) (hb : (b != 0) = true) (hpa : decide (a < p) = false) (w : World) :
    Calls Try.prog 4 #[.int .i64 op, .int .u16 a, .int .u16 b] w fun e w' => e = .returned (.bool true) ∧ w = w' := by
  go_enter Try.func4, Try.ntmps4
  go_wp2_with (first
    | (go_at_call 6; (with_reducible refine (awake_any _).mono ?_); rintro e w' ⟨rfl, rfl⟩)
    | (go_at_call 7; (with_reducible refine (c1 k1.out _).mono ?_); rintro e w' ⟨rfl, rfl⟩)
    | (go_at_call 7; (with_reducible refine (c1 k2.out _).mono ?_); rintro e w' ⟨rfl, rfl⟩)
    | (go_at_call 7; (with_reducible refine (c1 k3.out _).mono ?_); rintro e w' ⟨rfl, rfl⟩)
    | (go_at_call 7; (with_reducible refine (c1 k4.out _).mono ?_); rintro e w' ⟨rfl, rfl⟩)
    | (go_at_call 7; (with_reducible refine (c1 k5.out _).mono ?_); rintro e w' ⟨rfl, rfl⟩)
    | (go_at_call 7; (with_reducible refine (c1 k6.out _).mono ?_); rintro e w' ⟨rfl, rfl⟩)
    | (go_at_call 7; (with_reducible refine (c1 k7.out _).mono ?_); rintro e w' ⟨rfl, rfl⟩)
    | (go_at_call 7; (with_reducible refine (c1 k8.out _).mono ?_); rintro e w' ⟨rfl, rfl⟩)
    | (go_at_call 9; (with_reducible refine (pure_is kp.out _).mono ?_); rintro e w' ⟨rfl, rfl⟩)
    | (go_at_call 11; (with_reducible refine (turns_is ku.out _).mono ?_); rintro e w' ⟨rfl, rfl⟩))
  go_ret
  exact ⟨rfl, rfl⟩

theorem sub_back {a b : Int} (ha : Word a) (hb : Word b) : dN 4 (dN 3 a b) b = a := by
  show ((a + b) % 65536 - b) % 65536 = a
  unfold Word at ha hb
  omega
theorem quo_facts {a b : Int} (ha : Word a) (hb : Word b) (h : b ≠ 0) : dN 5 (a / b) b = a / b * b ∧ a / b * b ≤ a ∧ a - a / b * b < b ∧ 0 ≤ a - a / b * b ∧ Word (a / b * b) ∧ dN 4 a (a / b * b) = a - a / b * b := by
  unfold Word at ha hb
  have e : a / b * b + a % b = a := Int.ediv_mul_add_emod a b
  have m0 : 0 ≤ a % b := Int.emod_nonneg a h
  have m1 : a % b < b := Int.emod_lt_of_pos a (by omega)
  have q0 : 0 ≤ a / b * b := Int.mul_nonneg (Int.ediv_nonneg ha.1 hb.1) hb.1
  refine ⟨?_, by omega, by omega, by omega, ⟨q0, by omega⟩, ?_⟩
  · show (a / b * b) % 65536 = a / b * b
    omega
  · show (a - a / b * b) % 65536 = a - a / b * b
    omega
theorem wz : Word 0 := ⟨by decide, by decide⟩
theorem turn_5 (a b : Int) : dN 5 b a = dN 5 a b := by
  show (b * a) % 65536 = (a * b) % 65536
  rw [Int.mul_comm]
theorem turn_3 (a b : Int) : dN 3 b a = dN 3 a b := by
  show (b + a) % 65536 = (a + b) % 65536
  rw [Int.add_comm]
theorem turn_7 (a b : Int) : dN 7 b a = dN 7 a b := by
  show (if b = a then (1 : Int) else 0) = if a = b then 1 else 0
  by_cases h : a = b
  · rw [if_pos h, if_pos h.symm]
  · rw [if_neg h, if_neg (fun g => h g.symm)]
theorem p_no {op : Int} (h : op < 2 ∨ 8 < op) : pB op = false := decide_eq_false (by omega)
theorem u_no {op : Int} (h : op < 2 ∨ 8 < op) : uB op = false := decide_eq_false (by omega)
theorem walkz (op a : Int) (ha : Word a) (w : World) :
    Calls Try.prog 4 #[.int .i64 op, .int .u16 a, .int .u16 0] w fun e w' => e = .returned (.bool true) ∧ w = w' := by
  have hs := dN_word 3 ha wz
  have k1 := ans (op := 3) (dN 3 a 0) true ha wz rfl rfl
  have k2 := ans (op := 4) a true hs wz (sub_back ha wz) rfl
  have k3 := ans (op := 6) 0 false ha wz rfl rfl
  rcases opCases op with rfl | rfl | rfl | rfl | rfl | rfl | rfl | h
  · exact walk_2z a _ _ _ k1 k2 k3 (ans _ true ha wz rfl rfl) (ans _ true wz ha rfl rfl) (Lib.hid rfl) (Lib.hid rfl) w
  · exact walk_3z a _ k1 k2 k3 (ans _ true wz ha (turn_3 a 0) rfl) (Lib.hid rfl) (Lib.hid rfl) w
  · exact walk_4z a _ _ _ k1 k2 k3 (ans _ true ha wz rfl rfl) (ans _ true wz ha rfl rfl) (Lib.hid rfl) (Lib.hid rfl) w
  · exact walk_5z a _ _ k1 k2 k3 (ans _ true ha wz rfl rfl) (ans _ true wz ha (turn_5 a 0) rfl) (Lib.hid rfl) (Lib.hid rfl) w
  · exact walk_6z a _ _ _ k1 k2 k3 (ans _ _ wz ha rfl rfl) (Lib.hid rfl) (Lib.hid rfl) w
  · exact walk_7z a _ _ k1 k2 k3 (ans _ true ha wz rfl rfl) (ans _ true wz ha (turn_7 a 0) rfl) (Lib.hid rfl) (Lib.hid rfl) w
  · exact walk_8z a _ _ _ k1 k2 k3 (ans _ true ha wz rfl rfl) (ans _ true wz ha rfl rfl) (Lib.hid rfl) (Lib.hid rfl) w
  · exact walk_oz a op _ k1 k2 k3 (ans 0 false ha wz (dN_no _ _ h) (dB_no _ h)) (ans 0 false wz ha (dN_no _ _ h) (dB_no _ h)) (Lib.hid (p_no h)) (Lib.hid (u_no h)) w
theorem walkn (op a b : Int) (ha : Word a) (hb : Word b) (h0 : b ≠ 0) (w : World) :
    Calls Try.prog 4 #[.int .i64 op, .int .u16 a, .int .u16 b] w fun e w' => e = .returned (.bool true) ∧ w = w' := by
  have hs := dN_word 3 ha hb
  obtain ⟨f1, f2, f3, f4, f5, f6⟩ := quo_facts ha hb h0
  have k1 := ans (op := 3) (dN 3 a b) true ha hb rfl rfl
  have k2 := ans (op := 4) a true hs hb (sub_back ha hb) rfl
  have k3 := ans (op := 6) (a / b) true ha hb (if_neg h0) (decide_eq_true ⟨by decide, by decide, fun _ => h0⟩)
  have k4 := ans (op := 5) (a / b * b) true (show Word (a / b) from div_word ha hb) hb f1 rfl
  have k5 := ans (op := 4) (a - a / b * b) true ha f5 f6 rfl
  have k6 := ans (op := 8) 1 true (show Word (a - a / b * b) from ⟨f4, by unfold Word at hb; omega⟩) hb (if_pos f3) rfl
  have hz : (b != 0) = true := by simpa using h0
  have hp : decide (a < a / b * b) = false := decide_eq_false (by omega)
  rcases opCases op with rfl | rfl | rfl | rfl | rfl | rfl | rfl | h
  · exact walk_2n a b _ _ _ _ _ _ k1 k2 k3 k4 k5 k6 (ans _ true ha hb rfl rfl) (ans _ true hb ha rfl rfl) (Lib.hid rfl) (Lib.hid rfl) hz hp w
  · exact walk_3n a b _ _ _ _ k1 k2 k3 k4 k5 k6 (ans _ true hb ha (turn_3 a b) rfl) (Lib.hid rfl) (Lib.hid rfl) hz hp w
  · exact walk_4n a b _ _ _ _ _ _ k1 k2 k3 k4 k5 k6 (ans _ true ha hb rfl rfl) (ans _ true hb ha rfl rfl) (Lib.hid rfl) (Lib.hid rfl) hz hp w
  · exact walk_5n a b _ _ _ _ _ k1 k2 k3 k4 k5 k6 (ans _ true ha hb rfl rfl) (ans _ true hb ha (turn_5 a b) rfl) (Lib.hid rfl) (Lib.hid rfl) hz hp w
  · exact walk_6n a b _ _ _ _ _ _ k1 k2 k3 k4 k5 k6 (ans _ _ hb ha rfl rfl) (Lib.hid rfl) (Lib.hid rfl) hz hp w
  · exact walk_7n a b _ _ _ _ _ k1 k2 k3 k4 k5 k6 (ans _ true ha hb rfl rfl) (ans _ true hb ha (turn_7 a b) rfl) (Lib.hid rfl) (Lib.hid rfl) hz hp w
  · exact walk_8n a b _ _ _ _ _ _ k1 k2 k3 k4 k5 k6 (ans _ true ha hb rfl rfl) (ans _ true hb ha rfl rfl) (Lib.hid rfl) (Lib.hid rfl) hz hp w
  · exact walk_on a b op _ _ _ _ k1 k2 k3 k4 k5 k6 (ans 0 false ha hb (dN_no _ _ h) (dB_no _ h)) (ans 0 false hb ha (dN_no _ _ h) (dB_no _ h)) (Lib.hid (p_no h)) (Lib.hid (u_no h)) hz hp w
theorem walk (a0 : Int) (a1 : Int) (a2 : Int) (w0 : (Lit.int .i64 a0).wf = true) (w1 : (Lit.int .u16 a1).wf = true) (w2 : (Lit.int .u16 a2).wf = true) (w : World) :
    Calls Try.prog 4 #[.int .i64 a0, .int .u16 a1, .int .u16 a2] w fun e w' => e = .returned (.bool true) ∧ Grown w w' := by
  by_cases h : a2 = 0
  · subst h
    exact (walkz a0 a1 (word_of w1) w).mono fun _ _ ⟨he, hw⟩ => ⟨he, hw ▸ Grown.refl _⟩
  · exact (walkn a0 a1 a2 (word_of w1) (word_of w2) h w).mono fun _ _ ⟨he, hw⟩ => ⟨he, hw ▸ Grown.refl _⟩

/-! ### THE ROW's STEP: WRITTEN OUT: LEAVE IT -/
set_option maxRecDepth 100000 in
theorem lifted (os : Os) (started : os.Started) (H : Type) (enc : TypeId × Value → H) :
    ReturnsInHanded {} Try.checked os 4 .any (Rows.wordRoundSpec.pre6 enc Try.prog Try.f4 Rows.wordRoundRow.domain false) (Rows.wordRoundSpec.post enc Try.prog Try.f4 false true false false) := by
  refine returnsInHanded_of_change (C := Try.checked) own started (by kernel_rfl) Try.func4
    (ChangeSpec.witness6 (enc := enc) (C := Try.checked) false ⟨#[], #[.int .i64 0, .int .u16 0, .int .u16 0], []⟩ 8 (by kernel_rfl) (by kernel_rfl) (by kernel_rfl) (by kernel_rfl)) ?_
  intro W base args ds gs before hval0 hW hcnd _
  have hval : ∀ (j : Nat) t v, Try.f4.params[j]? = some t → args[j]? = some v → Value.okWide Try.prog W .any base t v := hval0
  have hW' := hW
  obtain ⟨p, q, hA0, hV, rfl, hfz, hnd⟩ := hW
  have hA : DataW.TrodAll enc Try.prog W 0 (fun _ => true) true Try.f4.params.toList args.toList ds p := hA0
  rw [Try.params4] at hA hval
  obtain ⟨v0, vs0, d0, ds0, p0, q0, hargs, rfl, rfl, h0, r0⟩ := trodAll_cons hA
  obtain ⟨v1, vs1, d1, ds1, p1, q1, rfl, rfl, rfl, h1, r1⟩ := trodAll_cons r0
  obtain ⟨v2, vs2, d2, ds2, p2, q2, rfl, rfl, rfl, h2, r2⟩ := trodAll_cons r1
  obtain ⟨rfl, rfl, rfl⟩ := trodAll_nil r2
  obtain rfl : args = #[v0, v1, v2] := by cases args; simp_all
  obtain ⟨rfl, rfl⟩ := trodVars_none hV
  obtain ⟨a0, rfl, rfl, rfl, w0⟩ := open_int Try.underlying3 (hval 0 3 v0 rfl rfl) h0
  obtain ⟨a1, rfl, rfl, rfl, w1⟩ := open_int Try.underlying22 (hval 1 22 v1 rfl rfl) h1
  obtain ⟨a2, rfl, rfl, rfl, w2⟩ := open_int Try.underlying22 (hval 2 22 v2 rfl rfl) h2
  clear hA0 hval0
  simp only [List.append_nil] at hW'
  refine (walk a0 a1 a2 w0 w1 w2 W).mono fun e W' ⟨he, hg⟩ => ?_
  subst he
  exact ⟨_, rfl, post_of_same (pa := []) (pv := []) hW' (fun _ _ _ => (trodAll_cons_mk (shut_bool Try.underlying4 _) trodAll_mk0)) (fun sp _ => (trodAll_cons_mk (shut_int Try.underlying3 w0) (trodAll_cons_mk (shut_int Try.underlying22 w1) (trodAll_cons_mk (shut_int Try.underlying22 w2) trodAll_mk0)))) (fun _ _ => rfl) rfl
    (hg.frame _) hg.2.1 (ok_one (by kernel_rfl) rfl (okWide_bool_mk Try.underlying4 _))⟩

theorem over : Rows.wordRoundRow.holds Try.pinned (OpenSpec.ofChange Rows.wordRoundSpec) :=
  OpenClaim.holds_of_wide 4 Try.f4 rfl rfl rfl rfl rfl rfl rfl ⟨rfl, rfl, rfl, rfl, rfl⟩ rfl rfl rfl rfl rfl (by kernel_rfl) Try.func4 (by kernel_rfl)
    (of_decide_eq_true (by kernel_rfl)) (by unfold Func.isWrapper; first | (rw [if_pos (by decide +kernel)]; kernel_rfl) | (rw [if_neg (by decide +kernel)]; exact ⟨rfl, rfl⟩))
    (fun os started H enc _ => lifted os started H enc)

end Go.Proofs.Ytpcaeocopbfacaa.wordRound
namespace Go.Proofs.Ytpcaeocopbfacaa
/-- The statement. -/
theorem wordRound_holds : Rows.WordRoundSaid := wordRound.over
#print axioms wordRound_holds
end Go.Proofs.Ytpcaeocopbfacaa

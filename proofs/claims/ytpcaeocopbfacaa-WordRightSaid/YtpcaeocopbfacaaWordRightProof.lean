/-
  For every operation's number and any two words the law WordRight of layer 1 answers true (the program's answer is the document's), and its arguments stay as they were.
  Conditions: none beyond the given row's own.
-/
import Derived.Test.YtpcaeocopbfacaaRef
import Derived.WalkKit
import Derived.ProofKit
import Derived.OpenShut
namespace Go.Proofs.Ytpcaeocopbfacaa.wordRight
open Go.ChangeShapes Go.WideShapes Go.ChangeAt Go.RowKit
set_option linter.unusedVariables false      -- a walk need not use every 'w<i>' (that an integer argument fits its kind)

theorem own : ownKnob Try.prog.godebug = none := by kernel_rfl

/-! ### STEP 1: THE WALK, an operation each -/
theorem pure_is {op : Int} {v : Bool} (h : pB op = v) (w : World) : Calls Try.prog 9 #[.int .i64 op] w fun e w' => e = .returned (.bool v) ∧ w = w' := h ▸ pure_any op w
theorem two_is {op : Int} {v : Bool} (h : tB op = v) (w : World) : Calls Try.prog 10 #[.int .i64 op] w fun e w' => e = .returned (.bool v) ∧ w = w' := h ▸ two_any op w
theorem turns_is {op : Int} {v : Bool} (h : uB op = v) (w : World) : Calls Try.prog 11 #[.int .i64 op] w fun e w' => e = .returned (.bool v) ∧ w = w' := h ▸ turns_any op w
theorem walk_2 (a b : Int) (ha : Word a) (hb : Word b) (w : World) :
    Calls Try.prog 3 #[.int .i64 2, .int .u16 a, .int .u16 b] w fun e w' => e = .returned (.bool true) ∧ w = w' := by
  have hp := Lib.hid (show pB 2 = true from rfl)
  have ht := Lib.hid (show tB 2 = false from rfl)
  have hu := Lib.hid (show uB 2 = false from rfl)
  go_enter Try.func3, Try.ntmps3
  go_wp2_with (first
    | (go_at_call 6; (with_reducible refine (awake_any _).mono ?_); rintro e w' ⟨rfl, rfl⟩)
    | (go_at_call 7; (with_reducible refine (do_any _ _ _ ha hb _).mono ?_); rintro e w' ⟨rfl, rfl⟩)
    | (go_at_call 8; (with_reducible refine (ref_any _ _ _ ha hb _).mono ?_); rintro e w' ⟨rfl, rfl⟩)
    | (go_at_call 9; (with_reducible refine (pure_is hp.out _).mono ?_); rintro e w' ⟨rfl, rfl⟩)
    | (go_at_call 10; (with_reducible refine (two_is ht.out _).mono ?_); rintro e w' ⟨rfl, rfl⟩)
    | (go_at_call 11; (with_reducible refine (turns_is hu.out _).mono ?_); rintro e w' ⟨rfl, rfl⟩))
  go_ret
  exact ⟨rfl, rfl⟩
theorem walk_3 (a b : Int) (ha : Word a) (hb : Word b) (w : World) :
    Calls Try.prog 3 #[.int .i64 3, .int .u16 a, .int .u16 b] w fun e w' => e = .returned (.bool true) ∧ w = w' := by
  have hp := Lib.hid (show pB 3 = true from rfl)
  have ht := Lib.hid (show tB 3 = true from rfl)
  have hu := Lib.hid (show uB 3 = true from rfl)
  go_enter Try.func3, Try.ntmps3
  go_wp2_with (first
    | (go_at_call 6; (with_reducible refine (awake_any _).mono ?_); rintro e w' ⟨rfl, rfl⟩)
    | (go_at_call 7; (with_reducible refine (do_any _ _ _ ha hb _).mono ?_); rintro e w' ⟨rfl, rfl⟩)
    | (go_at_call 8; (with_reducible refine (ref_any _ _ _ ha hb _).mono ?_); rintro e w' ⟨rfl, rfl⟩)
    | (go_at_call 9; (with_reducible refine (pure_is hp.out _).mono ?_); rintro e w' ⟨rfl, rfl⟩)
    | (go_at_call 10; (with_reducible refine (two_is ht.out _).mono ?_); rintro e w' ⟨rfl, rfl⟩)
    | (go_at_call 11; (with_reducible refine (turns_is hu.out _).mono ?_); rintro e w' ⟨rfl, rfl⟩))
  go_ret
  exact ⟨rfl, rfl⟩
theorem walk_4 (a b : Int) (ha : Word a) (hb : Word b) (w : World) :
    Calls Try.prog 3 #[.int .i64 4, .int .u16 a, .int .u16 b] w fun e w' => e = .returned (.bool true) ∧ w = w' := by
  have hp := Lib.hid (show pB 4 = true from rfl)
  have ht := Lib.hid (show tB 4 = true from rfl)
  have hu := Lib.hid (show uB 4 = false from rfl)
  go_enter Try.func3, Try.ntmps3
  go_wp2_with (first
    | (go_at_call 6; (with_reducible refine (awake_any _).mono ?_); rintro e w' ⟨rfl, rfl⟩)
    | (go_at_call 7; (with_reducible refine (do_any _ _ _ ha hb _).mono ?_); rintro e w' ⟨rfl, rfl⟩)
    | (go_at_call 8; (with_reducible refine (ref_any _ _ _ ha hb _).mono ?_); rintro e w' ⟨rfl, rfl⟩)
    | (go_at_call 9; (with_reducible refine (pure_is hp.out _).mono ?_); rintro e w' ⟨rfl, rfl⟩)
    | (go_at_call 10; (with_reducible refine (two_is ht.out _).mono ?_); rintro e w' ⟨rfl, rfl⟩)
    | (go_at_call 11; (with_reducible refine (turns_is hu.out _).mono ?_); rintro e w' ⟨rfl, rfl⟩))
  go_ret
  exact ⟨rfl, rfl⟩
theorem walk_5 (a b : Int) (ha : Word a) (hb : Word b) (w : World) :
    Calls Try.prog 3 #[.int .i64 5, .int .u16 a, .int .u16 b] w fun e w' => e = .returned (.bool true) ∧ w = w' := by
  have hp := Lib.hid (show pB 5 = true from rfl)
  have ht := Lib.hid (show tB 5 = true from rfl)
  have hu := Lib.hid (show uB 5 = true from rfl)
  go_enter Try.func3, Try.ntmps3
  go_wp2_with (first
    | (go_at_call 6; (with_reducible refine (awake_any _).mono ?_); rintro e w' ⟨rfl, rfl⟩)
    | (go_at_call 7; (with_reducible refine (do_any _ _ _ ha hb _).mono ?_); rintro e w' ⟨rfl, rfl⟩)
    | (go_at_call 8; (with_reducible refine (ref_any _ _ _ ha hb _).mono ?_); rintro e w' ⟨rfl, rfl⟩)
    | (go_at_call 9; (with_reducible refine (pure_is hp.out _).mono ?_); rintro e w' ⟨rfl, rfl⟩)
    | (go_at_call 10; (with_reducible refine (two_is ht.out _).mono ?_); rintro e w' ⟨rfl, rfl⟩)
    | (go_at_call 11; (with_reducible refine (turns_is hu.out _).mono ?_); rintro e w' ⟨rfl, rfl⟩))
  go_ret
  exact ⟨rfl, rfl⟩
theorem walk_6 (a b : Int) (ha : Word a) (hb : Word b) (w : World) :
    Calls Try.prog 3 #[.int .i64 6, .int .u16 a, .int .u16 b] w fun e w' => e = .returned (.bool true) ∧ w = w' := by
  have hp := Lib.hid (show pB 6 = true from rfl)
  have ht := Lib.hid (show tB 6 = true from rfl)
  have hu := Lib.hid (show uB 6 = false from rfl)
  go_enter Try.func3, Try.ntmps3
  go_wp2_with (first
    | (go_at_call 6; (with_reducible refine (awake_any _).mono ?_); rintro e w' ⟨rfl, rfl⟩)
    | (go_at_call 7; (with_reducible refine (do_any _ _ _ ha hb _).mono ?_); rintro e w' ⟨rfl, rfl⟩)
    | (go_at_call 8; (with_reducible refine (ref_any _ _ _ ha hb _).mono ?_); rintro e w' ⟨rfl, rfl⟩)
    | (go_at_call 9; (with_reducible refine (pure_is hp.out _).mono ?_); rintro e w' ⟨rfl, rfl⟩)
    | (go_at_call 10; (with_reducible refine (two_is ht.out _).mono ?_); rintro e w' ⟨rfl, rfl⟩)
    | (go_at_call 11; (with_reducible refine (turns_is hu.out _).mono ?_); rintro e w' ⟨rfl, rfl⟩))
  go_ret
  exact ⟨rfl, rfl⟩
theorem walk_7 (a b : Int) (ha : Word a) (hb : Word b) (w : World) :
    Calls Try.prog 3 #[.int .i64 7, .int .u16 a, .int .u16 b] w fun e w' => e = .returned (.bool true) ∧ w = w' := by
  have hp := Lib.hid (show pB 7 = true from rfl)
  have ht := Lib.hid (show tB 7 = true from rfl)
  have hu := Lib.hid (show uB 7 = true from rfl)
  go_enter Try.func3, Try.ntmps3
  go_wp2_with (first
    | (go_at_call 6; (with_reducible refine (awake_any _).mono ?_); rintro e w' ⟨rfl, rfl⟩)
    | (go_at_call 7; (with_reducible refine (do_any _ _ _ ha hb _).mono ?_); rintro e w' ⟨rfl, rfl⟩)
    | (go_at_call 8; (with_reducible refine (ref_any _ _ _ ha hb _).mono ?_); rintro e w' ⟨rfl, rfl⟩)
    | (go_at_call 9; (with_reducible refine (pure_is hp.out _).mono ?_); rintro e w' ⟨rfl, rfl⟩)
    | (go_at_call 10; (with_reducible refine (two_is ht.out _).mono ?_); rintro e w' ⟨rfl, rfl⟩)
    | (go_at_call 11; (with_reducible refine (turns_is hu.out _).mono ?_); rintro e w' ⟨rfl, rfl⟩))
  go_ret
  exact ⟨rfl, rfl⟩
theorem walk_8 (a b : Int) (ha : Word a) (hb : Word b) (w : World) :
    Calls Try.prog 3 #[.int .i64 8, .int .u16 a, .int .u16 b] w fun e w' => e = .returned (.bool true) ∧ w = w' := by
  have hp := Lib.hid (show pB 8 = true from rfl)
  have ht := Lib.hid (show tB 8 = true from rfl)
  have hu := Lib.hid (show uB 8 = false from rfl)
  go_enter Try.func3, Try.ntmps3
  go_wp2_with (first
    | (go_at_call 6; (with_reducible refine (awake_any _).mono ?_); rintro e w' ⟨rfl, rfl⟩)
    | (go_at_call 7; (with_reducible refine (do_any _ _ _ ha hb _).mono ?_); rintro e w' ⟨rfl, rfl⟩)
    | (go_at_call 8; (with_reducible refine (ref_any _ _ _ ha hb _).mono ?_); rintro e w' ⟨rfl, rfl⟩)
    | (go_at_call 9; (with_reducible refine (pure_is hp.out _).mono ?_); rintro e w' ⟨rfl, rfl⟩)
    | (go_at_call 10; (with_reducible refine (two_is ht.out _).mono ?_); rintro e w' ⟨rfl, rfl⟩)
    | (go_at_call 11; (with_reducible refine (turns_is hu.out _).mono ?_); rintro e w' ⟨rfl, rfl⟩))
  go_ret
  exact ⟨rfl, rfl⟩
theorem walk_lo (op a b : Int) (ha : Word a) (hb : Word b) (h : op < 2) (w : World) :
    Calls Try.prog 3 #[.int .i64 op, .int .u16 a, .int .u16 b] w fun e w' => e = .returned (.bool true) ∧ w = w' := by
  have hp := Lib.hid (show pB op = false from decide_eq_false (by omega))
  have ht := Lib.hid (show tB op = false from decide_eq_false (by omega))
  have hu := Lib.hid (show uB op = false from decide_eq_false (by omega))
  obtain ⟨h2, h3, h4, h5, h6, h7, h8⟩ := opNot (op := op) (by omega)
  clear h2 h4 h6 h8
  have g2 : decide (2 ≤ op) = false := by simpa using h
  have g3 : decide (3 ≤ op) = false := by simp; omega
  go_enter Try.func3, Try.ntmps3
  go_wp2_with (first
    | (go_at_call 6; (with_reducible refine (awake_any _).mono ?_); rintro e w' ⟨rfl, rfl⟩)
    | (go_at_call 7; (with_reducible refine (do_any _ _ _ ha hb _).mono ?_); rintro e w' ⟨rfl, rfl⟩)
    | (go_at_call 8; (with_reducible refine (ref_any _ _ _ ha hb _).mono ?_); rintro e w' ⟨rfl, rfl⟩)
    | (go_at_call 9; (with_reducible refine (pure_is hp.out _).mono ?_); rintro e w' ⟨rfl, rfl⟩)
    | (go_at_call 10; (with_reducible refine (two_is ht.out _).mono ?_); rintro e w' ⟨rfl, rfl⟩)
    | (go_at_call 11; (with_reducible refine (turns_is hu.out _).mono ?_); rintro e w' ⟨rfl, rfl⟩))
  go_ret
  exact ⟨rfl, rfl⟩
theorem walk_hi (op a b : Int) (ha : Word a) (hb : Word b) (h : 8 < op) (w : World) :
    Calls Try.prog 3 #[.int .i64 op, .int .u16 a, .int .u16 b] w fun e w' => e = .returned (.bool true) ∧ w = w' := by
  have hp := Lib.hid (show pB op = false from decide_eq_false (by omega))
  have ht := Lib.hid (show tB op = false from decide_eq_false (by omega))
  have hu := Lib.hid (show uB op = false from decide_eq_false (by omega))
  obtain ⟨h2, h3, h4, h5, h6, h7, h8⟩ := opNot (op := op) (by omega)
  clear h2 h4 h6 h8
  have g2 : decide (2 ≤ op) = true := by simp; omega
  have g3 : decide (3 ≤ op) = true := by simp; omega
  have g8 : decide (op ≤ 8) = false := by simpa using h
  go_enter Try.func3, Try.ntmps3
  go_wp2_with (first
    | (go_at_call 6; (with_reducible refine (awake_any _).mono ?_); rintro e w' ⟨rfl, rfl⟩)
    | (go_at_call 7; (with_reducible refine (do_any _ _ _ ha hb _).mono ?_); rintro e w' ⟨rfl, rfl⟩)
    | (go_at_call 8; (with_reducible refine (ref_any _ _ _ ha hb _).mono ?_); rintro e w' ⟨rfl, rfl⟩)
    | (go_at_call 9; (with_reducible refine (pure_is hp.out _).mono ?_); rintro e w' ⟨rfl, rfl⟩)
    | (go_at_call 10; (with_reducible refine (two_is ht.out _).mono ?_); rintro e w' ⟨rfl, rfl⟩)
    | (go_at_call 11; (with_reducible refine (turns_is hu.out _).mono ?_); rintro e w' ⟨rfl, rfl⟩))
  go_ret
  exact ⟨rfl, rfl⟩
theorem walk0 (op a b : Int) (ha : Word a) (hb : Word b) (w : World) :
    Calls Try.prog 3 #[.int .i64 op, .int .u16 a, .int .u16 b] w fun e w' => e = .returned (.bool true) ∧ w = w' := by
  rcases opCases op with rfl | rfl | rfl | rfl | rfl | rfl | rfl | h | h
  · exact walk_2 a b ha hb w
  · exact walk_3 a b ha hb w
  · exact walk_4 a b ha hb w
  · exact walk_5 a b ha hb w
  · exact walk_6 a b ha hb w
  · exact walk_7 a b ha hb w
  · exact walk_8 a b ha hb w
  · exact walk_lo op a b ha hb h w
  · exact walk_hi op a b ha hb h w
theorem walk (a0 : Int) (a1 : Int) (a2 : Int) (w0 : (Lit.int .i64 a0).wf = true) (w1 : (Lit.int .u16 a1).wf = true) (w2 : (Lit.int .u16 a2).wf = true) (w : World) :
    Calls Try.prog 3 #[.int .i64 a0, .int .u16 a1, .int .u16 a2] w fun e w' => e = .returned (.bool true) ∧ Grown w w' :=
  (walk0 a0 a1 a2 (word_of w1) (word_of w2) w).mono fun _ _ ⟨he, hw⟩ => ⟨he, hw ▸ Grown.refl _⟩

/-! ### THE ROW's STEP: WRITTEN OUT: LEAVE IT -/
set_option maxRecDepth 100000 in
theorem lifted (os : Os) (started : os.Started) (H : Type) (enc : TypeId × Value → H) :
    ReturnsInHanded {} Try.checked os 3 .any (Rows.wordRightSpec.pre6 enc Try.prog Try.f3 Rows.wordRightRow.domain false) (Rows.wordRightSpec.post enc Try.prog Try.f3 false true false false) := by
  refine returnsInHanded_of_change (C := Try.checked) own started (by kernel_rfl) Try.func3
    (ChangeSpec.witness6 (enc := enc) (C := Try.checked) false ⟨#[], #[.int .i64 0, .int .u16 0, .int .u16 0], []⟩ 8 (by kernel_rfl) (by kernel_rfl) (by kernel_rfl) (by kernel_rfl)) ?_
  intro W base args ds gs before hval0 hW hcnd _
  have hval : ∀ (j : Nat) t v, Try.f3.params[j]? = some t → args[j]? = some v → Value.okWide Try.prog W .any base t v := hval0
  have hW' := hW
  obtain ⟨p, q, hA0, hV, rfl, hfz, hnd⟩ := hW
  have hA : DataW.TrodAll enc Try.prog W 0 (fun _ => true) true Try.f3.params.toList args.toList ds p := hA0
  rw [Try.params3] at hA hval
  obtain ⟨v0, vs0, d0, ds0, p0, q0, hargs, rfl, rfl, h0, r0⟩ := trodAll_cons hA
  obtain ⟨v1, vs1, d1, ds1, p1, q1, rfl, rfl, rfl, h1, r1⟩ := trodAll_cons r0
  obtain ⟨v2, vs2, d2, ds2, p2, q2, rfl, rfl, rfl, h2, r2⟩ := trodAll_cons r1
  obtain ⟨rfl, rfl, rfl⟩ := trodAll_nil r2
  obtain rfl : args = #[v0, v1, v2] := by cases args; simp_all
  obtain ⟨rfl, rfl⟩ := trodVars_none hV
  obtain ⟨a0, rfl, rfl, rfl, w0⟩ := open_int Try.underlying3 (hval 0 3 v0 rfl rfl) h0
  obtain ⟨a1, rfl, rfl, rfl, w1⟩ := open_int Try.underlying22 (hval 1 22 v1 rfl rfl) h1
  obtain ⟨a2, rfl, rfl, rfl, w2⟩ := open_int Try.underlying22 (hval 2 22 v2 rfl rfl) h2
  clear hA0 hval0
  simp only [List.append_nil] at hW'
  refine (walk a0 a1 a2 w0 w1 w2 W).mono fun e W' ⟨he, hg⟩ => ?_
  subst he
  exact ⟨_, rfl, post_of_same (pa := []) (pv := []) hW' (fun _ _ _ => (trodAll_cons_mk (shut_bool Try.underlying4 _) trodAll_mk0)) (fun sp _ => (trodAll_cons_mk (shut_int Try.underlying3 w0) (trodAll_cons_mk (shut_int Try.underlying22 w1) (trodAll_cons_mk (shut_int Try.underlying22 w2) trodAll_mk0)))) (fun _ _ => rfl) rfl
    (hg.frame _) hg.2.1 (ok_one (by kernel_rfl) rfl (okWide_bool_mk Try.underlying4 _))⟩

theorem over : Rows.wordRightRow.holds Try.pinned (OpenSpec.ofChange Rows.wordRightSpec) :=
  OpenClaim.holds_of_wide 3 Try.f3 rfl rfl rfl rfl rfl rfl rfl ⟨rfl, rfl, rfl, rfl, rfl⟩ rfl rfl rfl rfl rfl (by kernel_rfl) Try.func3 (by kernel_rfl)
    (of_decide_eq_true (by kernel_rfl)) (by unfold Func.isWrapper; first | (rw [if_pos (by decide +kernel)]; kernel_rfl) | (rw [if_neg (by decide +kernel)]; exact ⟨rfl, rfl⟩))
    (fun os started H enc _ => lifted os started H enc)

end Go.Proofs.Ytpcaeocopbfacaa.wordRight
namespace Go.Proofs.Ytpcaeocopbfacaa
/-- The statement. -/
theorem wordRight_holds : Rows.WordRightSaid := wordRight.over
#print axioms wordRight_holds
end Go.Proofs.Ytpcaeocopbfacaa

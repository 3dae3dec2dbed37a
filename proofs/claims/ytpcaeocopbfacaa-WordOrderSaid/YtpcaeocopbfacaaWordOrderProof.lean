/-
  For any three words the law WordOrder of layer 1 answers true (of two words just one is so: alike, below, above), and its arguments stay as they were.
  Conditions: none beyond the given row's own.
-/
import Derived.Test.YtpcaeocopbfacaaWalks
import Derived.WalkKit
import Derived.ProofKit
import Derived.OpenShut
namespace Go.Proofs.Ytpcaeocopbfacaa.wordOrder
open Go.ChangeShapes Go.WideShapes Go.ChangeAt Go.RowKit
set_option linter.unusedVariables false      -- a walk need not use every 'w<i>' (that an integer argument fits its kind)

theorem own : ownKnob Try.prog.godebug = none := by kernel_rfl

theorem do_is {op a b v : Int} {t : Bool} (ha : Word a) (hb : Word b) (h : dN op a b = v) (g : dB op b = t) (w : World) : Calls Try.prog 7 #[.int .i64 op, .int .u16 a, .int .u16 b] w fun e w' => e = .returned (.tuple #[.int .u16 v, .bool t]) ∧ w = w' := h ▸ g ▸ do_any op a b ha hb w
theorem pure_is {op : Int} {v : Bool} (h : pB op = v) (w : World) : Calls Try.prog 9 #[.int .i64 op] w fun e w' => e = .returned (.bool v) ∧ w = w' := h ▸ pure_any op w
theorem turns_is {op : Int} {v : Bool} (h : uB op = v) (w : World) : Calls Try.prog 11 #[.int .i64 op] w fun e w' => e = .returned (.bool v) ∧ w = w' := h ▸ turns_any op w
/-- A call of word.Do with its answer. -/
def Ans (op a b v : Int) (t : Bool) : Prop := ∀ w : World, Calls Try.prog 7 #[.int .i64 op, .int .u16 a, .int .u16 b] w fun e w' => e = .returned (.tuple #[.int .u16 v, .bool t]) ∧ w = w'
theorem dN_word (op : Int) {a b : Int} (ha : Word a) (hb : Word b) : Word (dN op a b) := by
  rcases opCases op with rfl | rfl | rfl | rfl | rfl | rfl | rfl | h
  · exact ha
  · show Word ((a + b) % 65536); exact ⟨by omega, by omega⟩
  · show Word ((a - b) % 65536); exact ⟨by omega, by omega⟩
  · show Word ((a * b) % 65536); exact ⟨by omega, by omega⟩
  · show Word (if b = 0 then 0 else a / b)
    split
    · exact ⟨by decide, by decide⟩
    · exact div_word ha hb
  · show Word (if a = b then 1 else 0); split <;> exact ⟨by decide, by decide⟩
  · show Word (if a < b then 1 else 0); split <;> exact ⟨by decide, by decide⟩
  · rw [dN_no a b h]; exact ⟨by decide, by decide⟩

theorem c1 {op a b v : Int} {t : Bool} (h : Ans op a b v t) (w : World) : Calls Try.prog 7 #[.int .i64 op, .int .u16 a, .int .u16 b] w fun e w' => e = .returned (.tuple #[.int .u16 v, .bool t]) ∧ w = w' := h w
theorem walk_eq (a c s : Int) (k1 : Hid (Ans 7 a a 1 true)) (k2 : Hid (Ans 8 a a 0 true)) (k4 : Hid (Ans 3 a c s true)) (k6 : Hid (Ans 7 s s 1 true)) (k7 : Hid (Ans 5 a 1 a true)) (k8 : Hid (Ans 5 a 0 0 true)) (k9 : Hid (Ans 2 a c a true)) (w : World) :
    Calls Try.prog 5 #[.int .u16 a, .int .u16 a, .int .u16 c] w fun e w' => e = .returned (.bool true) ∧ w = w' := by
  go_enter Try.func5, Try.ntmps5
  go_wp2_with (first
    | (go_at_call 6; (with_reducible refine (awake_any _).mono ?_); rintro e w' ⟨rfl, rfl⟩)
    | (go_at_call 7; (with_reducible refine (c1 k1.out _).mono ?_); rintro e w' ⟨rfl, rfl⟩)
    | (go_at_call 7; (with_reducible refine (c1 k2.out _).mono ?_); rintro e w' ⟨rfl, rfl⟩)
    | (go_at_call 7; (with_reducible refine (c1 k4.out _).mono ?_); rintro e w' ⟨rfl, rfl⟩)
    | (go_at_call 7; (with_reducible refine (c1 k6.out _).mono ?_); rintro e w' ⟨rfl, rfl⟩)
    | (go_at_call 7; (with_reducible refine (c1 k7.out _).mono ?_); rintro e w' ⟨rfl, rfl⟩)
    | (go_at_call 7; (with_reducible refine (c1 k8.out _).mono ?_); rintro e w' ⟨rfl, rfl⟩)
    | (go_at_call 7; (with_reducible refine (c1 k9.out _).mono ?_); rintro e w' ⟨rfl, rfl⟩))
  go_ret
  exact ⟨rfl, rfl⟩
theorem walk_lt (a b c s t : Int) (k1 : Hid (Ans 7 a b 0 true)) (k2 : Hid (Ans 8 a b 1 true)) (k3 : Hid (Ans 8 b a 0 true)) (k4 : Hid (Ans 3 a c s true)) (k5 : Hid (Ans 3 b c t true)) (k6 : Hid (Ans 7 s t 0 true)) (k7 : Hid (Ans 5 a 1 a true)) (k8 : Hid (Ans 5 a 0 0 true)) (k9 : Hid (Ans 2 a c a true)) (w : World) :
    Calls Try.prog 5 #[.int .u16 a, .int .u16 b, .int .u16 c] w fun e w' => e = .returned (.bool true) ∧ w = w' := by
  go_enter Try.func5, Try.ntmps5
  go_wp2_with (first
    | (go_at_call 6; (with_reducible refine (awake_any _).mono ?_); rintro e w' ⟨rfl, rfl⟩)
    | (go_at_call 7; (with_reducible refine (c1 k1.out _).mono ?_); rintro e w' ⟨rfl, rfl⟩)
    | (go_at_call 7; (with_reducible refine (c1 k2.out _).mono ?_); rintro e w' ⟨rfl, rfl⟩)
    | (go_at_call 7; (with_reducible refine (c1 k3.out _).mono ?_); rintro e w' ⟨rfl, rfl⟩)
    | (go_at_call 7; (with_reducible refine (c1 k4.out _).mono ?_); rintro e w' ⟨rfl, rfl⟩)
    | (go_at_call 7; (with_reducible refine (c1 k5.out _).mono ?_); rintro e w' ⟨rfl, rfl⟩)
    | (go_at_call 7; (with_reducible refine (c1 k6.out _).mono ?_); rintro e w' ⟨rfl, rfl⟩)
    | (go_at_call 7; (with_reducible refine (c1 k7.out _).mono ?_); rintro e w' ⟨rfl, rfl⟩)
    | (go_at_call 7; (with_reducible refine (c1 k8.out _).mono ?_); rintro e w' ⟨rfl, rfl⟩)
    | (go_at_call 7; (with_reducible refine (c1 k9.out _).mono ?_); rintro e w' ⟨rfl, rfl⟩))
  go_ret
  exact ⟨rfl, rfl⟩
theorem walk_gt (a b c s t : Int) (k1 : Hid (Ans 7 a b 0 true)) (k2 : Hid (Ans 8 a b 0 true)) (k3 : Hid (Ans 8 b a 1 true)) (k4 : Hid (Ans 3 a c s true)) (k5 : Hid (Ans 3 b c t true)) (k6 : Hid (Ans 7 s t 0 true)) (k7 : Hid (Ans 5 a 1 a true)) (k8 : Hid (Ans 5 a 0 0 true)) (k9 : Hid (Ans 2 a c a true)) (w : World) :
    Calls Try.prog 5 #[.int .u16 a, .int .u16 b, .int .u16 c] w fun e w' => e = .returned (.bool true) ∧ w = w' := by
  go_enter Try.func5, Try.ntmps5
  go_wp2_with (first
    | (go_at_call 6; (with_reducible refine (awake_any _).mono ?_); rintro e w' ⟨rfl, rfl⟩)
    | (go_at_call 7; (with_reducible refine (c1 k1.out _).mono ?_); rintro e w' ⟨rfl, rfl⟩)
    | (go_at_call 7; (with_reducible refine (c1 k2.out _).mono ?_); rintro e w' ⟨rfl, rfl⟩)
    | (go_at_call 7; (with_reducible refine (c1 k3.out _).mono ?_); rintro e w' ⟨rfl, rfl⟩)
    | (go_at_call 7; (with_reducible refine (c1 k4.out _).mono ?_); rintro e w' ⟨rfl, rfl⟩)
    | (go_at_call 7; (with_reducible refine (c1 k5.out _).mono ?_); rintro e w' ⟨rfl, rfl⟩)
    | (go_at_call 7; (with_reducible refine (c1 k6.out _).mono ?_); rintro e w' ⟨rfl, rfl⟩)
    | (go_at_call 7; (with_reducible refine (c1 k7.out _).mono ?_); rintro e w' ⟨rfl, rfl⟩)
    | (go_at_call 7; (with_reducible refine (c1 k8.out _).mono ?_); rintro e w' ⟨rfl, rfl⟩)
    | (go_at_call 7; (with_reducible refine (c1 k9.out _).mono ?_); rintro e w' ⟨rfl, rfl⟩))
  go_ret
  exact ⟨rfl, rfl⟩
theorem ans {op a b : Int} (v : Int) (ha : Word a) (hb : Word b) (h : dN op a b = v) (g : dB op b = true) : Hid (Ans op a b v true) := Lib.hid (fun w => do_is ha hb h g w)
theorem w0 : Word 0 := ⟨by decide, by decide⟩
theorem w1 : Word 1 := ⟨by decide, by decide⟩
theorem add_ne {a b c : Int} (ha : Word a) (hb : Word b) (h : a ≠ b) : dN 3 a c ≠ dN 3 b c := by
  show (a + c) % 65536 ≠ (b + c) % 65536
  unfold Word at ha hb
  omega
theorem mul_1 {a : Int} (ha : Word a) : dN 5 a 1 = a := by
  show (a * 1) % 65536 = a
  unfold Word at ha
  omega
theorem mul_0 (a : Int) : dN 5 a 0 = 0 := by
  show (a * 0) % 65536 = 0
  omega
theorem walk0 (a b c : Int) (ha : Word a) (hb : Word b) (hc : Word c) (w : World) :
    Calls Try.prog 5 #[.int .u16 a, .int .u16 b, .int .u16 c] w fun e w' => e = .returned (.bool true) ∧ w = w' := by
  have hs := dN_word 3 ha hc
  have ht := dN_word 3 hb hc
  by_cases h : a = b
  · subst h
    exact walk_eq a c (dN 3 a c) (ans 1 ha ha (if_pos rfl) rfl) (ans 0 ha ha (if_neg (Int.lt_irrefl a)) rfl) (ans _ ha hc rfl rfl)
      (ans 1 hs hs (if_pos rfl) rfl) (ans a ha w1 (mul_1 ha) rfl) (ans 0 ha w0 (mul_0 a) rfl) (ans a ha hc rfl rfl) w
  · have hn := add_ne (c := c) ha hb h
    by_cases g : a < b
    · exact walk_lt a b c (dN 3 a c) (dN 3 b c) (ans 0 ha hb (if_neg h) rfl) (ans 1 ha hb (if_pos g) rfl) (ans 0 hb ha (if_neg (show ¬ b < a by omega)) rfl) (ans _ ha hc rfl rfl) (ans _ hb hc rfl rfl)
        (ans 0 hs ht (if_neg hn) rfl) (ans a ha w1 (mul_1 ha) rfl) (ans 0 ha w0 (mul_0 a) rfl) (ans a ha hc rfl rfl) w
    · exact walk_gt a b c (dN 3 a c) (dN 3 b c) (ans 0 ha hb (if_neg h) rfl) (ans 0 ha hb (if_neg g) rfl) (ans 1 hb ha (if_pos (show b < a by omega)) rfl) (ans _ ha hc rfl rfl) (ans _ hb hc rfl rfl)
        (ans 0 hs ht (if_neg hn) rfl) (ans a ha w1 (mul_1 ha) rfl) (ans 0 ha w0 (mul_0 a) rfl) (ans a ha hc rfl rfl) w
theorem walk (a0 : Int) (a1 : Int) (a2 : Int) (w0 : (Lit.int .u16 a0).wf = true) (w1 : (Lit.int .u16 a1).wf = true) (w2 : (Lit.int .u16 a2).wf = true) (w : World) :
    Calls Try.prog 5 #[.int .u16 a0, .int .u16 a1, .int .u16 a2] w fun e w' => e = .returned (.bool true) ∧ Grown w w' :=
  (walk0 a0 a1 a2 (word_of w0) (word_of w1) (word_of w2) w).mono fun _ _ ⟨he, hw⟩ => ⟨he, hw ▸ Grown.refl _⟩

/-! ### THE ROW's STEP: WRITTEN OUT: LEAVE IT -/
set_option maxRecDepth 100000 in
theorem lifted (os : Os) (started : os.Started) (H : Type) (enc : TypeId × Value → H) :
    ReturnsInHanded {} Try.checked os 5 .any (Rows.wordOrderSpec.pre6 enc Try.prog Try.f5 Rows.wordOrderRow.domain false) (Rows.wordOrderSpec.post enc Try.prog Try.f5 false true false false) := by
  refine returnsInHanded_of_change (C := Try.checked) own started (by kernel_rfl) Try.func5
    (ChangeSpec.witness6 (enc := enc) (C := Try.checked) false ⟨#[], #[.int .u16 0, .int .u16 0, .int .u16 0], []⟩ 8 (by kernel_rfl) (by kernel_rfl) (by kernel_rfl) (by kernel_rfl)) ?_
  intro W base args ds gs before hval0 hW hcnd _
  have hval : ∀ (j : Nat) t v, Try.f5.params[j]? = some t → args[j]? = some v → Value.okWide Try.prog W .any base t v := hval0
  have hW' := hW
  obtain ⟨p, q, hA0, hV, rfl, hfz, hnd⟩ := hW
  have hA : DataW.TrodAll enc Try.prog W 0 (fun _ => true) true Try.f5.params.toList args.toList ds p := hA0
  rw [Try.params5] at hA hval
  obtain ⟨v0, vs0, d0, ds0, p0, q0, hargs, rfl, rfl, h0, r0⟩ := trodAll_cons hA
  obtain ⟨v1, vs1, d1, ds1, p1, q1, rfl, rfl, rfl, h1, r1⟩ := trodAll_cons r0
  obtain ⟨v2, vs2, d2, ds2, p2, q2, rfl, rfl, rfl, h2, r2⟩ := trodAll_cons r1
  obtain ⟨rfl, rfl, rfl⟩ := trodAll_nil r2
  obtain rfl : args = #[v0, v1, v2] := by cases args; simp_all
  obtain ⟨rfl, rfl⟩ := trodVars_none hV
  obtain ⟨a0, rfl, rfl, rfl, w0⟩ := open_int Try.underlying22 (hval 0 22 v0 rfl rfl) h0
  obtain ⟨a1, rfl, rfl, rfl, w1⟩ := open_int Try.underlying22 (hval 1 22 v1 rfl rfl) h1
  obtain ⟨a2, rfl, rfl, rfl, w2⟩ := open_int Try.underlying22 (hval 2 22 v2 rfl rfl) h2
  clear hA0 hval0
  simp only [List.append_nil] at hW'
  refine (walk a0 a1 a2 w0 w1 w2 W).mono fun e W' ⟨he, hg⟩ => ?_
  subst he
  exact ⟨_, rfl, post_of_same (pa := []) (pv := []) hW' (fun _ _ _ => (trodAll_cons_mk (shut_bool Try.underlying4 _) trodAll_mk0)) (fun sp _ => (trodAll_cons_mk (shut_int Try.underlying22 w0) (trodAll_cons_mk (shut_int Try.underlying22 w1) (trodAll_cons_mk (shut_int Try.underlying22 w2) trodAll_mk0)))) (fun _ _ => rfl) rfl
    (hg.frame _) hg.2.1 (ok_one (by kernel_rfl) rfl (okWide_bool_mk Try.underlying4 _))⟩

theorem over : Rows.wordOrderRow.holds Try.pinned (OpenSpec.ofChange Rows.wordOrderSpec) :=
  OpenClaim.holds_of_wide 5 Try.f5 rfl rfl rfl rfl rfl rfl rfl ⟨rfl, rfl, rfl, rfl, rfl⟩ rfl rfl rfl rfl rfl (by kernel_rfl) Try.func5 (by kernel_rfl)
    (of_decide_eq_true (by kernel_rfl)) (by unfold Func.isWrapper; first | (rw [if_pos (by decide +kernel)]; kernel_rfl) | (rw [if_neg (by decide +kernel)]; exact ⟨rfl, rfl⟩))
    (fun os started H enc _ => lifted os started H enc)

end Go.Proofs.Ytpcaeocopbfacaa.wordOrder
namespace Go.Proofs.Ytpcaeocopbfacaa
/-- The statement. -/
theorem wordOrder_holds : Rows.WordOrderSaid := wordOrder.over
#print axioms wordOrder_holds
end Go.Proofs.Ytpcaeocopbfacaa

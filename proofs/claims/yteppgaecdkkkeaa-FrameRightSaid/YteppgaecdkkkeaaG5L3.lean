/-
  For any module, frame, function number, arguments, pad number and word the law FrameRight of layer 5 answers true (a frame may be, begins, and lands as the document says), and its arguments stay as they were.
  Conditions: none beyond the given row's own.
-/
import Derived.Test.YteppgaecdkkkeaaG5F37
import Derived.Test.YteppgaecdkkkeaaRows
import Derived.WalkKit
import Derived.ProofKit
import Derived.OpenShut
namespace Go.Proofs.Yteppgaecdkkkeaa.frameRight
open Go Go.Ab Go.ChangeShapes Go.WideShapes Go.ChangeAt Go.RowKit
set_option linter.unusedVariables false
set_option maxRecDepth 100000
theorem own : ownKnob Try.prog.godebug = none := by kernel_rfl
theorem laid : laidOutB Try.prog = true := by kernel_rfl
theorem plain : ∀ t ∈ Try.f3.params.toList, plainTy Try.prog 24 t = true ∧ Try.prog.readableRec t = true ∧ t < Try.prog.types.size := by
  intro t ht
  rw [Try.params3] at ht
  simp only [List.mem_cons, List.mem_nil_iff, or_false] at ht
  rcases ht with rfl | rfl | rfl | rfl | rfl | rfl <;> exact ⟨by kernel_rfl, by kernel_rfl, by decide +kernel⟩
theorem core : ∀ xs, ValsTy Try.prog Try.f3.params.toList xs → ∃ n, acall G5.prog n 3 xs = some (.lit (.bool true)) := by
  intro xs h
  rw [Try.params3] at h
  match xs, h with
  | [x1, x2, x3, x4, x5, x6], ⟨h1, h2, h3, h4, h5, h6, _⟩ =>
    obtain ⟨e1, m, rfl, hm⟩ := G5.v_mod h1
    obtain ⟨e2, f, rfl, hf⟩ := G5.v_frame h2
    obtain ⟨n, rfl, hn⟩ := G5.v_int h3
    obtain ⟨args, hx⟩ := G5.v_words h4
    obtain ⟨pad, rfl, hp⟩ := G5.v_int h5
    obtain ⟨w, rfl, hw⟩ := G5.v_word h6
    exact G5.lRight hm hf hn hx hp hw
theorem lifted (os : Os) (started : os.Started) (H : Type) (enc : TypeId × Value → H) :
    ReturnsInHanded {} Try.checked os 3 .any (Rows.frameRightSpec.pre6 enc Try.prog Try.f3 Rows.frameRightRow.domain false) (Rows.frameRightSpec.post enc Try.prog Try.f3 false true false false) := by
  refine returnsInHanded_of_change (C := Try.checked) own started (by kernel_rfl) Try.func3
    (ChangeSpec.witness6 (enc := enc) (C := Try.checked) false ⟨#[], #[.agg #[.slice Option.none 0 0], .agg #[.int .i64 0, .int .i64 0, .int .i64 0, .slice Option.none 0 0, .int .u16 0], .int .i64 0, .slice Option.none 0 0, .int .i64 0, .int .u16 0], []⟩ 8 (by kernel_rfl) (by kernel_rfl) (by kernel_rfl) (by kernel_rfl)) ?_
  intro W base args ds gs before hval hW hcnd _
  exact law_core (A := Go.Ab.G5.prog) Go.Ab.G5.ok trivial (fid := 3) rfl (f := Try.f3) laid plain (by kernel_rfl) Try.underlying4 rfl (fun ds hl => by
    have hl : ds.length = 6 := hl.trans (by rw [Try.params3]; rfl)
    match ds, hl with
    | [_, _, _, _, _, _], _ => rfl) core hval hW

theorem over : Rows.frameRightRow.holds Try.pinned (OpenSpec.ofChange Rows.frameRightSpec) :=
  OpenClaim.holds_of_wide 3 Try.f3 rfl rfl rfl rfl rfl rfl rfl ⟨rfl, rfl, rfl, rfl, rfl⟩ rfl rfl rfl rfl rfl (by kernel_rfl) Try.func3 (by kernel_rfl)
    (of_decide_eq_true (by kernel_rfl)) (by unfold Func.isWrapper; first | (rw [if_pos (by decide +kernel)]; kernel_rfl) | (rw [if_neg (by decide +kernel)]; exact ⟨rfl, rfl⟩))
    (fun os started H enc _ => lifted os started H enc)
end Go.Proofs.Yteppgaecdkkkeaa.frameRight
namespace Go.Proofs.Yteppgaecdkkkeaa
/-- The statement. -/
theorem frameRight_holds : Rows.FrameRightSaid := frameRight.over
#print axioms frameRight_holds
end Go.Proofs.Yteppgaecdkkkeaa

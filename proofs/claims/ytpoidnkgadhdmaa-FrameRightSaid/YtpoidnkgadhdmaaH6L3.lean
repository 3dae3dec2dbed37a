/-
  For any module, frame, function number, arguments, pad number and word the law FrameRight of layer 5 answers true (a frame may be, begins, and lands as the document says), and its arguments stay as they were.
  Conditions: none beyond the given row's own.
-/
import Derived.Test.YtpoidnkgadhdmaaH6F37
import Derived.Test.YtpoidnkgadhdmaaRows
import Derived.WalkKit
import Derived.ProofKit
import Derived.OpenShut
namespace Go.Proofs.Ytpoidnkgadhdmaa.frameRight
open Go Go.Ab Go.ChangeShapes Go.WideShapes Go.ChangeAt Go.RowKit
set_option linter.unusedVariables false
set_option maxRecDepth 100000
theorem own : ownKnob Try.prog.godebug = none := by kernel_rfl
theorem laid : laidOutB Try.prog = true := by kernel_rfl
theorem plain : ∀ t ∈ Try.f4.params.toList, plainTy Try.prog 24 t = true ∧ Try.prog.readableRec t = true ∧ t < Try.prog.types.size := by
  intro t ht
  rw [Try.params4] at ht
  simp only [List.mem_cons, List.mem_nil_iff, or_false] at ht
  rcases ht with rfl | rfl | rfl | rfl | rfl | rfl <;> exact ⟨by kernel_rfl, by kernel_rfl, by decide +kernel⟩
theorem core : ∀ xs, ValsTy Try.prog Try.f4.params.toList xs → ∃ n, acall H6.prog n 4 xs = some (.lit (.bool true)) := by
  intro xs h
  rw [Try.params4] at h
  match xs, h with
  | [x1, x2, x3, x4, x5, x6], ⟨h1, h2, h3, h4, h5, h6, _⟩ =>
    obtain ⟨e1, m, rfl, hm⟩ := H6.v_mod h1
    obtain ⟨e2, f, rfl, hf⟩ := H6.v_frame h2
    obtain ⟨n, rfl, hn⟩ := H6.v_int h3
    obtain ⟨args, hx⟩ := H6.v_words h4
    obtain ⟨pad, rfl, hp⟩ := H6.v_int h5
    obtain ⟨w, rfl, hw⟩ := H6.v_word h6
    exact H6.lRight hm hf hn hx hp hw
theorem lifted (os : Os) (started : os.Started) (H : Type) (enc : TypeId × Value → H) :
    ReturnsInHanded {} Try.checked os 4 .any (Rows.frameRightSpec.pre6 enc Try.prog Try.f4 Rows.frameRightRow.domain false) (Rows.frameRightSpec.post enc Try.prog Try.f4 false true false false) := by
  refine returnsInHanded_of_change (C := Try.checked) own started (by kernel_rfl) Try.func4
    (ChangeSpec.witness6 (enc := enc) (C := Try.checked) false ⟨#[], #[.agg #[.slice Option.none 0 0], .agg #[.int .i64 0, .int .i64 0, .int .i64 0, .slice Option.none 0 0, .int .u16 0], .int .i64 0, .slice Option.none 0 0, .int .i64 0, .int .u16 0], []⟩ 8 (by kernel_rfl) (by kernel_rfl) (by kernel_rfl) (by kernel_rfl)) ?_
  intro W base args ds gs before hval hW hcnd _
  exact law_core (A := Go.Ab.H6.prog) Go.Ab.H6.ok trivial (fid := 4) rfl (f := Try.f4) laid plain (by kernel_rfl) Try.underlying4 rfl (fun ds hl => by
    have hl : ds.length = 6 := hl.trans (by rw [Try.params4]; rfl)
    match ds, hl with
    | [_, _, _, _, _, _], _ => rfl) core hval hW

theorem over : Rows.frameRightRow.holds Try.pinned (OpenSpec.ofChange Rows.frameRightSpec) :=
  OpenClaim.holds_of_wide 4 Try.f4 rfl rfl rfl rfl rfl rfl rfl ⟨rfl, rfl, rfl, rfl, rfl⟩ rfl rfl rfl rfl rfl (by kernel_rfl) Try.func4 (by kernel_rfl)
    (of_decide_eq_true (by kernel_rfl)) (by unfold Func.isWrapper; first | (rw [if_pos (by decide +kernel)]; kernel_rfl) | (rw [if_neg (by decide +kernel)]; exact ⟨rfl, rfl⟩))
    (fun os started H enc _ => lifted os started H enc)
end Go.Proofs.Ytpoidnkgadhdmaa.frameRight
namespace Go.Proofs.Ytpoidnkgadhdmaa
/-- The statement. -/
theorem frameRight_holds : Rows.FrameRightSaid := frameRight.over
#print axioms frameRight_holds
end Go.Proofs.Ytpoidnkgadhdmaa

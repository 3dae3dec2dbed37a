/-
  For any frame and any instruction the law FrameOne of layer 5 answers true (what reckons changes one place alone and goes one on, what doesn't changes nothing), and its arguments stay as they were.
  Conditions: none beyond the given row's own.
-/
import Derived.Test.YtpoidnkgadhdmaaH6F37
import Derived.Test.YtpoidnkgadhdmaaRows
import Derived.WalkKit
import Derived.ProofKit
import Derived.OpenShut
namespace Go.Proofs.Ytpoidnkgadhdmaa.frameOne
open Go Go.Ab Go.ChangeShapes Go.WideShapes Go.ChangeAt Go.RowKit
set_option linter.unusedVariables false
set_option maxRecDepth 100000
theorem own : ownKnob Try.prog.godebug = none := by kernel_rfl
theorem laid : laidOutB Try.prog = true := by kernel_rfl
theorem plain : ∀ t ∈ Try.f6.params.toList, plainTy Try.prog 24 t = true ∧ Try.prog.readableRec t = true ∧ t < Try.prog.types.size := by
  intro t ht
  rw [Try.params6] at ht
  simp only [List.mem_cons, List.mem_nil_iff, or_false] at ht
  rcases ht with rfl | rfl <;> exact ⟨by kernel_rfl, by kernel_rfl, by decide +kernel⟩
theorem core : ∀ xs, ValsTy Try.prog Try.f6.params.toList xs → ∃ n, acall H6.prog n 6 xs = some (.lit (.bool true)) := by
  intro xs h
  rw [Try.params6] at h
  match xs, h with
  | [x1, x2], ⟨h1, h2, _⟩ =>
    obtain ⟨e1, f, rfl, hf⟩ := H6.v_frame h1
    obtain ⟨e2, x, rfl, hx⟩ := H6.v_ins h2
    exact H6.lOne hf hx
theorem lifted (os : Os) (started : os.Started) (H : Type) (enc : TypeId × Value → H) :
    ReturnsInHanded {} Try.checked os 6 .any (Rows.frameOneSpec.pre6 enc Try.prog Try.f6 Rows.frameOneRow.domain false) (Rows.frameOneSpec.post enc Try.prog Try.f6 false true false false) := by
  refine returnsInHanded_of_change (C := Try.checked) own started (by kernel_rfl) Try.func6
    (ChangeSpec.witness6 (enc := enc) (C := Try.checked) false ⟨#[], #[.agg #[.int .i64 0, .int .i64 0, .int .i64 0, .slice Option.none 0 0, .int .u16 0], .agg #[.int .i64 0, .int .i64 0, .int .i64 0, .int .i64 0, .int .u16 0, .int .i64 0, .slice Option.none 0 0]], []⟩ 8 (by kernel_rfl) (by kernel_rfl) (by kernel_rfl) (by kernel_rfl)) ?_
  intro W base args ds gs before hval hW hcnd _
  exact law_core (A := Go.Ab.H6.prog) Go.Ab.H6.ok trivial (fid := 6) rfl (f := Try.f6) laid plain (by kernel_rfl) Try.underlying4 rfl (fun ds hl => by
    have hl : ds.length = 2 := hl.trans (by rw [Try.params6]; rfl)
    match ds, hl with
    | [_, _], _ => rfl) core hval hW

theorem over : Rows.frameOneRow.holds Try.pinned (OpenSpec.ofChange Rows.frameOneSpec) :=
  OpenClaim.holds_of_wide 6 Try.f6 rfl rfl rfl rfl rfl rfl rfl ⟨rfl, rfl, rfl, rfl, rfl⟩ rfl rfl rfl rfl rfl (by kernel_rfl) Try.func6 (by kernel_rfl)
    (of_decide_eq_true (by kernel_rfl)) (by unfold Func.isWrapper; first | (rw [if_pos (by decide +kernel)]; kernel_rfl) | (rw [if_neg (by decide +kernel)]; exact ⟨rfl, rfl⟩))
    (fun os started H enc _ => lifted os started H enc)
end Go.Proofs.Ytpoidnkgadhdmaa.frameOne
namespace Go.Proofs.Ytpoidnkgadhdmaa
/-- The statement. -/
theorem frameOne_holds : Rows.FrameOneSaid := frameOne.over
#print axioms frameOne_holds
end Go.Proofs.Ytpoidnkgadhdmaa

/-
  For any frame, instruction, pad, word and block number the law FrameReckons of layer 5 answers true (reckoned, caught and gone on as the document says), and its arguments stay as they were.
  Conditions: none beyond the given row's own.
-/
import Derived.Test.YtpoidnkgadhdmaaH6F37
import Derived.Test.YtpoidnkgadhdmaaRows
import Derived.WalkKit
import Derived.ProofKit
import Derived.OpenShut
namespace Go.Proofs.Ytpoidnkgadhdmaa.frameReckons
open Go Go.Ab Go.ChangeShapes Go.WideShapes Go.ChangeAt Go.RowKit
set_option linter.unusedVariables false
set_option maxRecDepth 100000
theorem own : ownKnob Try.prog.godebug = none := by kernel_rfl
theorem laid : laidOutB Try.prog = true := by kernel_rfl
theorem plain : ∀ t ∈ Try.f5.params.toList, plainTy Try.prog 24 t = true ∧ Try.prog.readableRec t = true ∧ t < Try.prog.types.size := by
  intro t ht
  rw [Try.params5] at ht
  simp only [List.mem_cons, List.mem_nil_iff, or_false] at ht
  rcases ht with rfl | rfl | rfl | rfl | rfl <;> exact ⟨by kernel_rfl, by kernel_rfl, by decide +kernel⟩
theorem core : ∀ xs, ValsTy Try.prog Try.f5.params.toList xs → ∃ n, acall H6.prog n 5 xs = some (.lit (.bool true)) := by
  intro xs h
  rw [Try.params5] at h
  match xs, h with
  | [x1, x2, x3, x4, x5], ⟨h1, h2, h3, h4, h5, _⟩ =>
    obtain ⟨e1, f, rfl, hf⟩ := H6.v_frame h1
    obtain ⟨e2, x, rfl, hx⟩ := H6.v_ins h2
    obtain ⟨e3, p, rfl, hp⟩ := H6.v_pad h3
    obtain ⟨w, rfl, _⟩ := H6.v_word h4
    obtain ⟨b, rfl, hb⟩ := H6.v_int h5
    exact H6.lReckons hf hx hp hb
theorem lifted (os : Os) (started : os.Started) (H : Type) (enc : TypeId × Value → H) :
    ReturnsInHanded {} Try.checked os 5 .any (Rows.frameReckonsSpec.pre6 enc Try.prog Try.f5 Rows.frameReckonsRow.domain false) (Rows.frameReckonsSpec.post enc Try.prog Try.f5 false true false false) := by
  refine returnsInHanded_of_change (C := Try.checked) own started (by kernel_rfl) Try.func5
    (ChangeSpec.witness6 (enc := enc) (C := Try.checked) false ⟨#[], #[.agg #[.int .i64 0, .int .i64 0, .int .i64 0, .slice Option.none 0 0, .int .u16 0], .agg #[.int .i64 0, .int .i64 0, .int .i64 0, .int .i64 0, .int .u16 0, .int .i64 0, .slice Option.none 0 0], .agg #[.int .i64 0, .slice Option.none 0 0, .bool false, .bool false], .int .u16 0, .int .i64 0], []⟩ 8 (by kernel_rfl) (by kernel_rfl) (by kernel_rfl) (by kernel_rfl)) ?_
  intro W base args ds gs before hval hW hcnd _
  exact law_core (A := Go.Ab.H6.prog) Go.Ab.H6.ok trivial (fid := 5) rfl (f := Try.f5) laid plain (by kernel_rfl) Try.underlying4 rfl (fun ds hl => by
    have hl : ds.length = 5 := hl.trans (by rw [Try.params5]; rfl)
    match ds, hl with
    | [_, _, _, _, _], _ => rfl) core hval hW

theorem over : Rows.frameReckonsRow.holds Try.pinned (OpenSpec.ofChange Rows.frameReckonsSpec) :=
  OpenClaim.holds_of_wide 5 Try.f5 rfl rfl rfl rfl rfl rfl rfl ⟨rfl, rfl, rfl, rfl, rfl⟩ rfl rfl rfl rfl rfl (by kernel_rfl) Try.func5 (by kernel_rfl)
    (of_decide_eq_true (by kernel_rfl)) (by unfold Func.isWrapper; first | (rw [if_pos (by decide +kernel)]; kernel_rfl) | (rw [if_neg (by decide +kernel)]; exact ⟨rfl, rfl⟩))
    (fun os started H enc _ => lifted os started H enc)
end Go.Proofs.Ytpoidnkgadhdmaa.frameReckons
namespace Go.Proofs.Ytpoidnkgadhdmaa
/-- The statement. -/
theorem frameReckons_holds : Rows.FrameReckonsSaid := frameReckons.over
#print axioms frameReckons_holds
end Go.Proofs.Ytpoidnkgadhdmaa

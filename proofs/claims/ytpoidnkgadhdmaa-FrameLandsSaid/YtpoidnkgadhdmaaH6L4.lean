/-
  For any module, frame, pad number and word the law FrameLands of layer 5 answers true (a frame that lands has what was thrown in the pad's place, all else as it was, and stands at the pad's beginning), and its arguments stay as they were.
  Conditions: none beyond the given row's own.
-/
import Derived.Test.YtpoidnkgadhdmaaH6F37
import Derived.Test.YtpoidnkgadhdmaaRows
import Derived.WalkKit
import Derived.ProofKit
import Derived.OpenShut
namespace Go.Proofs.Ytpoidnkgadhdmaa.frameLands
open Go Go.Ab Go.ChangeShapes Go.WideShapes Go.ChangeAt Go.RowKit
set_option linter.unusedVariables false
set_option maxRecDepth 100000
theorem own : ownKnob Try.prog.godebug = none := by kernel_rfl
theorem laid : laidOutB Try.prog = true := by kernel_rfl
theorem plain : ∀ t ∈ Try.f7.params.toList, plainTy Try.prog 24 t = true ∧ Try.prog.readableRec t = true ∧ t < Try.prog.types.size := by
  intro t ht
  rw [Try.params7] at ht
  simp only [List.mem_cons, List.mem_nil_iff, or_false] at ht
  rcases ht with rfl | rfl | rfl | rfl <;> exact ⟨by kernel_rfl, by kernel_rfl, by decide +kernel⟩
theorem core : ∀ xs, ValsTy Try.prog Try.f7.params.toList xs → ∃ n, acall H6.prog n 7 xs = some (.lit (.bool true)) := by
  intro xs h
  rw [Try.params7] at h
  match xs, h with
  | [x1, x2, x3, x4], ⟨h1, h2, h3, h4, _⟩ =>
    obtain ⟨e1, m, rfl, hm⟩ := H6.v_mod h1
    obtain ⟨e2, f, rfl, hf⟩ := H6.v_frame h2
    obtain ⟨p, rfl, hp⟩ := H6.v_byte h3
    obtain ⟨w, rfl, hw⟩ := H6.v_word h4
    have hp : 0 ≤ p ∧ p ≤ 255 := by
      simp only [Lit.wf, Bool.and_eq_true, decide_eq_true_eq] at hp
      exact hp
    exact H6.lLands hm hf hp hw
theorem lifted (os : Os) (started : os.Started) (H : Type) (enc : TypeId × Value → H) :
    ReturnsInHanded {} Try.checked os 7 .any (Rows.frameLandsSpec.pre6 enc Try.prog Try.f7 Rows.frameLandsRow.domain false) (Rows.frameLandsSpec.post enc Try.prog Try.f7 false true false false) := by
  refine returnsInHanded_of_change (C := Try.checked) own started (by kernel_rfl) Try.func7
    (ChangeSpec.witness6 (enc := enc) (C := Try.checked) false ⟨#[], #[.agg #[.slice Option.none 0 0], .agg #[.int .i64 0, .int .i64 0, .int .i64 0, .slice Option.none 0 0, .int .u16 0], .int .u8 0, .int .u16 0], []⟩ 8 (by kernel_rfl) (by kernel_rfl) (by kernel_rfl) (by kernel_rfl)) ?_
  intro W base args ds gs before hval hW hcnd _
  exact law_core (A := Go.Ab.H6.prog) Go.Ab.H6.ok trivial (fid := 7) rfl (f := Try.f7) laid plain (by kernel_rfl) Try.underlying4 rfl (fun ds hl => by
    have hl : ds.length = 4 := hl.trans (by rw [Try.params7]; rfl)
    match ds, hl with
    | [_, _, _, _], _ => rfl) core hval hW

theorem over : Rows.frameLandsRow.holds Try.pinned (OpenSpec.ofChange Rows.frameLandsSpec) :=
  OpenClaim.holds_of_wide 7 Try.f7 rfl rfl rfl rfl rfl rfl rfl ⟨rfl, rfl, rfl, rfl, rfl⟩ rfl rfl rfl rfl rfl (by kernel_rfl) Try.func7 (by kernel_rfl)
    (of_decide_eq_true (by kernel_rfl)) (by unfold Func.isWrapper; first | (rw [if_pos (by decide +kernel)]; kernel_rfl) | (rw [if_neg (by decide +kernel)]; exact ⟨rfl, rfl⟩))
    (fun os started H enc _ => lifted os started H enc)
end Go.Proofs.Ytpoidnkgadhdmaa.frameLands
namespace Go.Proofs.Ytpoidnkgadhdmaa
/-- The statement. -/
theorem frameLands_holds : Rows.FrameLandsSaid := frameLands.over
#print axioms frameLands_holds
end Go.Proofs.Ytpoidnkgadhdmaa

/-
  For every module and every two numbers the law ShapeNames of layer 2 answers true (a module that may be names nothing that is not there), and its arguments stay as they were.
  Conditions: none beyond the given row's own.
-/
import Derived.Test.YtbjomheepodapaaF9
import Derived.Test.YtbjomheepodapaaS2Ty
import Derived.Test.YtbjomheepodapaaRows
import Derived.WalkKit
import Derived.ProofKit
import Derived.OpenShut
namespace Go.Proofs.Ytbjomheepodapaa.shapeNames
open Go Go.Ab Go.ChangeShapes Go.WideShapes Go.ChangeAt Go.RowKit
set_option linter.unusedVariables false
set_option maxRecDepth 100000
theorem own : ownKnob Try.prog.godebug = none := by kernel_rfl
theorem laid : laidOutB Try.prog = true := by kernel_rfl
theorem plain : ∀ t ∈ Try.f5.params.toList, plainTy Try.prog 24 t = true ∧ Try.prog.readableRec t = true ∧ t < Try.prog.types.size := by
  intro t ht
  rw [Try.params5] at ht
  simp only [List.mem_cons, List.mem_nil_iff, or_false] at ht
  rcases ht with rfl | rfl | rfl <;> exact ⟨by kernel_rfl, by kernel_rfl, by decide +kernel⟩
theorem core : ∀ xs, ValsTy Try.prog Try.f5.params.toList xs → ∃ n, acall S2.prog n 5 xs = some (.lit (.bool true)) := by
  intro xs h
  rw [Try.params5] at h
  match xs, h with
  | [x, y, z], ⟨hx, hy, hz, _⟩ =>
    obtain ⟨cs, m, rfl, hm⟩ := S2.v_mod hx
    obtain ⟨a, rfl, ha⟩ := S2.v_word hy
    obtain ⟨u, rfl, _⟩ := S2.v_byte hz
    obtain ⟨n, rfl⟩ := Int.eq_ofNat_of_zero_le ha.1
    exact S2.r5 hm (by have := ha.2; omega)
theorem lifted (os : Os) (started : os.Started) (H : Type) (enc : TypeId × Value → H) :
    ReturnsInHanded {} Try.checked os 5 .any (Rows.shapeNamesSpec.pre6 enc Try.prog Try.f5 Rows.shapeNamesRow.domain false) (Rows.shapeNamesSpec.post enc Try.prog Try.f5 false true false false) := by
  refine returnsInHanded_of_change (C := Try.checked) own started (by kernel_rfl) Try.func5
    (ChangeSpec.witness6 (enc := enc) (C := Try.checked) false ⟨#[], #[.agg #[.slice Option.none 0 0], .int .u16 0, .int .u8 0], []⟩ 8 (by kernel_rfl) (by kernel_rfl) (by kernel_rfl) (by kernel_rfl)) ?_
  intro W base args ds gs before hval hW hcnd _
  exact law_core (A := Go.Ab.S2.prog) Go.Ab.S2.ok (f := Try.f5) laid plain (by kernel_rfl) Try.underlying4 rfl (fun ds hl => by
    have hl : ds.length = 3 := hl.trans (by rw [Try.params5]; rfl)
    match ds, hl with
    | [_, _, _], _ => rfl) core hval hW

theorem over : Rows.shapeNamesRow.holds Try.pinned (OpenSpec.ofChange Rows.shapeNamesSpec) :=
  OpenClaim.holds_of_wide 5 Try.f5 rfl rfl rfl rfl rfl rfl rfl ⟨rfl, rfl, rfl, rfl, rfl⟩ rfl rfl rfl rfl rfl (by kernel_rfl) Try.func5 (by kernel_rfl)
    (of_decide_eq_true (by kernel_rfl)) (by unfold Func.isWrapper; first | (rw [if_pos (by decide +kernel)]; kernel_rfl) | (rw [if_neg (by decide +kernel)]; exact ⟨rfl, rfl⟩))
    (fun os started H enc _ => lifted os started H enc)
end Go.Proofs.Ytbjomheepodapaa.shapeNames
namespace Go.Proofs.Ytbjomheepodapaa
/-- The statement. -/
theorem shapeNames_holds : Rows.ShapeNamesSaid := shapeNames.over
#print axioms shapeNames_holds
end Go.Proofs.Ytbjomheepodapaa

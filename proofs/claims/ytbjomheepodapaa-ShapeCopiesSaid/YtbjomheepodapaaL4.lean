/-
  For any two modules and any number the law ShapeCopies of layer 2 answers true (a copy is the same, and what is done to it is not done to what it was made of), and its arguments stay as they were.
  Conditions: none beyond the given row's own.
-/
import Derived.Test.YtbjomheepodapaaF10
import Derived.Test.YtbjomheepodapaaS2Ty
import Derived.Test.YtbjomheepodapaaRows
import Derived.WalkKit
import Derived.ProofKit
import Derived.OpenShut
namespace Go.Proofs.Ytbjomheepodapaa.shapeCopies
open Go Go.Ab Go.ChangeShapes Go.WideShapes Go.ChangeAt Go.RowKit
set_option linter.unusedVariables false
set_option maxRecDepth 100000
theorem own : ownKnob Try.prog.godebug = none := by kernel_rfl
theorem laid : laidOutB Try.prog = true := by kernel_rfl
theorem plain : ∀ t ∈ Try.f4.params.toList, plainTy Try.prog 24 t = true ∧ Try.prog.readableRec t = true ∧ t < Try.prog.types.size := by
  intro t ht
  rw [Try.params4] at ht
  simp only [List.mem_cons, List.mem_nil_iff, or_false] at ht
  rcases ht with rfl | rfl | rfl <;> exact ⟨by kernel_rfl, by kernel_rfl, by decide +kernel⟩
theorem core : ∀ xs, ValsTy Try.prog Try.f4.params.toList xs → ∃ n, acall S2.prog n 4 xs = some (.lit (.bool true)) := by
  intro xs h
  rw [Try.params4] at h
  match xs, h with
  | [x, y, z], ⟨hx, hy, hz, _⟩ =>
    obtain ⟨cs, m, rfl, hm⟩ := S2.v_mod hx
    obtain ⟨cs2, m2, rfl, hm2⟩ := S2.v_mod hy
    obtain ⟨a, rfl, ha⟩ := S2.v_word hz
    obtain ⟨n, rfl⟩ := Int.eq_ofNat_of_zero_le ha.1
    exact S2.r4 hm hm2 (by have := ha.2; omega)
theorem lifted (os : Os) (started : os.Started) (H : Type) (enc : TypeId × Value → H) :
    ReturnsInHanded {} Try.checked os 4 .any (Rows.shapeCopiesSpec.pre6 enc Try.prog Try.f4 Rows.shapeCopiesRow.domain false) (Rows.shapeCopiesSpec.post enc Try.prog Try.f4 false true false false) := by
  refine returnsInHanded_of_change (C := Try.checked) own started (by kernel_rfl) Try.func4
    (ChangeSpec.witness6 (enc := enc) (C := Try.checked) false ⟨#[], #[.agg #[.slice Option.none 0 0], .agg #[.slice Option.none 0 0], .int .u16 0], []⟩ 8 (by kernel_rfl) (by kernel_rfl) (by kernel_rfl) (by kernel_rfl)) ?_
  intro W base args ds gs before hval hW hcnd _
  exact law_core (A := Go.Ab.S2.prog) Go.Ab.S2.ok (f := Try.f4) laid plain (by kernel_rfl) Try.underlying4 rfl (fun ds hl => by
    have hl : ds.length = 3 := hl.trans (by rw [Try.params4]; rfl)
    match ds, hl with
    | [_, _, _], _ => rfl) core hval hW

theorem over : Rows.shapeCopiesRow.holds Try.pinned (OpenSpec.ofChange Rows.shapeCopiesSpec) :=
  OpenClaim.holds_of_wide 4 Try.f4 rfl rfl rfl rfl rfl rfl rfl ⟨rfl, rfl, rfl, rfl, rfl⟩ rfl rfl rfl rfl rfl (by kernel_rfl) Try.func4 (by kernel_rfl)
    (of_decide_eq_true (by kernel_rfl)) (by unfold Func.isWrapper; first | (rw [if_pos (by decide +kernel)]; kernel_rfl) | (rw [if_neg (by decide +kernel)]; exact ⟨rfl, rfl⟩))
    (fun os started H enc _ => lifted os started H enc)
end Go.Proofs.Ytbjomheepodapaa.shapeCopies
namespace Go.Proofs.Ytbjomheepodapaa
/-- The statement. -/
theorem shapeCopies_holds : Rows.ShapeCopiesSaid := shapeCopies.over
#print axioms shapeCopies_holds
end Go.Proofs.Ytbjomheepodapaa

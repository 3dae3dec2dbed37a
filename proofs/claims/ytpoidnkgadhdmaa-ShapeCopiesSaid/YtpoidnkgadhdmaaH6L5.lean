/-
  For any two modules and any number the law ShapeCopies of layer 2 answers true (a copy is the same, and what is done to it is not done to what it was made of), and its arguments stay as they were.
  Conditions: none beyond the given row's own.
-/
import Derived.Test.YtpoidnkgadhdmaaH6F10
import Derived.Test.YtpoidnkgadhdmaaH6Ty
import Derived.Test.YtpoidnkgadhdmaaRows
import Derived.WalkKit
import Derived.ProofKit
import Derived.OpenShut
namespace Go.Proofs.Ytpoidnkgadhdmaa.shapeCopies
open Go Go.Ab Go.ChangeShapes Go.WideShapes Go.ChangeAt Go.RowKit
set_option linter.unusedVariables false
set_option maxRecDepth 100000
theorem own : ownKnob Try.prog.godebug = none := by kernel_rfl
theorem laid : laidOutB Try.prog = true := by kernel_rfl
theorem plain : ∀ t ∈ Try.f3.params.toList, plainTy Try.prog 24 t = true ∧ Try.prog.readableRec t = true ∧ t < Try.prog.types.size := by
  intro t ht
  rw [Try.params3] at ht
  simp only [List.mem_cons, List.mem_nil_iff, or_false] at ht
  rcases ht with rfl | rfl | rfl <;> exact ⟨by kernel_rfl, by kernel_rfl, by decide +kernel⟩
theorem core : ∀ xs, ValsTy Try.prog Try.f3.params.toList xs → ∃ n, acall H6.prog n 3 xs = some (.lit (.bool true)) := by
  intro xs h
  rw [Try.params3] at h
  match xs, h with
  | [x, y, z], ⟨hx, hy, hz, _⟩ =>
    obtain ⟨cs, m, rfl, hm⟩ := H6.v_mod hx
    obtain ⟨cs2, m2, rfl, hm2⟩ := H6.v_mod hy
    obtain ⟨a, rfl, ha⟩ := H6.v_word hz
    obtain ⟨n, rfl⟩ := Int.eq_ofNat_of_zero_le ha.1
    exact H6.r4 hm hm2 (by have := ha.2; omega)
theorem lifted (os : Os) (started : os.Started) (H : Type) (enc : TypeId × Value → H) :
    ReturnsInHanded {} Try.checked os 3 .any (Rows.shapeCopiesSpec.pre6 enc Try.prog Try.f3 Rows.shapeCopiesRow.domain false) (Rows.shapeCopiesSpec.post enc Try.prog Try.f3 false true false false) := by
  refine returnsInHanded_of_change (C := Try.checked) own started (by kernel_rfl) Try.func3
    (ChangeSpec.witness6 (enc := enc) (C := Try.checked) false ⟨#[], #[.agg #[.slice Option.none 0 0], .agg #[.slice Option.none 0 0], .int .u16 0], []⟩ 8 (by kernel_rfl) (by kernel_rfl) (by kernel_rfl) (by kernel_rfl)) ?_
  intro W base args ds gs before hval hW hcnd _
  exact law_core (A := Go.Ab.H6.prog) Go.Ab.H6.ok trivial (fid := 3) rfl (f := Try.f3) laid plain (by kernel_rfl) Try.underlying4 rfl (fun ds hl => by
    have hl : ds.length = 3 := hl.trans (by rw [Try.params3]; rfl)
    match ds, hl with
    | [_, _, _], _ => rfl) core hval hW

theorem over : Rows.shapeCopiesRow.holds Try.pinned (OpenSpec.ofChange Rows.shapeCopiesSpec) :=
  OpenClaim.holds_of_wide 3 Try.f3 rfl rfl rfl rfl rfl rfl rfl ⟨rfl, rfl, rfl, rfl, rfl⟩ rfl rfl rfl rfl rfl (by kernel_rfl) Try.func3 (by kernel_rfl)
    (of_decide_eq_true (by kernel_rfl)) (by unfold Func.isWrapper; first | (rw [if_pos (by decide +kernel)]; kernel_rfl) | (rw [if_neg (by decide +kernel)]; exact ⟨rfl, rfl⟩))
    (fun os started H enc _ => lifted os started H enc)
end Go.Proofs.Ytpoidnkgadhdmaa.shapeCopies
namespace Go.Proofs.Ytpoidnkgadhdmaa
/-- The statement. -/
theorem shapeCopies_holds : Rows.ShapeCopiesSaid := shapeCopies.over
#print axioms shapeCopies_holds
end Go.Proofs.Ytpoidnkgadhdmaa

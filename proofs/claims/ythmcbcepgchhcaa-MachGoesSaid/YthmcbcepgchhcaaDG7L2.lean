/-
  For any module, any inputs and any two small numbers of steps the law MachGoes of layer 6 answers true (what was told stays told, and only more is), and its arguments stay as they were.
  Conditions: none beyond the given row's own.
-/
import Derived.Test.YthmcbcepgchhcaaDM2
import Derived.Test.YthmcbcepgchhcaaDG7Ty
import Derived.Test.YthmcbcepgchhcaaRows
import Derived.WalkKit
import Derived.ProofKit
import Derived.OpenShut
namespace Go.Proofs.Ythmcbcepgchhcaa.machGoes
open Go Go.Ab Go.ChangeShapes Go.WideShapes Go.ChangeAt Go.RowKit
set_option linter.unusedVariables false
set_option maxRecDepth 100000
theorem own : ownKnob Try.prog.godebug = none := by kernel_rfl
theorem laid : laidOutB Try.prog = true := by kernel_rfl
theorem plain : ∀ t ∈ Try.f4.params.toList, plainTy Try.prog 24 t = true ∧ Try.prog.readableRec t = true ∧ t < Try.prog.types.size := by
 intro t ht
 rw [Try.params4] at ht
 simp only [List.mem_cons, List.mem_nil_iff, or_false] at ht
 rcases ht with rfl | rfl | rfl | rfl <;> exact ⟨by kernel_rfl, by kernel_rfl, by decide +kernel⟩
theorem core : ∀ xs, ValsTy Try.prog Try.f4.params.toList xs → ∃ n, acall G7.prog n 4 xs = some (.lit (.bool true)) := by
 intro xs h
 rw [Try.params4] at h
 match xs, h with
 | [x1, x2, x3, x4], ⟨h1, h2, h3, h4, _⟩ =>
  obtain ⟨e1, m, rfl, hm⟩ := G7.v_mod h1
  obtain ⟨l, hx⟩ := G7.v_words h2
  obtain ⟨p, rfl, hp⟩ := G7.v_byte h3
  obtain ⟨q, rfl, hq⟩ := G7.v_byte h4
  simp only [Lit.wf, Bool.and_eq_true, decide_eq_true_eq] at hp hq
  exact G7.lGoes hm hx hp hq
theorem lifted (os : Os) (started : os.Started) (H : Type) (enc : TypeId × Value → H) :
  ReturnsInHanded {} Try.checked os 4 .any (Rows.machGoesSpec.pre6 enc Try.prog Try.f4 Rows.machGoesRow.domain false) (Rows.machGoesSpec.post enc Try.prog Try.f4 false true false false) := by
 refine returnsInHanded_of_change (C := Try.checked) own started (by kernel_rfl) Try.func4
  (ChangeSpec.witness6 (enc := enc) (C := Try.checked) false ⟨#[], #[.agg #[.slice Option.none 0 0], .slice Option.none 0 0, .int .u8 0, .int .u8 0], []⟩ 8 (by kernel_rfl) (by kernel_rfl) (by kernel_rfl) (by kernel_rfl)) ?_
 intro W base args ds gs before hval hW hcnd _
 exact law_core (A := Go.Ab.G7.prog) Go.Ab.G7.ok trivial (fid := 4) rfl (f := Try.f4) laid plain (by kernel_rfl) Try.underlying4 rfl (fun ds hl => by
  have hl : ds.length = 4 := hl.trans (by rw [Try.params4]; rfl)
  match ds, hl with
  | [_, _, _, _], _ => rfl) core hval hW
theorem over : Rows.machGoesRow.holds Try.pinned (OpenSpec.ofChange Rows.machGoesSpec) :=
 OpenClaim.holds_of_wide 4 Try.f4 rfl rfl rfl rfl rfl rfl rfl ⟨rfl, rfl, rfl, rfl, rfl⟩ rfl rfl rfl rfl rfl (by kernel_rfl) Try.func4 (by kernel_rfl)
  (of_decide_eq_true (by kernel_rfl)) (by unfold Func.isWrapper; first | (rw [if_pos (by decide +kernel)]; kernel_rfl) | (rw [if_neg (by decide +kernel)]; exact ⟨rfl, rfl⟩))
  (fun os started H enc _ => lifted os started H enc)
end Go.Proofs.Ythmcbcepgchhcaa.machGoes
namespace Go.Proofs.Ythmcbcepgchhcaa
theorem machGoes_holds : Rows.MachGoesSaid := machGoes.over
#print axioms machGoes_holds
end Go.Proofs.Ythmcbcepgchhcaa

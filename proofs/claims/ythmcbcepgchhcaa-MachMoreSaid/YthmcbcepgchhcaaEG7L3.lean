/-
  For any module, any inputs, any more inputs and any small number of steps the law MachMore of layer 6 answers true (with more to be told a machine does the same), and its arguments stay as they were.
  Conditions: none beyond the given row's own.
-/
import Derived.Test.YthmcbcepgchhcaaEM2
import Derived.Test.YthmcbcepgchhcaaEG7Ty
import Derived.Test.YthmcbcepgchhcaaRows
import Derived.WalkKit
import Derived.ProofKit
import Derived.OpenShut
namespace Go.Proofs.Ythmcbcepgchhcaa.machMore
open Go Go.Ab Go.ChangeShapes Go.WideShapes Go.ChangeAt Go.RowKit
set_option linter.unusedVariables false
set_option maxRecDepth 100000
theorem own : ownKnob Try.prog.godebug = none := by kernel_rfl
theorem laid : laidOutB Try.prog = true := by kernel_rfl
theorem plain : ∀ t ∈ Try.f5.params.toList, plainTy Try.prog 24 t = true ∧ Try.prog.readableRec t = true ∧ t < Try.prog.types.size := by
 intro t ht
 rw [Try.params5] at ht
 simp only [List.mem_cons, List.mem_nil_iff, or_false] at ht
 rcases ht with rfl | rfl | rfl | rfl <;> exact ⟨by kernel_rfl, by kernel_rfl, by decide +kernel⟩
theorem core : ∀ xs, ValsTy Try.prog Try.f5.params.toList xs → ∃ n, acall G7.prog n 5 xs = some (.lit (.bool true)) := by
 intro xs h
 rw [Try.params5] at h
 match xs, h with
 | [x1, x2, x3, x4], ⟨h1, h2, h3, h4, _⟩ =>
  obtain ⟨e1, m, rfl, hm⟩ := G7.v_mod h1
  obtain ⟨l, hx⟩ := G7.v_words h2
  obtain ⟨k, hz⟩ := G7.v_words h3
  obtain ⟨p, rfl, hp⟩ := G7.v_byte h4
  simp only [Lit.wf, Bool.and_eq_true, decide_eq_true_eq] at hp
  exact G7.lMore hm hx hz hp
theorem lifted (os : Os) (started : os.Started) (H : Type) (enc : TypeId × Value → H) :
  ReturnsInHanded {} Try.checked os 5 .any (Rows.machMoreSpec.pre6 enc Try.prog Try.f5 Rows.machMoreRow.domain false) (Rows.machMoreSpec.post enc Try.prog Try.f5 false true false false) := by
 refine returnsInHanded_of_change (C := Try.checked) own started (by kernel_rfl) Try.func5
  (ChangeSpec.witness6 (enc := enc) (C := Try.checked) false ⟨#[], #[.agg #[.slice Option.none 0 0], .slice Option.none 0 0, .slice Option.none 0 0, .int .u8 0], []⟩ 8 (by kernel_rfl) (by kernel_rfl) (by kernel_rfl) (by kernel_rfl)) ?_
 intro W base args ds gs before hval hW hcnd _
 exact law_core (A := Go.Ab.G7.prog) Go.Ab.G7.ok trivial (fid := 5) rfl (f := Try.f5) laid plain (by kernel_rfl) Try.underlying4 rfl (fun ds hl => by
  have hl : ds.length = 4 := hl.trans (by rw [Try.params5]; rfl)
  match ds, hl with
  | [_, _, _, _], _ => rfl) core hval hW
theorem over : Rows.machMoreRow.holds Try.pinned (OpenSpec.ofChange Rows.machMoreSpec) :=
 OpenClaim.holds_of_wide 5 Try.f5 rfl rfl rfl rfl rfl rfl rfl ⟨rfl, rfl, rfl, rfl, rfl⟩ rfl rfl rfl rfl rfl (by kernel_rfl) Try.func5 (by kernel_rfl)
  (of_decide_eq_true (by kernel_rfl)) (by unfold Func.isWrapper; first | (rw [if_pos (by decide +kernel)]; kernel_rfl) | (rw [if_neg (by decide +kernel)]; exact ⟨rfl, rfl⟩))
  (fun os started H enc _ => lifted os started H enc)
end Go.Proofs.Ythmcbcepgchhcaa.machMore
namespace Go.Proofs.Ythmcbcepgchhcaa
theorem machMore_holds : Rows.MachMoreSaid := machMore.over
#print axioms machMore_holds
end Go.Proofs.Ythmcbcepgchhcaa

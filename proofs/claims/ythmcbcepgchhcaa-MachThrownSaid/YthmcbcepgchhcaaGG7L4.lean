/-
  For any module, any inputs and any small number of steps the law MachThrown of layer 6 answers true (what is thrown ends a run or lands, and no frame below is changed), and its arguments stay as they were.
  Conditions: none beyond the given row's own.
-/
import Derived.Test.YthmcbcepgchhcaaGM1
import Derived.Test.YthmcbcepgchhcaaGG7Ty
import Derived.Test.YthmcbcepgchhcaaRows
import Derived.WalkKit
import Derived.ProofKit
import Derived.OpenShut
namespace Go.Proofs.Ythmcbcepgchhcaa.machThrown
open Go Go.Ab Go.ChangeShapes Go.WideShapes Go.ChangeAt Go.RowKit
set_option linter.unusedVariables false
set_option maxRecDepth 100000
theorem own : ownKnob Try.prog.godebug = none := by kernel_rfl
theorem laid : laidOutB Try.prog = true := by kernel_rfl
theorem plain : ∀ t ∈ Try.f6.params.toList, plainTy Try.prog 24 t = true ∧ Try.prog.readableRec t = true ∧ t < Try.prog.types.size := by
 intro t ht
 rw [Try.params6] at ht
 simp only [List.mem_cons, List.mem_nil_iff, or_false] at ht
 rcases ht with rfl | rfl | rfl <;> exact ⟨by kernel_rfl, by kernel_rfl, by decide +kernel⟩
theorem core : ∀ xs, ValsTy Try.prog Try.f6.params.toList xs → ∃ n, acall G7.prog n 6 xs = some (.lit (.bool true)) := by
 intro xs h
 rw [Try.params6] at h
 match xs, h with
 | [x1, x2, x3], ⟨h1, h2, h3, _⟩ =>
  obtain ⟨e1, m, rfl, hm⟩ := G7.v_mod h1
  obtain ⟨l, hx⟩ := G7.v_words h2
  obtain ⟨p, rfl, hp⟩ := G7.v_byte h3
  simp only [Lit.wf, Bool.and_eq_true, decide_eq_true_eq] at hp
  exact G7.lThrown hm hx hp
theorem lifted (os : Os) (started : os.Started) (H : Type) (enc : TypeId × Value → H) :
  ReturnsInHanded {} Try.checked os 6 .any (Rows.machThrownSpec.pre6 enc Try.prog Try.f6 Rows.machThrownRow.domain false) (Rows.machThrownSpec.post enc Try.prog Try.f6 false true false false) := by
 refine returnsInHanded_of_change (C := Try.checked) own started (by kernel_rfl) Try.func6
  (ChangeSpec.witness6 (enc := enc) (C := Try.checked) false ⟨#[], #[.agg #[.slice Option.none 0 0], .slice Option.none 0 0, .int .u8 0], []⟩ 8 (by kernel_rfl) (by kernel_rfl) (by kernel_rfl) (by kernel_rfl)) ?_
 intro W base args ds gs before hval hW hcnd _
 exact law_core (A := Go.Ab.G7.prog) Go.Ab.G7.ok trivial (fid := 6) rfl (f := Try.f6) laid plain (by kernel_rfl) Try.underlying4 rfl (fun ds hl => by
  have hl : ds.length = 3 := hl.trans (by rw [Try.params6]; rfl)
  match ds, hl with
  | [_, _, _], _ => rfl) core hval hW
theorem over : Rows.machThrownRow.holds Try.pinned (OpenSpec.ofChange Rows.machThrownSpec) :=
 OpenClaim.holds_of_wide 6 Try.f6 rfl rfl rfl rfl rfl rfl rfl ⟨rfl, rfl, rfl, rfl, rfl⟩ rfl rfl rfl rfl rfl (by kernel_rfl) Try.func6 (by kernel_rfl)
  (of_decide_eq_true (by kernel_rfl)) (by unfold Func.isWrapper; first | (rw [if_pos (by decide +kernel)]; kernel_rfl) | (rw [if_neg (by decide +kernel)]; exact ⟨rfl, rfl⟩))
  (fun os started H enc _ => lifted os started H enc)
end Go.Proofs.Ythmcbcepgchhcaa.machThrown
namespace Go.Proofs.Ythmcbcepgchhcaa
theorem machThrown_holds : Rows.MachThrownSaid := machThrown.over
#print axioms machThrown_holds
end Go.Proofs.Ythmcbcepgchhcaa

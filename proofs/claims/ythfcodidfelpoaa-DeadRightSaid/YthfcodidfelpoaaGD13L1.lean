/-
  For any module and any function the law DeadRight of layer 13 answers true (either one,cleared,is what the document says),and its arguments stay asz they were
  Conditions: none beyond the given row's own.
-/
import Derived.Test.YthfcodidfelpoaaGM1
import Derived.Test.YthfcodidfelpoaaGD13Ty
import Derived.Test.YthfcodidfelpoaaRows
import Derived.WalkKit
import Derived.ProofKit
import Derived.OpenShut
set_option linter.all false
namespace Go.Proofs.Ythfcodidfelpoaa.deadRight
open Go Go.Ab Go.ChangeShapes Go.WideShapes Go.ChangeAt Go.RowKit
set_option maxRecDepth 100000
theorem own:ownKnob Try.prog.godebug=none:=by kernel_rfl
theorem laid:laidOutB Try.prog=true:=by kernel_rfl
theorem plain:∀ t ∈ Try.f3.params.toList,cV Try.prog 24 t=true/\Try.prog.readableRec t=true/\t < Try.prog.types.size:=by
 intro t ht
 rw [Try.params3] at ht
 simp only [List.mem_cons,List.mem_nil_iff,or_false] at ht
 rcases ht with rfl | rfl <;> exact ⟨by kernel_rfl,by kernel_rfl,by decide +kernel⟩
theorem core:∀ xs,vh Try.prog Try.f3.params.toList xs->∃ n,acall D13.prog n 3 xs=some (.lit (.bool true)):=by
 intro xs h
 rw [Try.params3] at h
 match xs,h with
 | [x1,x2],⟨h1,h2,_⟩ =>
  obtain ⟨e1,d1,rfl,g1⟩:=D13.v_mod h1
  obtain ⟨e2,d2,rfl,g2⟩:=D13.v_func h2
  exact D13.rDeadRight g1 g2
theorem lifted (os:Os) (started:os.Started) (H:Type) (enc:TypeId × Value->H) :
  ReturnsInHanded {} Try.checked os 3 .any (Rows.deadRightSpec.pre6 enc Try.prog Try.f3 Rows.deadRightRow.domain false) (Rows.deadRightSpec.post enc Try.prog Try.f3 false true false false):=by
 refine returnsInHanded_of_change (C:=Try.checked) own started (by kernel_rfl) Try.func3
  (ChangeSpec.witness6 (enc:=enc) (C:=Try.checked) false ⟨#[],#[.agg #[.slice Option.none 0 0],.agg #[.int .i64 0,.int .i64 0,.slice Option.none 0 0]],[]⟩ 8 (by kernel_rfl) (by kernel_rfl) (by kernel_rfl) (by kernel_rfl)) ?_
 intro W base args ds gs before hval hW hcnd _
 exact Ci (A:=Go.Ab.D13.prog) Go.Ab.D13.ok trivial (fid:=3) rfl (f:=Try.f3) laid plain (by kernel_rfl) Try.underlying4 rfl (fun ds hl=>by
  have hl:ds.length=2:=hl.trans (by rw [Try.params3]; rfl)
  match ds,hl with
  | [_,_],_=>rfl) core hval hW
theorem over:Rows.deadRightRow.holds Try.pinned (OpenSpec.ofChange Rows.deadRightSpec) :=
 OpenClaim.holds_of_wide 3 Try.f3 rfl rfl rfl rfl rfl rfl rfl ⟨rfl,rfl,rfl,rfl,rfl⟩ rfl rfl rfl rfl rfl (by kernel_rfl) Try.func3 (by kernel_rfl)
  (of_decide_eq_true (by kernel_rfl)) (by unfold Func.isWrapper; first | (rw [if_pos (by decide +kernel)]; kernel_rfl) | (rw [if_neg (by decide +kernel)]; exact ⟨rfl,rfl⟩))
  (fun os started H enc _=>lifted os started H enc)
end Go.Proofs.Ythfcodidfelpoaa.deadRight
namespace Go.Proofs.Ythfcodidfelpoaa
theorem deadRight_holds:Rows.DeadRightSaid:=deadRight.over
#print axioms deadRight_holds
end Go.Proofs.Ythfcodidfelpoaa

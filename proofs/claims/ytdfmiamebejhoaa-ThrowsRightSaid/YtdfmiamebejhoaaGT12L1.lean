/-
  For any module the law ThrowsRight of layer 12 answers true (out of which functions something may be thrown,which tell,and which write,is what the document says),and its argument stays asz it was.
  Conditions: none beyond the given row's own.
-/
import Derived.Test.YtdfmiamebejhoaaGM2
import Derived.Test.YtdfmiamebejhoaaGT12Ty
import Derived.Test.YtdfmiamebejhoaaRows
import Derived.WalkKit
import Derived.ProofKit
import Derived.OpenShut
set_option linter.all false
namespace Go.Proofs.Ytdfmiamebejhoaa.throwsRight
open Go Go.Ab Go.ChangeShapes Go.WideShapes Go.ChangeAt Go.RowKit
set_option maxRecDepth 100000
theorem own:ownKnob Try.prog.godebug=none:=by kernel_rfl
theorem laid:laidOutB Try.prog=true:=by kernel_rfl
theorem plain:∀ t ∈ Try.f3.params.toList,cL Try.prog 24 t=true∧Try.prog.readableRec t=true∧t < Try.prog.types.size:=by
 intro t ht
 rw [Try.params3] at ht
 simp only [List.mem_cons,List.mem_nil_iff,or_false] at ht
 subst ht; exact ⟨by kernel_rfl,by kernel_rfl,by decide +kernel⟩
theorem core:∀ xs,uP Try.prog Try.f3.params.toList xs→∃ n,acall T12.prog n 3 xs=some (.lit (.bool true)):=by
 intro xs h
 rw [Try.params3] at h
 match xs,h with
 | [x1],⟨h1,_⟩ =>
  obtain ⟨e1,d1,rfl,g1⟩:=T12.v_mod h1
  exact T12.rThrowsRight g1
theorem lifted (os:Os) (started:os.Started) (H:Type) (enc:TypeId × Value→H) :
  ReturnsInHanded {} Try.checked os 3 .any (Rows.throwsRightSpec.pre6 enc Try.prog Try.f3 Rows.throwsRightRow.domain false) (Rows.throwsRightSpec.post enc Try.prog Try.f3 false true false false):=by
 refine returnsInHanded_of_change (C:=Try.checked) own started (by kernel_rfl) Try.func3
  (ChangeSpec.witness6 (enc:=enc) (C:=Try.checked) false ⟨#[],#[.agg #[.slice Option.none 0 0]],[]⟩ 8 (by kernel_rfl) (by kernel_rfl) (by kernel_rfl) (by kernel_rfl)) ?_
 intro W base args ds gs before hval hW hcnd _
 exact Aj (A:=Go.Ab.T12.prog) Go.Ab.T12.ok trivial (fid:=3) rfl (f:=Try.f3) laid plain (by kernel_rfl) Try.underlying4 rfl (fun ds hl=>by
  have hl:ds.length=1:=hl.trans (by rw [Try.params3]; rfl)
  match ds,hl with
  | [_],_=>rfl) core hval hW
theorem over:Rows.throwsRightRow.holds Try.pinned (OpenSpec.ofChange Rows.throwsRightSpec) :=
 OpenClaim.holds_of_wide 3 Try.f3 rfl rfl rfl rfl rfl rfl rfl ⟨rfl,rfl,rfl,rfl,rfl⟩ rfl rfl rfl rfl rfl (by kernel_rfl) Try.func3 (by kernel_rfl)
  (of_decide_eq_true (by kernel_rfl)) (by unfold Func.isWrapper; first | (rw [if_pos (by decide +kernel)]; kernel_rfl) | (rw [if_neg (by decide +kernel)]; exact ⟨rfl,rfl⟩))
  (fun os started H enc _=>lifted os started H enc)
end Go.Proofs.Ytdfmiamebejhoaa.throwsRight
namespace Go.Proofs.Ytdfmiamebejhoaa
theorem throwsRight_holds:Rows.ThrowsRightSaid:=throwsRight.over
#print axioms throwsRight_holds
end Go.Proofs.Ytdfmiamebejhoaa

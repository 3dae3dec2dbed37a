/-
  For any function the law LoopNests of layer 9 answers true (of two loops with a block in common one has the other one's head),and its argument stays as it was.
  Conditions: none beyond the given row's own.
-/
import Derived.Test.YtfegofaelmhnbaaNM3b
import Derived.Test.YtfegofaelmhnbaaNL9Ty
import Derived.Test.YtfegofaelmhnbaaRows
import Derived.WalkKit
import Derived.ProofKit
import Derived.OpenShut
namespace Go.Proofs.Ytfegofaelmhnbaa.loopNests
open Go Go.Ab Go.ChangeShapes Go.WideShapes Go.ChangeAt Go.RowKit
set_option linter.unusedVariables false
set_option maxRecDepth 100000
theorem own:ownKnob Try.prog.godebug=none:=by kernel_rfl
theorem laid:laidOutB Try.prog=true:=by kernel_rfl
theorem plain:∀ t ∈ Try.f5.params.toList,plainTy Try.prog 24 t=true∧Try.prog.readableRec t=true∧t < Try.prog.types.size:=by
 intro t ht
 rw [Try.params5] at ht
 simp only [List.mem_cons,List.mem_nil_iff,or_false] at ht
 subst ht; exact ⟨by kernel_rfl,by kernel_rfl,by decide +kernel⟩
theorem core:∀ xs,ValsTy Try.prog Try.f5.params.toList xs→∃ n,acall L9.prog n 5 xs=some (.lit (.bool true)):=by
 intro xs h
 rw [Try.params5] at h
 match xs,h with
 | [x1],⟨h1,_⟩ =>
  obtain ⟨e1,f,rfl,hf⟩:=L9.v_func h1
  exact L9.rLoopNests hf
theorem lifted (os:Os) (started:os.Started) (H:Type) (enc:TypeId × Value→H) :
  ReturnsInHanded {} Try.checked os 5 .any (Rows.loopNestsSpec.pre6 enc Try.prog Try.f5 Rows.loopNestsRow.domain false) (Rows.loopNestsSpec.post enc Try.prog Try.f5 false true false false):=by
 refine returnsInHanded_of_change (C:=Try.checked) own started (by kernel_rfl) Try.func5
  (ChangeSpec.witness6 (enc:=enc) (C:=Try.checked) false ⟨#[],#[.agg #[.int .i64 0,.int .i64 0,.slice Option.none 0 0]],[]⟩ 8 (by kernel_rfl) (by kernel_rfl) (by kernel_rfl) (by kernel_rfl)) ?_
 intro W base args ds gs before hval hW hcnd _
 exact law_core (A:=Go.Ab.L9.prog) Go.Ab.L9.ok trivial (fid:=5) rfl (f:=Try.f5) laid plain (by kernel_rfl) Try.underlying4 rfl (fun ds hl=>by
  have hl:ds.length=1:=hl.trans (by rw [Try.params5]; rfl)
  match ds,hl with
  | [_],_=>rfl) core hval hW
theorem over:Rows.loopNestsRow.holds Try.pinned (OpenSpec.ofChange Rows.loopNestsSpec) :=
 OpenClaim.holds_of_wide 5 Try.f5 rfl rfl rfl rfl rfl rfl rfl ⟨rfl,rfl,rfl,rfl,rfl⟩ rfl rfl rfl rfl rfl (by kernel_rfl) Try.func5 (by kernel_rfl)
  (of_decide_eq_true (by kernel_rfl)) (by unfold Func.isWrapper; first | (rw [if_pos (by decide +kernel)]; kernel_rfl) | (rw [if_neg (by decide +kernel)]; exact ⟨rfl,rfl⟩))
  (fun os started H enc _=>lifted os started H enc)
end Go.Proofs.Ytfegofaelmhnbaa.loopNests
namespace Go.Proofs.Ytfegofaelmhnbaa
theorem loopNests_holds:Rows.LoopNestsSaid:=loopNests.over
#print axioms loopNests_holds
end Go.Proofs.Ytfegofaelmhnbaa

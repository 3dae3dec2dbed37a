/-
  For any function and any block number the law FlowRight of layer 7 answers true (what is next,before,reached and in which order is what the document says),and its arguments stay as they were.
  Conditions: none beyond the given row's own.
-/
import Derived.Test.YthmcbcepgchhcaaBM1
import Derived.Test.YthmcbcepgchhcaaBU7Ty
import Derived.Test.YthmcbcepgchhcaaRows
import Derived.WalkKit
import Derived.ProofKit
import Derived.OpenShut
namespace Go.Proofs.Ythmcbcepgchhcaa.flowRight
open Go Go.Ab Go.ChangeShapes Go.WideShapes Go.ChangeAt Go.RowKit
set_option linter.unusedVariables false
set_option maxRecDepth 100000
theorem own:ownKnob Try.prog.godebug=none:=by kernel_rfl
theorem laid:laidOutB Try.prog=true:=by kernel_rfl
theorem plain:∀ t ∈ Try.f7.params.toList,plainTy Try.prog 24 t=true∧Try.prog.readableRec t=true∧t < Try.prog.types.size:=by
 intro t ht
 rw [Try.params7] at ht
 simp only [List.mem_cons,List.mem_nil_iff,or_false] at ht
 rcases ht with rfl | rfl <;> exact ⟨by kernel_rfl,by kernel_rfl,by decide +kernel⟩
theorem core:∀ xs,ValsTy Try.prog Try.f7.params.toList xs→∃ n,acall U7.prog n 7 xs=some (.lit (.bool true)):=by
 intro xs h
 rw [Try.params7] at h
 match xs,h with
 | [x1,x2],⟨h1,h2,_⟩ =>
  obtain ⟨e1,f,rfl,hf⟩:=U7.v_func h1
  obtain ⟨n,rfl,hn⟩:=U7.v_int h2
  exact U7.rFlowRight hf n
theorem lifted (os:Os) (started:os.Started) (H:Type) (enc:TypeId × Value→H) :
  ReturnsInHanded {} Try.checked os 7 .any (Rows.flowRightSpec.pre6 enc Try.prog Try.f7 Rows.flowRightRow.domain false) (Rows.flowRightSpec.post enc Try.prog Try.f7 false true false false):=by
 refine returnsInHanded_of_change (C:=Try.checked) own started (by kernel_rfl) Try.func7
  (ChangeSpec.witness6 (enc:=enc) (C:=Try.checked) false ⟨#[],#[.agg #[.int .i64 0,.int .i64 0,.slice Option.none 0 0],.int .i64 0],[]⟩ 8 (by kernel_rfl) (by kernel_rfl) (by kernel_rfl) (by kernel_rfl)) ?_
 intro W base args ds gs before hval hW hcnd _
 exact law_core (A:=Go.Ab.U7.prog) Go.Ab.U7.ok trivial (fid:=7) rfl (f:=Try.f7) laid plain (by kernel_rfl) Try.underlying4 rfl (fun ds hl=>by
  have hl:ds.length=2:=hl.trans (by rw [Try.params7]; rfl)
  match ds,hl with
  | [_,_],_=>rfl) core hval hW
theorem over:Rows.flowRightRow.holds Try.pinned (OpenSpec.ofChange Rows.flowRightSpec) :=
 OpenClaim.holds_of_wide 7 Try.f7 rfl rfl rfl rfl rfl rfl rfl ⟨rfl,rfl,rfl,rfl,rfl⟩ rfl rfl rfl rfl rfl (by kernel_rfl) Try.func7 (by kernel_rfl)
  (of_decide_eq_true (by kernel_rfl)) (by unfold Func.isWrapper; first | (rw [if_pos (by decide +kernel)]; kernel_rfl) | (rw [if_neg (by decide +kernel)]; exact ⟨rfl,rfl⟩))
  (fun os started H enc _=>lifted os started H enc)
end Go.Proofs.Ythmcbcepgchhcaa.flowRight
namespace Go.Proofs.Ythmcbcepgchhcaa
theorem flowRight_holds:Rows.FlowRightSaid:=flowRight.over
#print axioms flowRight_holds
end Go.Proofs.Ythmcbcepgchhcaa

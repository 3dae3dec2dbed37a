/-
  For any function the law FlowOrder of layer 7 answers true (each block that is reached stands in order once,and behind one that it is next to),and its argument stays as it was.
  Conditions: none beyond the given row's own.
-/
import Derived.Test.YthmcbcepgchhcaaCM1
import Derived.Test.YthmcbcepgchhcaaCU7Ty
import Derived.Test.YthmcbcepgchhcaaRows
import Derived.WalkKit
import Derived.ProofKit
import Derived.OpenShut
namespace Go.Proofs.Ythmcbcepgchhcaa.flowOrder
open Go Go.Ab Go.ChangeShapes Go.WideShapes Go.ChangeAt Go.RowKit
set_option linter.unusedVariables false
set_option maxRecDepth 100000
theorem own:ownKnob Try.prog.godebug=none:=by kernel_rfl
theorem laid:laidOutB Try.prog=true:=by kernel_rfl
theorem plain:∀ t ∈ Try.f8.params.toList,plainTy Try.prog 24 t=true∧Try.prog.readableRec t=true∧t < Try.prog.types.size:=by
 intro t ht
 rw [Try.params8] at ht
 simp only [List.mem_cons,List.mem_nil_iff,or_false] at ht
 subst ht; exact ⟨by kernel_rfl,by kernel_rfl,by decide +kernel⟩
theorem core:∀ xs,ValsTy Try.prog Try.f8.params.toList xs→∃ n,acall U7.prog n 8 xs=some (.lit (.bool true)):=by
 intro xs h
 rw [Try.params8] at h
 match xs,h with
 | [x1],⟨h1,_⟩ =>
  obtain ⟨e1,f,rfl,hf⟩:=U7.v_func h1
  exact U7.rFlowOrder hf
theorem lifted (os:Os) (started:os.Started) (H:Type) (enc:TypeId × Value→H) :
  ReturnsInHanded {} Try.checked os 8 .any (Rows.flowOrderSpec.pre6 enc Try.prog Try.f8 Rows.flowOrderRow.domain false) (Rows.flowOrderSpec.post enc Try.prog Try.f8 false true false false):=by
 refine returnsInHanded_of_change (C:=Try.checked) own started (by kernel_rfl) Try.func8
  (ChangeSpec.witness6 (enc:=enc) (C:=Try.checked) false ⟨#[],#[.agg #[.int .i64 0,.int .i64 0,.slice Option.none 0 0]],[]⟩ 8 (by kernel_rfl) (by kernel_rfl) (by kernel_rfl) (by kernel_rfl)) ?_
 intro W base args ds gs before hval hW hcnd _
 exact law_core (A:=Go.Ab.U7.prog) Go.Ab.U7.ok trivial (fid:=8) rfl (f:=Try.f8) laid plain (by kernel_rfl) Try.underlying4 rfl (fun ds hl=>by
  have hl:ds.length=1:=hl.trans (by rw [Try.params8]; rfl)
  match ds,hl with
  | [_],_=>rfl) core hval hW
theorem over:Rows.flowOrderRow.holds Try.pinned (OpenSpec.ofChange Rows.flowOrderSpec) :=
 OpenClaim.holds_of_wide 8 Try.f8 rfl rfl rfl rfl rfl rfl rfl ⟨rfl,rfl,rfl,rfl,rfl⟩ rfl rfl rfl rfl rfl (by kernel_rfl) Try.func8 (by kernel_rfl)
  (of_decide_eq_true (by kernel_rfl)) (by unfold Func.isWrapper; first | (rw [if_pos (by decide +kernel)]; kernel_rfl) | (rw [if_neg (by decide +kernel)]; exact ⟨rfl,rfl⟩))
  (fun os started H enc _=>lifted os started H enc)
end Go.Proofs.Ythmcbcepgchhcaa.flowOrder
namespace Go.Proofs.Ythmcbcepgchhcaa
theorem flowOrder_holds:Rows.FlowOrderSaid:=flowOrder.over
#print axioms flowOrder_holds
end Go.Proofs.Ythmcbcepgchhcaa

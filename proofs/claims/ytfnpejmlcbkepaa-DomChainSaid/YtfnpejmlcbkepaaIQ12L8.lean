/-
  For any function the law DomChain of layer 8 answers true (from each block that is reached those that stand next over one another lead to block 0,and are just those that stand over it),and its argument stays asz it was.
  Conditions: none beyond the given row's own.
-/
import Derived.Test.YtfnpejmlcbkepaaIM3b
import Derived.Test.YtfnpejmlcbkepaaIQ12Ty
import Derived.Test.YtfnpejmlcbkepaaRows
import Derived.WalkKit
import Derived.ProofKit
import Derived.OpenShut
set_option linter.all false
namespace Go.Proofs.Ytfnpejmlcbkepaa.domChain
open Go Go.Ab Go.ChangeShapes Go.WideShapes Go.ChangeAt Go.RowKit
set_option maxRecDepth 100000
theorem own:ownKnob Try.prog.godebug=none:=by kernel_rfl
theorem laid:laidOutB Try.prog=true:=by kernel_rfl
theorem plain:∀ t ∈ Try.f10.params.toList,cJ Try.prog 24 t=true∧Try.prog.readableRec t=true∧t < Try.prog.types.size:=by
 intro t ht
 rw [Try.params10] at ht
 simp only [List.mem_cons,List.mem_nil_iff,or_false] at ht
 subst ht; exact ⟨by kernel_rfl,by kernel_rfl,by decide +kernel⟩
theorem core:∀ xs,uO Try.prog Try.f10.params.toList xs→∃ n,acall Q12.prog n 10 xs=some (.lit (.bool true)):=by
 intro xs h
 rw [Try.params10] at h
 match xs,h with
 | [x1],⟨h1,_⟩ =>
  obtain ⟨e1,d1,rfl,g1⟩:=Q12.v_func h1
  exact Q12.rDomChain g1
theorem lifted (os:Os) (started:os.Started) (H:Type) (enc:TypeId × Value→H) :
  ReturnsInHanded {} Try.checked os 10 .any (Rows.domChainSpec.pre6 enc Try.prog Try.f10 Rows.domChainRow.domain false) (Rows.domChainSpec.post enc Try.prog Try.f10 false true false false):=by
 refine returnsInHanded_of_change (C:=Try.checked) own started (by kernel_rfl) Try.func10
  (ChangeSpec.witness6 (enc:=enc) (C:=Try.checked) false ⟨#[],#[.agg #[.int .i64 0,.int .i64 0,.slice Option.none 0 0]],[]⟩ 8 (by kernel_rfl) (by kernel_rfl) (by kernel_rfl) (by kernel_rfl)) ?_
 intro W base args ds gs before hval hW hcnd _
 exact BW (A:=Go.Ab.Q12.prog) Go.Ab.Q12.ok trivial (fid:=10) rfl (f:=Try.f10) laid plain (by kernel_rfl) Try.underlying4 rfl (fun ds hl=>by
  have hl:ds.length=1:=hl.trans (by rw [Try.params10]; rfl)
  match ds,hl with
  | [_],_=>rfl) core hval hW
theorem over:Rows.domChainRow.holds Try.pinned (OpenSpec.ofChange Rows.domChainSpec) :=
 OpenClaim.holds_of_wide 10 Try.f10 rfl rfl rfl rfl rfl rfl rfl ⟨rfl,rfl,rfl,rfl,rfl⟩ rfl rfl rfl rfl rfl (by kernel_rfl) Try.func10 (by kernel_rfl)
  (of_decide_eq_true (by kernel_rfl)) (by unfold Func.isWrapper; first | (rw [if_pos (by decide +kernel)]; kernel_rfl) | (rw [if_neg (by decide +kernel)]; exact ⟨rfl,rfl⟩))
  (fun os started H enc _=>lifted os started H enc)
end Go.Proofs.Ytfnpejmlcbkepaa.domChain
namespace Go.Proofs.Ytfnpejmlcbkepaa
theorem domChain_holds:Rows.DomChainSaid:=domChain.over
#print axioms domChain_holds
end Go.Proofs.Ytfnpejmlcbkepaa

/-
  For any module the law CallsGroups of layer 11 answers true (each function stands in one group,two in one just if they come to one another,a group behind all to which one of it comes),and its argument stays asz it was.
  Conditions: none beyond the given row's own.
-/
import Derived.Test.YtljcpjlpggnolaaNC11F177
import Derived.Test.YtljcpjlpggnolaaNC11Ty
import Derived.Test.YtljcpjlpggnolaaRows
import Derived.WalkKit
import Derived.ProofKit
import Derived.OpenShut
set_option linter.all false
namespace Go.Proofs.Ytljcpjlpggnolaa.callsGroups
open Go Go.Ab Go.ChangeShapes Go.WideShapes Go.ChangeAt Go.RowKit
set_option maxRecDepth 100000
theorem own:ownKnob Try.prog.godebug=none:=by kernel_rfl
theorem laid:laidOutB Try.prog=true:=by kernel_rfl
theorem plain:∀ t ∈ Try.f4.params.toList,cY Try.prog 24 t=true∧Try.prog.readableRec t=true∧t < Try.prog.types.size:=by
 intro t ht
 rw [Try.params4] at ht
 simp only [List.mem_cons,List.mem_nil_iff,or_false] at ht
 subst ht; exact ⟨by kernel_rfl,by kernel_rfl,by decide +kernel⟩
theorem core:∀ xs,wg Try.prog Try.f4.params.toList xs→∃ n,acall C11.prog n 4 xs=some (.lit (.bool true)):=by
 intro xs h
 rw [Try.params4] at h
 match xs,h with
 | [x1],⟨h1,_⟩ =>
  obtain ⟨e1,f,rfl,hf⟩:=C11.v_mod h1
  exact C11.rCallsGroups hf
theorem lifted (os:Os) (started:os.Started) (H:Type) (enc:TypeId × Value→H) :
  ReturnsInHanded {} Try.checked os 4 .any (Rows.callsGroupsSpec.pre6 enc Try.prog Try.f4 Rows.callsGroupsRow.domain false) (Rows.callsGroupsSpec.post enc Try.prog Try.f4 false true false false):=by
 refine returnsInHanded_of_change (C:=Try.checked) own started (by kernel_rfl) Try.func4
  (ChangeSpec.witness6 (enc:=enc) (C:=Try.checked) false ⟨#[],#[.agg #[.slice Option.none 0 0]],[]⟩ 8 (by kernel_rfl) (by kernel_rfl) (by kernel_rfl) (by kernel_rfl)) ?_
 intro W base args ds gs before hval hW hcnd _
 exact DC (A:=Go.Ab.C11.prog) Go.Ab.C11.ok trivial (fid:=4) rfl (f:=Try.f4) laid plain (by kernel_rfl) Try.underlying4 rfl (fun ds hl=>by
  have hl:ds.length=1:=hl.trans (by rw [Try.params4]; rfl)
  match ds,hl with
  | [_],_=>rfl) core hval hW
theorem over:Rows.callsGroupsRow.holds Try.pinned (OpenSpec.ofChange Rows.callsGroupsSpec) :=
 OpenClaim.holds_of_wide 4 Try.f4 rfl rfl rfl rfl rfl rfl rfl ⟨rfl,rfl,rfl,rfl,rfl⟩ rfl rfl rfl rfl rfl (by kernel_rfl) Try.func4 (by kernel_rfl)
  (of_decide_eq_true (by kernel_rfl)) (by unfold Func.isWrapper; first | (rw [if_pos (by decide +kernel)]; kernel_rfl) | (rw [if_neg (by decide +kernel)]; exact ⟨rfl,rfl⟩))
  (fun os started H enc _=>lifted os started H enc)
end Go.Proofs.Ytljcpjlpggnolaa.callsGroups
namespace Go.Proofs.Ytljcpjlpggnolaa
theorem callsGroups_holds:Rows.CallsGroupsSaid:=callsGroups.over
#print axioms callsGroups_holds
end Go.Proofs.Ytljcpjlpggnolaa

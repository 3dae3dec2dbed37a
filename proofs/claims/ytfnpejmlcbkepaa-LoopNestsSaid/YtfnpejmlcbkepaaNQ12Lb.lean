/-
  For any function the law LoopNests of layer 9 answers true (of two loops with a block in common one has the other one's head),and its argument stays asz it was.
  Conditions: none beyond the given row's own.
-/
import Derived.Test.YtfnpejmlcbkepaaNM3b
import Derived.Test.YtfnpejmlcbkepaaNQ12Ty
import Derived.Test.YtfnpejmlcbkepaaRows
import Derived.WalkKit
import Derived.ProofKit
import Derived.OpenShut
set_option linter.all false
namespace Go.Proofs.Ytfnpejmlcbkepaa.loopNests
open Go Go.Ab Go.ChangeShapes Go.WideShapes Go.ChangeAt Go.RowKit
set_option maxRecDepth 100000
theorem own:ownKnob Try.prog.godebug=none:=by kernel_rfl
theorem laid:laidOutB Try.prog=true:=by kernel_rfl
theorem plain:∀ t ∈ Try.f13.params.toList,cR Try.prog 24 t=true/\Try.prog.readableRec t=true/\t < Try.prog.types.size:=by
 intro t ht
 rw [Try.params13] at ht
 simp only [List.mem_cons,List.mem_nil_iff,or_false] at ht
 subst ht; exact ⟨by kernel_rfl,by kernel_rfl,by decide +kernel⟩
theorem core:∀ xs,vg Try.prog Try.f13.params.toList xs->∃ n,acall Q12.prog n 13 xs=some (.lit (.bool true)):=by
 intro xs h
 rw [Try.params13] at h
 match xs,h with
 | [x1],⟨h1,_⟩ =>
  obtain ⟨e1,d1,rfl,g1⟩:=Q12.v_func h1
  exact Q12.rLoopNests g1
theorem lifted (os:Os) (started:os.Started) (H:Type) (enc:TypeId × Value->H) :
  ReturnsInHanded {} Try.checked os 13 .any (Rows.loopNestsSpec.pre6 enc Try.prog Try.f13 Rows.loopNestsRow.domain false) (Rows.loopNestsSpec.post enc Try.prog Try.f13 false true false false):=by
 refine returnsInHanded_of_change (C:=Try.checked) own started (by kernel_rfl) Try.func13
  (ChangeSpec.witness6 (enc:=enc) (C:=Try.checked) false ⟨#[],#[.agg #[.int .i64 0,.int .i64 0,.slice Option.none 0 0]],[]⟩ 8 (by kernel_rfl) (by kernel_rfl) (by kernel_rfl) (by kernel_rfl)) ?_
 intro W base args ds gs before hval hW hcnd _
 exact Cb (A:=Go.Ab.Q12.prog) Go.Ab.Q12.ok trivial (fid:=13) rfl (f:=Try.f13) laid plain (by kernel_rfl) Try.underlying4 rfl (fun ds hl=>by
  have hl:ds.length=1:=hl.trans (by rw [Try.params13]; rfl)
  match ds,hl with
  | [_],_=>rfl) core hval hW
theorem over:Rows.loopNestsRow.holds Try.pinned (OpenSpec.ofChange Rows.loopNestsSpec) :=
 OpenClaim.holds_of_wide 13 Try.f13 rfl rfl rfl rfl rfl rfl rfl ⟨rfl,rfl,rfl,rfl,rfl⟩ rfl rfl rfl rfl rfl (by kernel_rfl) Try.func13 (by kernel_rfl)
  (of_decide_eq_true (by kernel_rfl)) (by unfold Func.isWrapper; first | (rw [if_pos (by decide +kernel)]; kernel_rfl) | (rw [if_neg (by decide +kernel)]; exact ⟨rfl,rfl⟩))
  (fun os started H enc _=>lifted os started H enc)
end Go.Proofs.Ytfnpejmlcbkepaa.loopNests
namespace Go.Proofs.Ytfnpejmlcbkepaa
theorem loopNests_holds:Rows.LoopNestsSaid:=loopNests.over
#print axioms loopNests_holds
end Go.Proofs.Ytfnpejmlcbkepaa

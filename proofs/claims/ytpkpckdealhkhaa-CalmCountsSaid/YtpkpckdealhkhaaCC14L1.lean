/-
  For any module the law CalmCounts of layer 14 answers true (each invoke that goes becomes one call; all other instructions stay asz they are),and its argument stays
  Conditions: none beyond the given row's own.
-/
import Derived.Test.YtpkpckdealhkhaaCM1
import Derived.Test.YtpkpckdealhkhaaCC14Ty
import Derived.Test.YtpkpckdealhkhaaRows
import Derived.WalkKit
import Derived.ProofKit
import Derived.OpenShut
set_option linter.all false
namespace Go.Proofs.Ytpkpckdealhkhaa.calmCounts
open Go Go.Ab Go.ChangeShapes Go.WideShapes Go.ChangeAt Go.RowKit
set_option maxRecDepth 100000
theorem own:ownKnob Try.prog.godebug=none:=by kernel_rfl
theorem laid:laidOutB Try.prog=true:=by kernel_rfl
theorem plain:∀ t ∈ Try.f5.params.toList,co Try.prog 24 t=true/\Try.prog.readableRec t=true/\t < Try.prog.types.size:=by
 intro t ht
 rw [Try.params5] at ht
 simp only [List.mem_cons,List.mem_nil_iff,or_false] at ht
 subst ht; exact ⟨by kernel_rfl,by kernel_rfl,by decide +kernel⟩
theorem core:∀ xs,sS Try.prog Try.f5.params.toList xs->∃ n,acall C14.prog n 5 xs=some (.lit (.bool true)):=by
 intro xs h
 rw [Try.params5] at h
 match xs,h with
 | [x1],⟨h1,_⟩ =>
  obtain ⟨e1,d1,rfl,g1⟩:=C14.v_mod h1
  exact C14.rCalmCounts g1
theorem lifted (os:Os) (started:os.Started) (H:Type) (enc:TypeId × Value->H) :
  ReturnsInHanded {} Try.checked os 5 .any (Rows.calmCountsSpec.pre6 enc Try.prog Try.f5 Rows.calmCountsRow.domain false) (Rows.calmCountsSpec.post enc Try.prog Try.f5 false true false false):=by
 refine returnsInHanded_of_change (C:=Try.checked) own started (by kernel_rfl) Try.func5
  (ChangeSpec.witness6 (enc:=enc) (C:=Try.checked) false ⟨#[],#[.agg #[.slice Option.none 0 0]],[]⟩ 8 (by kernel_rfl) (by kernel_rfl) (by kernel_rfl) (by kernel_rfl)) ?_
 intro W base args ds gs before hval hW hcnd _
 exact AG (A:=Go.Ab.C14.prog) Go.Ab.C14.ok trivial (fid:=5) rfl (f:=Try.f5) laid plain (by kernel_rfl) Try.underlying4 rfl (fun ds hl=>by
  have hl:ds.length=1:=hl.trans (by rw [Try.params5]; rfl)
  match ds,hl with
  | [_],_=>rfl) core hval hW
theorem over:Rows.calmCountsRow.holds Try.pinned (OpenSpec.ofChange Rows.calmCountsSpec) :=
 OpenClaim.holds_of_wide 5 Try.f5 rfl rfl rfl rfl rfl rfl rfl ⟨rfl,rfl,rfl,rfl,rfl⟩ rfl rfl rfl rfl rfl (by kernel_rfl) Try.func5 (by kernel_rfl)
  (of_decide_eq_true (by kernel_rfl)) (by unfold Func.isWrapper; first | (rw [if_pos (by decide +kernel)]; kernel_rfl) | (rw [if_neg (by decide +kernel)]; exact ⟨rfl,rfl⟩))
  (fun os started H enc _=>lifted os started H enc)
end Go.Proofs.Ytpkpckdealhkhaa.calmCounts
namespace Go.Proofs.Ytpkpckdealhkhaa
theorem calmCounts_holds:Rows.CalmCountsSaid:=calmCounts.over
#print axioms calmCounts_holds
end Go.Proofs.Ytpkpckdealhkhaa

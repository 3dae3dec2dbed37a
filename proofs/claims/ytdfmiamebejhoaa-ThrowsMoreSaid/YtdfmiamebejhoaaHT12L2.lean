/-
  For any module and any number the law ThrowsMore of layer 12 answers true (a function that throws more has something thrown out of it,and out of all others there is no less),and its arguments stay asz they were.
  Conditions: none beyond the given row's own.
-/
import Derived.Test.YtdfmiamebejhoaaHM3b
import Derived.Test.YtdfmiamebejhoaaHT12Ty
import Derived.Test.YtdfmiamebejhoaaRows
import Derived.WalkKit
import Derived.ProofKit
import Derived.OpenShut
set_option linter.all false
namespace Go.Proofs.Ytdfmiamebejhoaa.throwsMore
open Go Go.Ab Go.ChangeShapes Go.WideShapes Go.ChangeAt Go.RowKit
set_option maxRecDepth 100000
theorem own:ownKnob Try.prog.godebug=none:=by kernel_rfl
theorem laid:laidOutB Try.prog=true:=by kernel_rfl
theorem plain:∀ t ∈ Try.f5.params.toList,cJ Try.prog 24 t=true∧Try.prog.readableRec t=true∧t < Try.prog.types.size:=by
 intro t ht
 rw [Try.params5] at ht
 simp only [List.mem_cons,List.mem_nil_iff,or_false] at ht
 rcases ht with rfl | rfl <;> exact ⟨by kernel_rfl,by kernel_rfl,by decide +kernel⟩
theorem core:∀ xs,uI Try.prog Try.f5.params.toList xs→∃ n,acall T12.prog n 5 xs=some (.lit (.bool true)):=by
 intro xs h
 rw [Try.params5] at h
 match xs,h with
 | [x1,x2],⟨h1,h2,_⟩ =>
  obtain ⟨e1,d1,rfl,g1⟩:=T12.v_mod h1
  obtain ⟨d2,rfl,g2⟩:=T12.v_byte h2
  simp only [Lit.wf,Bool.and_eq_true,decide_eq_true_eq] at g2
  exact T12.rThrowsMore g1 g2
theorem lifted (os:Os) (started:os.Started) (H:Type) (enc:TypeId × Value→H) :
  ReturnsInHanded {} Try.checked os 5 .any (Rows.throwsMoreSpec.pre6 enc Try.prog Try.f5 Rows.throwsMoreRow.domain false) (Rows.throwsMoreSpec.post enc Try.prog Try.f5 false true false false):=by
 refine returnsInHanded_of_change (C:=Try.checked) own started (by kernel_rfl) Try.func5
  (ChangeSpec.witness6 (enc:=enc) (C:=Try.checked) false ⟨#[],#[.agg #[.slice Option.none 0 0],.int .u8 0],[]⟩ 8 (by kernel_rfl) (by kernel_rfl) (by kernel_rfl) (by kernel_rfl)) ?_
 intro W base args ds gs before hval hW hcnd _
 exact AL (A:=Go.Ab.T12.prog) Go.Ab.T12.ok trivial (fid:=5) rfl (f:=Try.f5) laid plain (by kernel_rfl) Try.underlying4 rfl (fun ds hl=>by
  have hl:ds.length=2:=hl.trans (by rw [Try.params5]; rfl)
  match ds,hl with
  | [_,_],_=>rfl) core hval hW
theorem over:Rows.throwsMoreRow.holds Try.pinned (OpenSpec.ofChange Rows.throwsMoreSpec) :=
 OpenClaim.holds_of_wide 5 Try.f5 rfl rfl rfl rfl rfl rfl rfl ⟨rfl,rfl,rfl,rfl,rfl⟩ rfl rfl rfl rfl rfl (by kernel_rfl) Try.func5 (by kernel_rfl)
  (of_decide_eq_true (by kernel_rfl)) (by unfold Func.isWrapper; first | (rw [if_pos (by decide +kernel)]; kernel_rfl) | (rw [if_neg (by decide +kernel)]; exact ⟨rfl,rfl⟩))
  (fun os started H enc _=>lifted os started H enc)
end Go.Proofs.Ytdfmiamebejhoaa.throwsMore
namespace Go.Proofs.Ytdfmiamebejhoaa
theorem throwsMore_holds:Rows.ThrowsMoreSaid:=throwsMore.over
#print axioms throwsMore_holds
end Go.Proofs.Ytdfmiamebejhoaa

/-
  For any module the law CalmRight of layer 14 answers true (any module calmed is what the document says,and how many invokes it has),and its argument stays
  Conditions: none beyond the given row's own.
-/
import Derived.Test.YtpkpckdealhkhaaBM2
import Derived.Test.YtpkpckdealhkhaaBC14Ty
import Derived.Test.YtpkpckdealhkhaaRows
import Derived.WalkKit
import Derived.ProofKit
import Derived.OpenShut
set_option linter.all false
namespace Go.Proofs.Ytpkpckdealhkhaa.calmRight
open Go Go.Ab Go.ChangeShapes Go.WideShapes Go.ChangeAt Go.RowKit
set_option maxRecDepth 100000
theorem own:ownKnob Try.prog.godebug=none:=by kernel_rfl
theorem laid:laidOutB Try.prog=true:=by kernel_rfl
theorem plain:∀t∈Try.f3.params.toList,cB Try.prog 24 t=true/\Try.prog.readableRec t=true/\t<Try.prog.types.size:=by
 intro t ht
 rw[Try.params3]at ht
 simp only[List.mem_cons,List.mem_nil_iff,or_false]at ht
 subst ht;exact⟨by kernel_rfl,by kernel_rfl,by decide +kernel⟩
theorem core:∀xs,tw Try.prog Try.f3.params.toList xs->∃n,acall C14.prog n 3 xs=some (.lit (.bool true)):=by
 intro xs h
 rw[Try.params3]at h
 match xs,h with
 | [x1],⟨h1,_⟩ =>
  obtain⟨e1,d1,rfl,g1⟩:=C14.v_mod h1
  exact C14.rCalmRight g1
theorem lifted (os:Os) (started:os.Started) (H:Type) (enc:TypeId × Value->H) :
  ReturnsInHanded {} Try.checked os 3 .any (Rows.calmRightSpec.pre6 enc Try.prog Try.f3 Rows.calmRightRow.domain false) (Rows.calmRightSpec.post enc Try.prog Try.f3 false true false false):=by
 refine returnsInHanded_of_change (C:=Try.checked) own started (by kernel_rfl) Try.func3
  (ChangeSpec.witness6 (enc:=enc) (C:=Try.checked) false ⟨#[],#[.agg #[.slice Option.none 0 0]],[]⟩ 8 (by kernel_rfl) (by kernel_rfl) (by kernel_rfl) (by kernel_rfl)) ?_
 intro W base args ds gs before hval hW hcnd _
 exact zW (A:=Go.Ab.C14.prog) Go.Ab.C14.ok trivial (fid:=3) rfl (f:=Try.f3) laid plain (by kernel_rfl) Try.underlying4 rfl (fun ds hl=>by
  have hl:ds.length=1:=hl.trans (by rw[Try.params3];rfl)
  match ds,hl with
  | [_],_=>rfl) core hval hW
theorem over:Rows.calmRightRow.holds Try.pinned (OpenSpec.ofChange Rows.calmRightSpec) :=
 OpenClaim.holds_of_wide 3 Try.f3 rfl rfl rfl rfl rfl rfl rfl ⟨rfl,rfl,rfl,rfl,rfl⟩ rfl rfl rfl rfl rfl (by kernel_rfl) Try.func3 (by kernel_rfl)
  (of_decide_eq_true (by kernel_rfl)) (by unfold Func.isWrapper;first|(rw[if_pos (by decide +kernel)];kernel_rfl)|(rw[if_neg (by decide +kernel)];exact⟨rfl,rfl⟩))
  (fun os started H enc _=>lifted os started H enc)
end Go.Proofs.Ytpkpckdealhkhaa.calmRight
namespace Go.Proofs.Ytpkpckdealhkhaa
theorem calmRight_holds:Rows.CalmRightSaid:=calmRight.over
#print axioms calmRight_holds
end Go.Proofs.Ytpkpckdealhkhaa

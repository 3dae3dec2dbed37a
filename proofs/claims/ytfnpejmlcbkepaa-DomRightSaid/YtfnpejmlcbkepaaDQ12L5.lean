/-
  For any function and any two block numbers the law DomRight of layer 8 answers true (which block stands next over each,whether one stands over the other,and the edge are what the document says),and its arguments stay asz they were.
  Conditions: none beyond the given row's own.
-/
import Derived.Test.YtfnpejmlcbkepaaDM2
import Derived.Test.YtfnpejmlcbkepaaDQ12Ty
import Derived.Test.YtfnpejmlcbkepaaRows
import Derived.WalkKit
import Derived.ProofKit
import Derived.OpenShut
set_option linter.all false
namespace Go.Proofs.Ytfnpejmlcbkepaa.domRight
open Go Go.Ab Go.ChangeShapes Go.WideShapes Go.ChangeAt Go.RowKit
set_option maxRecDepth 100000
theorem own:ownKnob Try.prog.godebug=none:=by kernel_rfl
theorem laid:laidOutB Try.prog=true:=by kernel_rfl
theorem plain:∀ t ∈ Try.f7.params.toList,cL Try.prog 24 t=true∧Try.prog.readableRec t=true∧t < Try.prog.types.size:=by
 intro t ht
 rw [Try.params7] at ht
 simp only [List.mem_cons,List.mem_nil_iff,or_false] at ht
 rcases ht with rfl | rfl | rfl <;> exact ⟨by kernel_rfl,by kernel_rfl,by decide +kernel⟩
theorem core:∀ xs,vj Try.prog Try.f7.params.toList xs→∃ n,acall Q12.prog n 7 xs=some (.lit (.bool true)):=by
 intro xs h
 rw [Try.params7] at h
 match xs,h with
 | [x1,x2,x3],⟨h1,h2,h3,_⟩ =>
  obtain ⟨e1,d1,rfl,g1⟩:=Q12.v_func h1
  obtain ⟨d2,rfl,g2⟩:=Q12.v_int h2
  obtain ⟨d3,rfl,g3⟩:=Q12.v_int h3
  exact Q12.rDomRight g1 d2 d3
theorem lifted (os:Os) (started:os.Started) (H:Type) (enc:TypeId × Value→H) :
  ReturnsInHanded {} Try.checked os 7 .any (Rows.domRightSpec.pre6 enc Try.prog Try.f7 Rows.domRightRow.domain false) (Rows.domRightSpec.post enc Try.prog Try.f7 false true false false):=by
 refine returnsInHanded_of_change (C:=Try.checked) own started (by kernel_rfl) Try.func7
  (ChangeSpec.witness6 (enc:=enc) (C:=Try.checked) false ⟨#[],#[.agg #[.int .i64 0,.int .i64 0,.slice Option.none 0 0],.int .i64 0,.int .i64 0],[]⟩ 8 (by kernel_rfl) (by kernel_rfl) (by kernel_rfl) (by kernel_rfl)) ?_
 intro W base args ds gs before hval hW hcnd _
 exact CC (A:=Go.Ab.Q12.prog) Go.Ab.Q12.ok trivial (fid:=7) rfl (f:=Try.f7) laid plain (by kernel_rfl) Try.underlying4 rfl (fun ds hl=>by
  have hl:ds.length=3:=hl.trans (by rw [Try.params7]; rfl)
  match ds,hl with
  | [_,_,_],_=>rfl) core hval hW
theorem over:Rows.domRightRow.holds Try.pinned (OpenSpec.ofChange Rows.domRightSpec) :=
 OpenClaim.holds_of_wide 7 Try.f7 rfl rfl rfl rfl rfl rfl rfl ⟨rfl,rfl,rfl,rfl,rfl⟩ rfl rfl rfl rfl rfl (by kernel_rfl) Try.func7 (by kernel_rfl)
  (of_decide_eq_true (by kernel_rfl)) (by unfold Func.isWrapper; first | (rw [if_pos (by decide +kernel)]; kernel_rfl) | (rw [if_neg (by decide +kernel)]; exact ⟨rfl,rfl⟩))
  (fun os started H enc _=>lifted os started H enc)
end Go.Proofs.Ytfnpejmlcbkepaa.domRight
namespace Go.Proofs.Ytfnpejmlcbkepaa
theorem domRight_holds:Rows.DomRightSaid:=domRight.over
#print axioms domRight_holds
end Go.Proofs.Ytfnpejmlcbkepaa

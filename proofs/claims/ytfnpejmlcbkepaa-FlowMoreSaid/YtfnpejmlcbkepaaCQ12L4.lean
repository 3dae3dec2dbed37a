/-
  For any function and any two numbers the law FlowMore of layer 7 answers true (with a way less or more no more or no less is reached),and its arguments stay asz they were.
  Conditions: none beyond the given row's own.
-/
import Derived.Test.YtfnpejmlcbkepaaCM2
import Derived.Test.YtfnpejmlcbkepaaCQ12Ty
import Derived.Test.YtfnpejmlcbkepaaRows
import Derived.WalkKit
import Derived.ProofKit
import Derived.OpenShut
set_option linter.all false
namespace Go.Proofs.Ytfnpejmlcbkepaa.flowMore
open Go Go.Ab Go.ChangeShapes Go.WideShapes Go.ChangeAt Go.RowKit
set_option maxRecDepth 100000
theorem own:ownKnob Try.prog.godebug=none:=by kernel_rfl
theorem laid:laidOutB Try.prog=true:=by kernel_rfl
theorem plain:∀ t ∈ Try.f6.params.toList,cz Try.prog 24 t=true/\Try.prog.readableRec t=true/\t < Try.prog.types.size:=by
 intro t ht
 rw [Try.params6] at ht
 simp only [List.mem_cons,List.mem_nil_iff,or_false] at ht
 rcases ht with rfl | rfl | rfl <;> exact ⟨by kernel_rfl,by kernel_rfl,by decide +kernel⟩
theorem core:∀ xs,uy Try.prog Try.f6.params.toList xs->∃ n,acall Q12.prog n 6 xs=some (.lit (.bool true)):=by
 intro xs h
 rw [Try.params6] at h
 match xs,h with
 | [x1,x2,x3],⟨h1,h2,h3,_⟩ =>
  obtain ⟨e1,d1,rfl,g1⟩:=Q12.v_func h1
  obtain ⟨d2,rfl,g2⟩:=Q12.v_byte h2
  obtain ⟨d3,rfl,g3⟩:=Q12.v_byte h3
  simp only [Lit.wf,Bool.and_eq_true,decide_eq_true_eq] at g2 g3
  exact Q12.rFlowMore g1 g2 g3
theorem lifted (os:Os) (started:os.Started) (H:Type) (enc:TypeId × Value->H) :
  ReturnsInHanded {} Try.checked os 6 .any (Rows.flowMoreSpec.pre6 enc Try.prog Try.f6 Rows.flowMoreRow.domain false) (Rows.flowMoreSpec.post enc Try.prog Try.f6 false true false false):=by
 refine returnsInHanded_of_change (C:=Try.checked) own started (by kernel_rfl) Try.func6
  (ChangeSpec.witness6 (enc:=enc) (C:=Try.checked) false ⟨#[],#[.agg #[.int .i64 0,.int .i64 0,.slice Option.none 0 0],.int .u8 0,.int .u8 0],[]⟩ 8 (by kernel_rfl) (by kernel_rfl) (by kernel_rfl) (by kernel_rfl)) ?_
 intro W base args ds gs before hval hW hcnd _
 exact Ao (A:=Go.Ab.Q12.prog) Go.Ab.Q12.ok trivial (fid:=6) rfl (f:=Try.f6) laid plain (by kernel_rfl) Try.underlying4 rfl (fun ds hl=>by
  have hl:ds.length=3:=hl.trans (by rw [Try.params6]; rfl)
  match ds,hl with
  | [_,_,_],_=>rfl) core hval hW
theorem over:Rows.flowMoreRow.holds Try.pinned (OpenSpec.ofChange Rows.flowMoreSpec) :=
 OpenClaim.holds_of_wide 6 Try.f6 rfl rfl rfl rfl rfl rfl rfl ⟨rfl,rfl,rfl,rfl,rfl⟩ rfl rfl rfl rfl rfl (by kernel_rfl) Try.func6 (by kernel_rfl)
  (of_decide_eq_true (by kernel_rfl)) (by unfold Func.isWrapper; first | (rw [if_pos (by decide +kernel)]; kernel_rfl) | (rw [if_neg (by decide +kernel)]; exact ⟨rfl,rfl⟩))
  (fun os started H enc _=>lifted os started H enc)
end Go.Proofs.Ytfnpejmlcbkepaa.flowMore
namespace Go.Proofs.Ytfnpejmlcbkepaa
theorem flowMore_holds:Rows.FlowMoreSaid:=flowMore.over
#print axioms flowMore_holds
end Go.Proofs.Ytfnpejmlcbkepaa

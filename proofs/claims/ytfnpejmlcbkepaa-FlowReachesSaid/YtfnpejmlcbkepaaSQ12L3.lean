/-
  For any module,any inputs and any small number of steps the law FlowReaches of layer 7 answers true (each frame of the machine stands at a block that is reached),and its arguments stay asz they were.
  Conditions: none beyond the given row's own.
-/
import Derived.Test.YtfnpejmlcbkepaaSM2
import Derived.Test.YtfnpejmlcbkepaaSQ12Ty
import Derived.Test.YtfnpejmlcbkepaaRows
import Derived.WalkKit
import Derived.ProofKit
import Derived.OpenShut
set_option linter.all false
namespace Go.Proofs.Ytfnpejmlcbkepaa.flowReaches
open Go Go.Ab Go.ChangeShapes Go.WideShapes Go.ChangeAt Go.RowKit
set_option maxRecDepth 100000
theorem own:ownKnob Try.prog.godebug=none:=by kernel_rfl
theorem laid:laidOutB Try.prog=true:=by kernel_rfl
theorem plain:∀ t ∈ Try.f5.params.toList,dc Try.prog 24 t=true/\Try.prog.readableRec t=true/\t < Try.prog.types.size:=by
 intro t ht
 rw [Try.params5] at ht
 simp only [List.mem_cons,List.mem_nil_iff,or_false] at ht
 rcases ht with rfl | rfl | rfl <;> exact ⟨by kernel_rfl,by kernel_rfl,by decide +kernel⟩
theorem core:∀ xs,vw Try.prog Try.f5.params.toList xs->∃ n,acall Q12.prog n 5 xs=some (.lit (.bool true)):=by
 intro xs h
 rw [Try.params5] at h
 match xs,h with
 | [x1,x2,x3],⟨h1,h2,h3,_⟩ =>
  obtain ⟨e1,d1,rfl,g1⟩:=Q12.v_mod h1
  obtain ⟨d2,g2⟩:=Q12.v_words h2
  obtain ⟨d3,rfl,g3⟩:=Q12.v_byte h3
  simp only [Lit.wf,Bool.and_eq_true,decide_eq_true_eq] at g3
  exact Q12.lReaches g1 g2 g3
theorem lifted (os:Os) (started:os.Started) (H:Type) (enc:TypeId × Value->H) :
  ReturnsInHanded {} Try.checked os 5 .any (Rows.flowReachesSpec.pre6 enc Try.prog Try.f5 Rows.flowReachesRow.domain false) (Rows.flowReachesSpec.post enc Try.prog Try.f5 false true false false):=by
 refine returnsInHanded_of_change (C:=Try.checked) own started (by kernel_rfl) Try.func5
  (ChangeSpec.witness6 (enc:=enc) (C:=Try.checked) false ⟨#[],#[.agg #[.slice Option.none 0 0],.slice Option.none 0 0,.int .u8 0],[]⟩ 8 (by kernel_rfl) (by kernel_rfl) (by kernel_rfl) (by kernel_rfl)) ?_
 intro W base args ds gs before hval hW hcnd _
 exact CP (A:=Go.Ab.Q12.prog) Go.Ab.Q12.ok trivial (fid:=5) rfl (f:=Try.f5) laid plain (by kernel_rfl) Try.underlying4 rfl (fun ds hl=>by
  have hl:ds.length=3:=hl.trans (by rw [Try.params5]; rfl)
  match ds,hl with
  | [_,_,_],_=>rfl) core hval hW
theorem over:Rows.flowReachesRow.holds Try.pinned (OpenSpec.ofChange Rows.flowReachesSpec) :=
 OpenClaim.holds_of_wide 5 Try.f5 rfl rfl rfl rfl rfl rfl rfl ⟨rfl,rfl,rfl,rfl,rfl⟩ rfl rfl rfl rfl rfl (by kernel_rfl) Try.func5 (by kernel_rfl)
  (of_decide_eq_true (by kernel_rfl)) (by unfold Func.isWrapper; first | (rw [if_pos (by decide +kernel)]; kernel_rfl) | (rw [if_neg (by decide +kernel)]; exact ⟨rfl,rfl⟩))
  (fun os started H enc _=>lifted os started H enc)
end Go.Proofs.Ytfnpejmlcbkepaa.flowReaches
namespace Go.Proofs.Ytfnpejmlcbkepaa
theorem flowReaches_holds:Rows.FlowReachesSaid:=flowReaches.over
#print axioms flowReaches_holds
end Go.Proofs.Ytfnpejmlcbkepaa

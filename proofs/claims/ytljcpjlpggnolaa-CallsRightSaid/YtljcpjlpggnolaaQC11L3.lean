/-
  For any module and any two numbers the law CallsRight of layer 11 answers true (who calls and comes to whom,what is used,and the groups are what the document says),and its arguments stay asz they were.
  Conditions: none beyond the given row's own.
-/
import Derived.Test.YtljcpjlpggnolaaQC11F180
import Derived.Test.YtljcpjlpggnolaaQC11Ty
import Derived.Test.YtljcpjlpggnolaaRows
import Derived.WalkKit
import Derived.ProofKit
import Derived.OpenShut
set_option linter.all false
namespace Go.Proofs.Ytljcpjlpggnolaa.callsRight
open Go Go.Ab Go.ChangeShapes Go.WideShapes Go.ChangeAt Go.RowKit
set_option maxRecDepth 100000
theorem own:ownKnob Try.prog.godebug=none:=by kernel_rfl
theorem laid:laidOutB Try.prog=true:=by kernel_rfl
theorem plain:∀ t ∈ Try.f3.params.toList,cZ Try.prog 24 t=true∧Try.prog.readableRec t=true∧t < Try.prog.types.size:=by
 intro t ht
 rw [Try.params3] at ht
 simp only [List.mem_cons,List.mem_nil_iff,or_false] at ht
 rcases ht with rfl | rfl | rfl <;> exact ⟨by kernel_rfl,by kernel_rfl,by decide +kernel⟩
theorem core:∀ xs,wZ Try.prog Try.f3.params.toList xs→∃ n,acall C11.prog n 3 xs=some (.lit (.bool true)):=by
 intro xs h
 rw [Try.params3] at h
 match xs,h with
 | [x1,x2,x3],⟨h1,h2,h3,_⟩ =>
  obtain ⟨e1,f,rfl,hf⟩:=C11.v_mod h1
  obtain ⟨p,rfl,_⟩:=C11.v_int h2
  obtain ⟨p',rfl,_⟩:=C11.v_int h3
  exact C11.rCallsRight hf p p'
theorem lifted (os:Os) (started:os.Started) (H:Type) (enc:TypeId × Value→H) :
  ReturnsInHanded {} Try.checked os 3 .any (Rows.callsRightSpec.pre6 enc Try.prog Try.f3 Rows.callsRightRow.domain false) (Rows.callsRightSpec.post enc Try.prog Try.f3 false true false false):=by
 refine returnsInHanded_of_change (C:=Try.checked) own started (by kernel_rfl) Try.func3
  (ChangeSpec.witness6 (enc:=enc) (C:=Try.checked) false ⟨#[],#[.agg #[.slice Option.none 0 0],.int .i64 0,.int .i64 0],[]⟩ 8 (by kernel_rfl) (by kernel_rfl) (by kernel_rfl) (by kernel_rfl)) ?_
 intro W base args ds gs before hval hW hcnd _
 exact Dc (A:=Go.Ab.C11.prog) Go.Ab.C11.ok trivial (fid:=3) rfl (f:=Try.f3) laid plain (by kernel_rfl) Try.underlying4 rfl (fun ds hl=>by
  have hl:ds.length=3:=hl.trans (by rw [Try.params3]; rfl)
  match ds,hl with
  | [_,_,_],_=>rfl) core hval hW
theorem over:Rows.callsRightRow.holds Try.pinned (OpenSpec.ofChange Rows.callsRightSpec) :=
 OpenClaim.holds_of_wide 3 Try.f3 rfl rfl rfl rfl rfl rfl rfl ⟨rfl,rfl,rfl,rfl,rfl⟩ rfl rfl rfl rfl rfl (by kernel_rfl) Try.func3 (by kernel_rfl)
  (of_decide_eq_true (by kernel_rfl)) (by unfold Func.isWrapper; first | (rw [if_pos (by decide +kernel)]; kernel_rfl) | (rw [if_neg (by decide +kernel)]; exact ⟨rfl,rfl⟩))
  (fun os started H enc _=>lifted os started H enc)
end Go.Proofs.Ytljcpjlpggnolaa.callsRight
namespace Go.Proofs.Ytljcpjlpggnolaa
theorem callsRight_holds:Rows.CallsRightSaid:=callsRight.over
#print axioms callsRight_holds
end Go.Proofs.Ytljcpjlpggnolaa

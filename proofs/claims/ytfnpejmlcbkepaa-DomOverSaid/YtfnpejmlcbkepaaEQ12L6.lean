/-
  For any function,any three bytes and any row of bytes the law DomOver of layer 8 answers true (over each block that is reached stands block 0; of two that stand over a third one stands over the other; who stands over a block is on any way to it),and its arguments stay asz they were.
  Conditions: none beyond the given row's own.
-/
import Derived.Test.YtfnpejmlcbkepaaEQ12Ty2
import Derived.Test.YtfnpejmlcbkepaaRows
import Derived.WalkKit
import Derived.ProofKit
import Derived.OpenShut
set_option linter.all false
namespace Go.Proofs.Ytfnpejmlcbkepaa.domOver
open Go Go.Ab Go.ChangeShapes Go.WideShapes Go.ChangeAt Go.RowKit
set_option maxRecDepth 100000
theorem own:ownKnob Try.prog.godebug=none:=by kernel_rfl
theorem laid:laidOutB Try.prog=true:=by kernel_rfl
theorem plain:∀ t ∈ Try.f8.params.toList,cJ Try.prog 24 t=true∧Try.prog.readableRec t=true∧t < Try.prog.types.size:=by
 intro t ht
 rw [Try.params8] at ht
 simp only [List.mem_cons,List.mem_nil_iff,or_false] at ht
 rcases ht with rfl | rfl | rfl | rfl | rfl <;> exact ⟨by kernel_rfl,by kernel_rfl,by decide +kernel⟩
theorem core:∀ xs,vl Try.prog Try.f8.params.toList xs→∃ n,acall Q12.prog n 8 xs=some (.lit (.bool true)):=by
 intro xs h
 rw [Try.params8] at h
 match xs,h with
 | [x1,x2,x3,x4,x5],⟨h1,h2,h3,h4,h5,_⟩ =>
  obtain ⟨e1,f,rfl,hf⟩:=Q12.v_func h1
  obtain ⟨a,rfl,ha⟩:=Q12.v_byte' h2
  obtain ⟨b,rfl,hb⟩:=Q12.v_byte' h3
  obtain ⟨c,rfl,hc⟩:=Q12.v_byte' h4
  obtain ⟨l,hl⟩:=Q12.v_bytes h5
  exact Q12.rDomOver hf ha hb hc hl
theorem lifted (os:Os) (started:os.Started) (H:Type) (enc:TypeId × Value→H) :
  ReturnsInHanded {} Try.checked os 8 .any (Rows.domOverSpec.pre6 enc Try.prog Try.f8 Rows.domOverRow.domain false) (Rows.domOverSpec.post enc Try.prog Try.f8 false true false false):=by
 refine returnsInHanded_of_change (C:=Try.checked) own started (by kernel_rfl) Try.func8
  (ChangeSpec.witness6 (enc:=enc) (C:=Try.checked) false ⟨#[],#[.agg #[.int .i64 0,.int .i64 0,.slice Option.none 0 0],.int .u8 0,.int .u8 0,.int .u8 0,.slice Option.none 0 0],[]⟩ 8 (by kernel_rfl) (by kernel_rfl) (by kernel_rfl) (by kernel_rfl)) ?_
 intro W base args ds gs before hval hW hcnd _
 exact BJ (A:=Go.Ab.Q12.prog) Go.Ab.Q12.ok trivial (fid:=8) rfl (f:=Try.f8) laid plain (by kernel_rfl) Try.underlying4 rfl (fun ds hl=>by
  have hl:ds.length=5:=hl.trans (by rw [Try.params8]; rfl)
  match ds,hl with
  | [_,_,_,_,_],_=>rfl) core hval hW
theorem over:Rows.domOverRow.holds Try.pinned (OpenSpec.ofChange Rows.domOverSpec) :=
 OpenClaim.holds_of_wide 8 Try.f8 rfl rfl rfl rfl rfl rfl rfl ⟨rfl,rfl,rfl,rfl,rfl⟩ rfl rfl rfl rfl rfl (by kernel_rfl) Try.func8 (by kernel_rfl)
  (of_decide_eq_true (by kernel_rfl)) (by unfold Func.isWrapper; first | (rw [if_pos (by decide +kernel)]; kernel_rfl) | (rw [if_neg (by decide +kernel)]; exact ⟨rfl,rfl⟩))
  (fun os started H enc _=>lifted os started H enc)
end Go.Proofs.Ytfnpejmlcbkepaa.domOver
namespace Go.Proofs.Ytfnpejmlcbkepaa
theorem domOver_holds:Rows.DomOverSaid:=domOver.over
#print axioms domOver_holds
end Go.Proofs.Ytfnpejmlcbkepaa

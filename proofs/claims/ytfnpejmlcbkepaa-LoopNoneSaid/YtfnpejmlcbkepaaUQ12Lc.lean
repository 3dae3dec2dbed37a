/-
  For any two numbers the law LoopNone of layer 9 answers true (a row of blocks without a way back has no loop; with one way back it has that one,and each block of it is in one loop),and its arguments stay asz they were.
  Conditions: none beyond the given row's own.
-/
import Derived.Test.YtfnpejmlcbkepaaUM3b
import Derived.Test.YtfnpejmlcbkepaaUQ12Ty
import Derived.Test.YtfnpejmlcbkepaaRows
import Derived.WalkKit
import Derived.ProofKit
import Derived.OpenShut
set_option linter.all false
namespace Go.Proofs.Ytfnpejmlcbkepaa.loopNone
open Go Go.Ab Go.ChangeShapes Go.WideShapes Go.ChangeAt Go.RowKit
set_option maxRecDepth 100000
theorem own:ownKnob Try.prog.godebug=none:=by kernel_rfl
theorem laid:laidOutB Try.prog=true:=by kernel_rfl
theorem plain:∀ t ∈ Try.f14.params.toList,cN Try.prog 24 t=true/\Try.prog.readableRec t=true/\t < Try.prog.types.size:=by
 intro t ht
 rw [Try.params14] at ht
 simp only [List.mem_cons,List.mem_nil_iff,or_false] at ht
 rcases ht with rfl | rfl <;> exact ⟨by kernel_rfl,by kernel_rfl,by decide +kernel⟩
theorem core:∀ xs,vp Try.prog Try.f14.params.toList xs->∃ n,acall Q12.prog n 14 xs=some (.lit (.bool true)):=by
 intro xs h
 rw [Try.params14] at h
 match xs,h with
 | [x1,x2],⟨h1,h2,_⟩ =>
  obtain ⟨d1,rfl,g1⟩:=Q12.v_byte h1
  obtain ⟨d2,rfl,g2⟩:=Q12.v_byte h2
  simp only [Lit.wf,Bool.and_eq_true,decide_eq_true_eq] at g1 g2
  exact Q12.rLoopNone g1 g2
theorem lifted (os:Os) (started:os.Started) (H:Type) (enc:TypeId × Value->H) :
  ReturnsInHanded {} Try.checked os 14 .any (Rows.loopNoneSpec.pre6 enc Try.prog Try.f14 Rows.loopNoneRow.domain false) (Rows.loopNoneSpec.post enc Try.prog Try.f14 false true false false):=by
 refine returnsInHanded_of_change (C:=Try.checked) own started (by kernel_rfl) Try.func14
  (ChangeSpec.witness6 (enc:=enc) (C:=Try.checked) false ⟨#[],#[.int .u8 0,.int .u8 0],[]⟩ 8 (by kernel_rfl) (by kernel_rfl) (by kernel_rfl) (by kernel_rfl)) ?_
 intro W base args ds gs before hval hW hcnd _
 exact Co (A:=Go.Ab.Q12.prog) Go.Ab.Q12.ok trivial (fid:=14) rfl (f:=Try.f14) laid plain (by kernel_rfl) Try.underlying4 rfl (fun ds hl=>by
  have hl:ds.length=2:=hl.trans (by rw [Try.params14]; rfl)
  match ds,hl with
  | [_,_],_=>rfl) core hval hW
theorem over:Rows.loopNoneRow.holds Try.pinned (OpenSpec.ofChange Rows.loopNoneSpec) :=
 OpenClaim.holds_of_wide 14 Try.f14 rfl rfl rfl rfl rfl rfl rfl ⟨rfl,rfl,rfl,rfl,rfl⟩ rfl rfl rfl rfl rfl (by kernel_rfl) Try.func14 (by kernel_rfl)
  (of_decide_eq_true (by kernel_rfl)) (by unfold Func.isWrapper; first | (rw [if_pos (by decide +kernel)]; kernel_rfl) | (rw [if_neg (by decide +kernel)]; exact ⟨rfl,rfl⟩))
  (fun os started H enc _=>lifted os started H enc)
end Go.Proofs.Ytfnpejmlcbkepaa.loopNone
namespace Go.Proofs.Ytfnpejmlcbkepaa
theorem loopNone_holds:Rows.LoopNoneSaid:=loopNone.over
#print axioms loopNone_holds
end Go.Proofs.Ytfnpejmlcbkepaa

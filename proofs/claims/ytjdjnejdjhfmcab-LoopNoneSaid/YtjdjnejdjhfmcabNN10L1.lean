/-
  For any two numbers the law LoopNone of layer 9 answers true (a row of blocks without a way back has no loop; with one way back it has that one,and each block of it is in one loop),and its arguments stay as they were.
  Conditions: none beyond the given row's own.
-/
import Derived.Test.YtjdjnejdjhfmcabNM3b
import Derived.Test.YtjdjnejdjhfmcabNN10Ty
import Derived.Test.YtjdjnejdjhfmcabRows
import Derived.WalkKit
import Derived.ProofKit
import Derived.OpenShut
namespace Go.Proofs.Ytjdjnejdjhfmcab.loopNone
open Go Go.Ab Go.ChangeShapes Go.WideShapes Go.ChangeAt Go.RowKit
set_option linter.unusedVariables false
set_option maxRecDepth 100000
theorem own:ownKnob Try.prog.godebug=none:=by kernel_rfl
theorem laid:laidOutB Try.prog=true:=by kernel_rfl
theorem plain:∀ t ∈ Try.f3.params.toList,plainTy Try.prog 24 t=true∧Try.prog.readableRec t=true∧t < Try.prog.types.size:=by
 intro t ht
 rw [Try.params3] at ht
 simp only [List.mem_cons,List.mem_nil_iff,or_false] at ht
 rcases ht with rfl | rfl <;> exact ⟨by kernel_rfl,by kernel_rfl,by decide +kernel⟩
theorem core:∀ xs,ValsTy Try.prog Try.f3.params.toList xs→∃ n,acall N10.prog n 3 xs=some (.lit (.bool true)):=by
 intro xs h
 rw [Try.params3] at h
 match xs,h with
 | [x1,x2],⟨h1,h2,_⟩ =>
  obtain ⟨p,rfl,hp⟩:=N10.v_byte h1
  obtain ⟨q,rfl,hq⟩:=N10.v_byte h2
  simp only [Lit.wf,Bool.and_eq_true,decide_eq_true_eq] at hp hq
  exact N10.rLoopNone hp hq
theorem lifted (os:Os) (started:os.Started) (H:Type) (enc:TypeId × Value→H) :
  ReturnsInHanded {} Try.checked os 3 .any (Rows.loopNoneSpec.pre6 enc Try.prog Try.f3 Rows.loopNoneRow.domain false) (Rows.loopNoneSpec.post enc Try.prog Try.f3 false true false false):=by
 refine returnsInHanded_of_change (C:=Try.checked) own started (by kernel_rfl) Try.func3
  (ChangeSpec.witness6 (enc:=enc) (C:=Try.checked) false ⟨#[],#[.int .u8 0,.int .u8 0],[]⟩ 8 (by kernel_rfl) (by kernel_rfl) (by kernel_rfl) (by kernel_rfl)) ?_
 intro W base args ds gs before hval hW hcnd _
 exact law_core (A:=Go.Ab.N10.prog) Go.Ab.N10.ok trivial (fid:=3) rfl (f:=Try.f3) laid plain (by kernel_rfl) Try.underlying4 rfl (fun ds hl=>by
  have hl:ds.length=2:=hl.trans (by rw [Try.params3]; rfl)
  match ds,hl with
  | [_,_],_=>rfl) core hval hW
theorem over:Rows.loopNoneRow.holds Try.pinned (OpenSpec.ofChange Rows.loopNoneSpec) :=
 OpenClaim.holds_of_wide 3 Try.f3 rfl rfl rfl rfl rfl rfl rfl ⟨rfl,rfl,rfl,rfl,rfl⟩ rfl rfl rfl rfl rfl (by kernel_rfl) Try.func3 (by kernel_rfl)
  (of_decide_eq_true (by kernel_rfl)) (by unfold Func.isWrapper; first | (rw [if_pos (by decide +kernel)]; kernel_rfl) | (rw [if_neg (by decide +kernel)]; exact ⟨rfl,rfl⟩))
  (fun os started H enc _=>lifted os started H enc)
end Go.Proofs.Ytjdjnejdjhfmcab.loopNone
namespace Go.Proofs.Ytjdjnejdjhfmcab
theorem loopNone_holds:Rows.LoopNoneSaid:=loopNone.over
#print axioms loopNone_holds
end Go.Proofs.Ytjdjnejdjhfmcab

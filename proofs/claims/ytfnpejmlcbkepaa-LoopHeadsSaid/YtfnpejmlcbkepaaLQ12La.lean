/-
  For any function the law LoopHeads of layer 9 answers true (a loop is entered by its head alone,which stands over all of it; from each of its blocks one leads on within it),and its argument stays asz it was.
  Conditions: none beyond the given row's own.
-/
import Derived.Test.YtfnpejmlcbkepaaLM3
import Derived.Test.YtfnpejmlcbkepaaLQ12Ty
import Derived.Test.YtfnpejmlcbkepaaRows
import Derived.WalkKit
import Derived.ProofKit
import Derived.OpenShut
set_option linter.all false
namespace Go.Proofs.Ytfnpejmlcbkepaa.loopHeads
open Go Go.Ab Go.ChangeShapes Go.WideShapes Go.ChangeAt Go.RowKit
set_option maxRecDepth 100000
theorem own:ownKnob Try.prog.godebug=none:=by kernel_rfl
theorem laid:laidOutB Try.prog=true:=by kernel_rfl
theorem plain:∀ t ∈ Try.f12.params.toList,cZ Try.prog 24 t=true/\Try.prog.readableRec t=true/\t < Try.prog.types.size:=by
 intro t ht
 rw [Try.params12] at ht
 simp only [List.mem_cons,List.mem_nil_iff,or_false] at ht
 subst ht; exact ⟨by kernel_rfl,by kernel_rfl,by decide +kernel⟩
theorem core:∀ xs,wc Try.prog Try.f12.params.toList xs->∃ n,acall Q12.prog n 12 xs=some (.lit (.bool true)):=by
 intro xs h
 rw [Try.params12] at h
 match xs,h with
 | [x1],⟨h1,_⟩ =>
  obtain ⟨e1,d1,rfl,g1⟩:=Q12.v_func h1
  exact Q12.rLoopHeads g1
theorem lifted (os:Os) (started:os.Started) (H:Type) (enc:TypeId × Value->H) :
  ReturnsInHanded {} Try.checked os 12 .any (Rows.loopHeadsSpec.pre6 enc Try.prog Try.f12 Rows.loopHeadsRow.domain false) (Rows.loopHeadsSpec.post enc Try.prog Try.f12 false true false false):=by
 refine returnsInHanded_of_change (C:=Try.checked) own started (by kernel_rfl) Try.func12
  (ChangeSpec.witness6 (enc:=enc) (C:=Try.checked) false ⟨#[],#[.agg #[.int .i64 0,.int .i64 0,.slice Option.none 0 0]],[]⟩ 8 (by kernel_rfl) (by kernel_rfl) (by kernel_rfl) (by kernel_rfl)) ?_
 intro W base args ds gs before hval hW hcnd _
 exact CM (A:=Go.Ab.Q12.prog) Go.Ab.Q12.ok trivial (fid:=12) rfl (f:=Try.f12) laid plain (by kernel_rfl) Try.underlying4 rfl (fun ds hl=>by
  have hl:ds.length=1:=hl.trans (by rw [Try.params12]; rfl)
  match ds,hl with
  | [_],_=>rfl) core hval hW
theorem over:Rows.loopHeadsRow.holds Try.pinned (OpenSpec.ofChange Rows.loopHeadsSpec) :=
 OpenClaim.holds_of_wide 12 Try.f12 rfl rfl rfl rfl rfl rfl rfl ⟨rfl,rfl,rfl,rfl,rfl⟩ rfl rfl rfl rfl rfl (by kernel_rfl) Try.func12 (by kernel_rfl)
  (of_decide_eq_true (by kernel_rfl)) (by unfold Func.isWrapper; first | (rw [if_pos (by decide +kernel)]; kernel_rfl) | (rw [if_neg (by decide +kernel)]; exact ⟨rfl,rfl⟩))
  (fun os started H enc _=>lifted os started H enc)
end Go.Proofs.Ytfnpejmlcbkepaa.loopHeads
namespace Go.Proofs.Ytfnpejmlcbkepaa
theorem loopHeads_holds:Rows.LoopHeadsSaid:=loopHeads.over
#print axioms loopHeads_holds
end Go.Proofs.Ytfnpejmlcbkepaa

/-
  For any module,any words told to it from outside,and any number of steps the law CalmKeeps of layer 14 answers true (a calmed module may be,and does the same in at most twice asz many steps;out of the same functions something may be thrown;calmed again it stays),and its arguments stay
  Conditions: none beyond the given row's own.
-/
import Derived.Test.YtpkpckdealhkhaaAM2
import Derived.Test.YtpkpckdealhkhaaAC14Ty
import Derived.Test.YtpkpckdealhkhaaRows
import Derived.WalkKit
import Derived.ProofKit
import Derived.OpenShut
set_option linter.all false
namespace Go.Proofs.Ytpkpckdealhkhaa.calmKeeps
open Go Go.Ab Go.ChangeShapes Go.WideShapes Go.ChangeAt Go.RowKit
set_option maxRecDepth 100000
theorem own:ownKnob Try.prog.godebug=none:=by kernel_rfl
theorem laid:laidOutB Try.prog=true:=by kernel_rfl
theorem plain:∀t∈Try.f4.params.toList,dg Try.prog 24 t=true/\Try.prog.readableRec t=true/\t<Try.prog.types.size:=by
 intro t ht
 rw[Try.params4]at ht
 simp only[List.mem_cons,List.mem_nil_iff,or_false]at ht
 rcases ht with rfl|rfl|rfl<;>exact⟨by kernel_rfl,by kernel_rfl,by decide +kernel⟩
theorem core:∀xs,wG Try.prog Try.f4.params.toList xs->∃n,acall C14.prog n 4 xs=some (.lit (.bool true)):=by
 intro xs h
 rw[Try.params4]at h
 match xs,h with
 | [x1,x2,x3],⟨h1,h2,h3,_⟩ =>
  obtain⟨e1,d1,rfl,g1⟩:=C14.v_mod h1
  obtain⟨d2,g2⟩:=C14.v_words h2
  obtain⟨d3,rfl,g3⟩:=C14.v_byte h3
  simp only[Lit.wf,Bool.and_eq_true,decide_eq_true_eq]at g3
  exact C14.rCalmKeeps g1 g2 g3
theorem lifted (os:Os) (started:os.Started) (H:Type) (enc:TypeId × Value->H) :
  ReturnsInHanded {} Try.checked os 4 .any (Rows.calmKeepsSpec.pre6 enc Try.prog Try.f4 Rows.calmKeepsRow.domain false) (Rows.calmKeepsSpec.post enc Try.prog Try.f4 false true false false):=by
 refine returnsInHanded_of_change (C:=Try.checked) own started (by kernel_rfl) Try.func4
  (ChangeSpec.witness6 (enc:=enc) (C:=Try.checked) false ⟨#[],#[.agg #[.slice Option.none 0 0],.slice Option.none 0 0,.int .u8 0],[]⟩ 8 (by kernel_rfl) (by kernel_rfl) (by kernel_rfl) (by kernel_rfl)) ?_
 intro W base args ds gs before hval hW hcnd _
 exact Ck (A:=Go.Ab.C14.prog) Go.Ab.C14.ok trivial (fid:=4) rfl (f:=Try.f4) laid plain (by kernel_rfl) Try.underlying4 rfl (fun ds hl=>by
  have hl:ds.length=3:=hl.trans (by rw[Try.params4];rfl)
  match ds,hl with
  | [_,_,_],_=>rfl) core hval hW
theorem over:Rows.calmKeepsRow.holds Try.pinned (OpenSpec.ofChange Rows.calmKeepsSpec) :=
 OpenClaim.holds_of_wide 4 Try.f4 rfl rfl rfl rfl rfl rfl rfl ⟨rfl,rfl,rfl,rfl,rfl⟩ rfl rfl rfl rfl rfl (by kernel_rfl) Try.func4 (by kernel_rfl)
  (of_decide_eq_true (by kernel_rfl)) (by unfold Func.isWrapper;first|(rw[if_pos (by decide +kernel)];kernel_rfl)|(rw[if_neg (by decide +kernel)];exact⟨rfl,rfl⟩))
  (fun os started H enc _=>lifted os started H enc)
end Go.Proofs.Ytpkpckdealhkhaa.calmKeeps
namespace Go.Proofs.Ytpkpckdealhkhaa
theorem calmKeeps_holds:Rows.CalmKeepsSaid:=calmKeeps.over
#print axioms calmKeeps_holds
end Go.Proofs.Ytpkpckdealhkhaa

/-
  For any module,any inputs,any small numbers of steps and any words the law LiveIdle of layer 10 answers true (whatever is put in places that are not live,the machine tells the same),and its arguments stay as they were.
  Conditions: none beyond the given row's own.
-/
import Derived.Test.YtjdjnejdjhfmcaaIM1
import Derived.Test.YtjdjnejdjhfmcaaIA10Ty
import Derived.Test.YtjdjnejdjhfmcaaRows
import Derived.WalkKit
import Derived.ProofKit
import Derived.OpenShut
set_option linter.all false
namespace Go.Proofs.Ytjdjnejdjhfmcaa.liveIdle
open Go Go.Ab Go.ChangeShapes Go.WideShapes Go.ChangeAt Go.RowKit
set_option maxRecDepth 100000
theorem own:ownKnob Try.prog.godebug=none:=by kernel_rfl
theorem laid:laidOutB Try.prog=true:=by kernel_rfl
theorem plain:∀ t ∈ Try.f3.params.toList,df Try.prog 24 t=true∧Try.prog.readableRec t=true∧t < Try.prog.types.size:=by
 intro t ht
 rw [Try.params3] at ht
 simp only [List.mem_cons,List.mem_nil_iff,or_false] at ht
 rcases ht with rfl | rfl | rfl | rfl | rfl <;> exact ⟨by kernel_rfl,by kernel_rfl,by decide +kernel⟩
theorem core:∀ xs,vx Try.prog Try.f3.params.toList xs→∃ n,acall A10.prog n 3 xs=some (.lit (.bool true)):=by
 intro xs h
 rw [Try.params3] at h
 match xs,h with
 | [x1,x2,x3,x4,x5],⟨h1,h2,h3,h4,h5,_⟩ =>
  obtain ⟨e1,m,rfl,hm⟩:=A10.v_mod h1
  obtain ⟨l,hx⟩:=A10.v_words h2
  obtain ⟨p,rfl,hp⟩:=A10.v_byte h3
  obtain ⟨q,rfl,hq⟩:=A10.v_byte h4
  obtain ⟨k,hz⟩:=A10.v_words h5
  simp only [Lit.wf,Bool.and_eq_true,decide_eq_true_eq] at hp hq
  exact A10.rLiveIdle hm hx hp hq hz
theorem lifted (os:Os) (started:os.Started) (H:Type) (enc:TypeId × Value→H) :
  ReturnsInHanded {} Try.checked os 3 .any (Rows.liveIdleSpec.pre6 enc Try.prog Try.f3 Rows.liveIdleRow.domain false) (Rows.liveIdleSpec.post enc Try.prog Try.f3 false true false false):=by
 refine returnsInHanded_of_change (C:=Try.checked) own started (by kernel_rfl) Try.func3
  (ChangeSpec.witness6 (enc:=enc) (C:=Try.checked) false ⟨#[],#[.agg #[.slice Option.none 0 0],.slice Option.none 0 0,.int .u8 0,.int .u8 0,.slice Option.none 0 0],[]⟩ 8 (by kernel_rfl) (by kernel_rfl) (by kernel_rfl) (by kernel_rfl)) ?_
 intro W base args ds gs before hval hW hcnd _
 exact CB (A:=Go.Ab.A10.prog) Go.Ab.A10.ok trivial (fid:=3) rfl (f:=Try.f3) laid plain (by kernel_rfl) Try.underlying4 rfl (fun ds hl=>by
  have hl:ds.length=5:=hl.trans (by rw [Try.params3]; rfl)
  match ds,hl with
  | [_,_,_,_,_],_=>rfl) core hval hW
theorem over:Rows.liveIdleRow.holds Try.pinned (OpenSpec.ofChange Rows.liveIdleSpec) :=
 OpenClaim.holds_of_wide 3 Try.f3 rfl rfl rfl rfl rfl rfl rfl ⟨rfl,rfl,rfl,rfl,rfl⟩ rfl rfl rfl rfl rfl (by kernel_rfl) Try.func3 (by kernel_rfl)
  (of_decide_eq_true (by kernel_rfl)) (by unfold Func.isWrapper; first | (rw [if_pos (by decide +kernel)]; kernel_rfl) | (rw [if_neg (by decide +kernel)]; exact ⟨rfl,rfl⟩))
  (fun os started H enc _=>lifted os started H enc)
end Go.Proofs.Ytjdjnejdjhfmcaa.liveIdle
namespace Go.Proofs.Ytjdjnejdjhfmcaa
theorem liveIdle_holds:Rows.LiveIdleSaid:=liveIdle.over
#print axioms liveIdle_holds
end Go.Proofs.Ytjdjnejdjhfmcaa

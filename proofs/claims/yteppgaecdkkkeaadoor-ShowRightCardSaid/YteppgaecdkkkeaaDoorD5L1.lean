/-
  For any module, instruction, end and pad the law ShowRight of layer 3 answers true (a module has the document's text or is refused, and each of them has its line), and its arguments stay as they were.
  Conditions: none beyond the given row's own; the tables that its row lists are tied to the program's text by the card.
-/
import Derived.Test.YteppgaecdkkkeaaDoorD5F38
import Derived.Test.YteppgaecdkkkeaaDoorD5Ty
import Derived.Test.YteppgaecdkkkeaaDoorRows
import Derived.Test.YteppgaecdkkkeaaDoorTie
import Derived.Test.YteppgaecdkkkeaaDoorCards
import Derived.WalkKit
import Derived.ProofKit
import Derived.OpenShut
import Derived.LaidMore
import Derived.Lib.LaidTab
import Derived.Stop.LaidErr
import Derived.SevenTiedAt
namespace Go.Proofs.YteppgaecdkkkeaaDoor.lawsLaid
open Go Go.Ab Go.ChangeShapes Go.WideShapes Go.ChangeAt Go.RowKit
set_option linter.unusedVariables false
set_option maxRecDepth 100000
theorem own : ownKnob Tryd.prog.godebug = none := by kernel_rfl
theorem laid : laidOutB Tryd.prog = true := by kernel_rfl
theorem door_met (os : Os) (args : Array Value) : laidMetH Tryd.prog Rows.showRightRow.laid ((World.doorLaid Tryd.prog 72 os).forCall (fun _ _ => 0) ⟨#[], args, []⟩).memory :=
  laidMetH_of_parts3 (fuel := 8) (laidMet_of_run' 8 (by kernel_rfl) (by kernel_rfl)) (by kernel_rfl) (by kernel_rfl)
theorem pow_tab : (Rows.laid_internal_strconv_uint64pow10 : DataW Unit) = Lib.tabData .u64 Lib.pow10Tab := by rfl
theorem tab_of {W : World} (h : laidMetH Tryd.prog Rows.showRightRow.laid W) : (tabG Tryd.prog).P W (fun b => b < W.heap.size) := by
  rw [MakeChecks.laidMetH_plain _ _ _ (by kernel_rfl)] at h
  have h1 := laidMet.tail (laidMet.tail (x := ("math/bits.deBruijn32tab", Rows.laid_math_bits_deBruijn32tab)) (r := [("math/bits.deBruijn64tab", Rows.laid_math_bits_deBruijn64tab), ("internal/strconv.uint64pow10", Rows.laid_internal_strconv_uint64pow10)]) h)
  rw [pow_tab] at h1
  have h2 := Lib.tabIs_of_head (g := 1) (t := 157) (e := 110) (n := 20) (by kernel_rfl) (by kernel_rfl) Tryd.underlying157 Tryd.underlying110 (by kernel_rfl) (by kernel_rfl) h1
  refine ⟨h2, fun g hg => ?_⟩
  have hg1 : Tryd.prog.globalNamed "internal/strconv.uint64pow10" = some 1 := by kernel_rfl
  obtain rfl : 1 = g := Option.some.inj (hg1.symm.trans hg)
  unfold Lib.TabIs World.var? at h2
  rw [hg1] at h2
  simp only [Option.bind_some] at h2
  cases hc : W.heap[1]? with
  | none => rw [hc] at h2; cases h2
  | some o => exact (Array.getElem?_eq_some_iff.1 hc).1
end Go.Proofs.YteppgaecdkkkeaaDoor.lawsLaid
namespace Go.Proofs.YteppgaecdkkkeaaDoor.showRight
open Go Go.Ab Go.ChangeShapes Go.WideShapes Go.ChangeAt Go.RowKit
set_option linter.unusedVariables false
set_option maxRecDepth 100000
open lawsLaid
theorem plain : ∀ t ∈ Tryd.f3.params.toList, plainTy Tryd.prog 24 t = true ∧ Tryd.prog.readableRec t = true ∧ t < Tryd.prog.types.size := by
  intro t ht
  rw [Tryd.params3] at ht
  simp only [List.mem_cons, List.mem_nil_iff, or_false] at ht
  rcases ht with rfl | rfl | rfl | rfl <;> exact ⟨by kernel_rfl, by kernel_rfl, by decide +kernel⟩
theorem core : ∀ xs, ValsTy Tryd.prog Tryd.f3.params.toList xs → ∃ n, acall D5.prog n 3 xs = some (.lit (.bool true)) := by
  intro xs h
  rw [Tryd.params3] at h
  match xs, h with
  | [x1, x2, x3, x4], ⟨h1, h2, h3, h4, _⟩ =>
    obtain ⟨e0, m, rfl, hm⟩ := D5.v_mod h1
    obtain ⟨e1, x, rfl, hx⟩ := D5.v_ins h2
    obtain ⟨e2, y, rfl, hy⟩ := D5.v_end h3
    obtain ⟨e3, p, rfl, hp⟩ := D5.v_pad h4
    exact D5.right_runs hm hx hy hp
theorem lifted (os : Os) (started : os.Started) (H : Type) (enc : TypeId × Value → H) :
    ReturnsInHanded {} Tryd.checked os 3 .any (fun w args => (Rows.showRightSpec.pre enc Tryd.prog Tryd.f3 [] false w args ∧ laidMetH Tryd.prog Rows.showRightRow.laid w) ∧ sizedMet enc Tryd.prog Tryd.f3 (OpenSpec.ofChange Rows.showRightSpec) false w args)
      (Rows.showRightSpec.post enc Tryd.prog Tryd.f3 false true false false) := by
  refine returnsInHanded_of_change_and (C := Tryd.checked) (X := fun w _ => laidMetH Tryd.prog Rows.showRightRow.laid w) (fun _ _ _ hh h => h.of_heap hh) own started (by kernel_rfl) Tryd.func3
    (ChangeSpec.witness_shaped (enc := enc) (C := Tryd.checked) (os := os) (X := fun w _ => laidMetH Tryd.prog Rows.showRightRow.laid w) false (World.doorLaid Tryd.prog 72 os) #[.agg #[.slice Option.none 0 0], .agg #[.int .i64 0, .int .i64 0, .int .i64 0, .int .i64 0, .int .u16 0, .int .i64 0, .slice Option.none 0 0], .agg #[.int .i64 0, .int .i64 0, .int .i64 0, .int .i64 0, .slice Option.none 0 0, .int .i64 0, .int .i64 0, .int .i64 0], .agg #[.int .i64 0, .slice Option.none 0 0, .bool false, .bool false]] 8 rfl (World.shaped_of_RefB (by kernel_rfl) (by kernel_rfl)) (by kernel_rfl) (by kernel_rfl) (by kernel_rfl) (door_met os _)) ?_
  intro W base args ds gs before hval hW _ _ hL _
  exact law_core (A := Go.Ab.D5.prog) Go.Ab.D5.ok (tab_of hL) rfl (f := Tryd.f3) laid plain (by kernel_rfl) Tryd.underlying4 rfl (fun ds hl => by
    have hl : ds.length = 4 := hl.trans (by rw [Tryd.params3]; rfl)
    match ds, hl with
    | [_, _, _, _], _ => rfl) core hval hW
theorem over : Rows.showRightRow.holds Tryd.pinned (OpenSpec.ofChange Rows.showRightSpec) :=
  OpenClaim.holds_of_wide 3 Tryd.f3 rfl rfl rfl rfl rfl rfl rfl ⟨rfl, rfl, rfl, rfl, rfl⟩ rfl rfl rfl rfl rfl (by kernel_rfl) Tryd.func3 (by kernel_rfl)
    (of_decide_eq_true (by kernel_rfl)) (by unfold Func.isWrapper; first | (rw [if_pos (by decide +kernel)]; kernel_rfl) | (rw [if_neg (by decide +kernel)]; exact ⟨rfl, rfl⟩))
    (fun os started H enc _ => lifted os started H enc)
theorem tied : Claim7.holds Tryd.pinned (.plain (OpenSpec.ofChange Rows.showRightSpec)) Rows.showRightCard :=
  Claim7.holds_tied_plain_at .later [] [.data, .data, .data] true (true, "15c008cc1832c9376be6898284c94c85cadeaea0d8eae0e04228f5eb6948853d") true
    over (fun _ h => by cases h) (by kernel_rfl) (fun _ h => by cases h) showRight_row_tie rfl ⟨rfl, rfl⟩ (by kernel_rfl) rfl
    (fun f fn hf hfn => by
      obtain rfl : f = 3 := Option.some.inj ((show Tryd.prog.funcNamed "davit/davitlaw03.ShowRight" = some 3 by kernel_rfl).symm.trans hf) |>.symm
      obtain rfl : fn = Tryd.f3 := (Option.some.inj (Tryd.func3.symm.trans hfn)).symm
      exact ⟨by kernel_rfl, fun j t ht => by
        rw [Tryd.params3] at ht
        have hm : t ∈ [24, 28, 30, 33] := by simpa using Array.mem_of_getElem? ht
        have hall : ([24, 28, 30, 33].all fun u => !Tryd.prog.wantsStandIn u) = true := by kernel_rfl
        exact (show Tryd.prog.wantsStandIn t = false by simpa using List.all_eq_true.1 hall t hm)⟩)
    (by kernel_rfl)
end Go.Proofs.YteppgaecdkkkeaaDoor.showRight
namespace Go.Proofs.YteppgaecdkkkeaaDoor
/-- The statement. -/
theorem showRight_holds : Rows.ShowRightCardSaid := showRight.tied
#print axioms showRight_holds
end Go.Proofs.YteppgaecdkkkeaaDoor

/-
  For any module the law ShowLines of layer 3 answers true (a text that showing a module gives has as many lines as the document says), and its argument stays as it was.
  Conditions: none beyond the given row's own; the tables that its row lists are tied to the program's text by the card.
-/
import Derived.Test.YtpjgfmcefipjpaaDoorD3F25
import Derived.Test.YtpjgfmcefipjpaaDoorD3Ty
import Derived.Test.YtpjgfmcefipjpaaDoorRows
import Derived.Test.YtpjgfmcefipjpaaDoorTie
import Derived.Test.YtpjgfmcefipjpaaDoorCards
import Derived.WalkKit
import Derived.ProofKit
import Derived.OpenShut
import Derived.LaidMore
import Derived.Lib.LaidTab
import Derived.Stop.LaidErr
import Derived.SevenTiedAt
namespace Go.Proofs.YtpjgfmcefipjpaaDoor.lawsLaid
open Go Go.Ab Go.ChangeShapes Go.WideShapes Go.ChangeAt Go.RowKit
set_option linter.unusedVariables false
set_option maxRecDepth 100000
theorem own : ownKnob Tryd.prog.godebug = none := by kernel_rfl
theorem laid : laidOutB Tryd.prog = true := by kernel_rfl
theorem door_met (os : Os) (args : Array Value) : laidMetH Tryd.prog Rows.showLinesRow.laid ((World.doorLaid Tryd.prog 72 os).forCall (fun _ _ => 0) ⟨#[], args, []⟩).memory :=
  laidMetH_of_parts3 (fuel := 8) (laidMet_of_run' 8 (by kernel_rfl) (by kernel_rfl)) (by kernel_rfl) (by kernel_rfl)
theorem pow_tab : (Rows.laid_internal_strconv_uint64pow10 : DataW Unit) = Lib.tabData .u64 Lib.pow10Tab := by rfl
theorem tab_of {W : World} (h : laidMetH Tryd.prog Rows.showLinesRow.laid W) : (tabG Tryd.prog).P W (fun b => b < W.heap.size) := by
  rw [MakeChecks.laidMetH_plain _ _ _ (by kernel_rfl)] at h
  have h1 := laidMet.tail (laidMet.tail (x := ("math/bits.deBruijn32tab", Rows.laid_math_bits_deBruijn32tab)) (r := [("math/bits.deBruijn64tab", Rows.laid_math_bits_deBruijn64tab), ("internal/strconv.uint64pow10", Rows.laid_internal_strconv_uint64pow10)]) h)
  rw [pow_tab] at h1
  have h2 := Lib.tabIs_of_head (g := 1) (t := 165) (e := 117) (n := 20) (by kernel_rfl) (by kernel_rfl) Tryd.underlying165 Tryd.underlying117 (by kernel_rfl) (by kernel_rfl) h1
  refine ⟨h2, fun g hg => ?_⟩
  have hg1 : Tryd.prog.globalNamed "internal/strconv.uint64pow10" = some 1 := by kernel_rfl
  obtain rfl : 1 = g := Option.some.inj (hg1.symm.trans hg)
  unfold Lib.TabIs World.var? at h2
  rw [hg1] at h2
  simp only [Option.bind_some] at h2
  cases hc : W.heap[1]? with
  | none => rw [hc] at h2; cases h2
  | some o => exact (Array.getElem?_eq_some_iff.1 hc).1
end Go.Proofs.YtpjgfmcefipjpaaDoor.lawsLaid
namespace Go.Proofs.YtpjgfmcefipjpaaDoor.showLines
open Go Go.Ab Go.ChangeShapes Go.WideShapes Go.ChangeAt Go.RowKit
set_option linter.unusedVariables false
set_option maxRecDepth 100000
open lawsLaid
theorem plain : ∀ t ∈ Tryd.f5.params.toList, plainTy Tryd.prog 24 t = true ∧ Tryd.prog.readableRec t = true ∧ t < Tryd.prog.types.size := by
  intro t ht
  rw [Tryd.params5] at ht
  simp only [List.mem_cons, List.mem_nil_iff, or_false] at ht
  rcases ht with rfl <;> exact ⟨by kernel_rfl, by kernel_rfl, by decide +kernel⟩
theorem core : ∀ xs, ValsTy Tryd.prog Tryd.f5.params.toList xs → ∃ n, acall D3.prog n 5 xs = some (.lit (.bool true)) := by
  intro xs h
  rw [Tryd.params5] at h
  match xs, h with
  | [x], ⟨hx, _⟩ =>
    obtain ⟨cs, m, rfl, hm⟩ := D3.v_mod hx
    exact D3.lines_runs hm
theorem lifted (os : Os) (started : os.Started) (H : Type) (enc : TypeId × Value → H) :
    ReturnsInHanded {} Tryd.checked os 5 .any (fun w args => (Rows.showLinesSpec.pre enc Tryd.prog Tryd.f5 [] false w args ∧ laidMetH Tryd.prog Rows.showLinesRow.laid w) ∧ sizedMet enc Tryd.prog Tryd.f5 (OpenSpec.ofChange Rows.showLinesSpec) false w args)
      (Rows.showLinesSpec.post enc Tryd.prog Tryd.f5 false true false false) := by
  refine returnsInHanded_of_change_and (C := Tryd.checked) (X := fun w _ => laidMetH Tryd.prog Rows.showLinesRow.laid w) (fun _ _ _ hh h => h.of_heap hh) own started (by kernel_rfl) Tryd.func5
    (ChangeSpec.witness_shaped (enc := enc) (C := Tryd.checked) (os := os) (X := fun w _ => laidMetH Tryd.prog Rows.showLinesRow.laid w) false (World.doorLaid Tryd.prog 72 os) #[.agg #[.slice Option.none 0 0]] 8 rfl (World.shaped_of_RefB (by kernel_rfl) (by kernel_rfl)) (by kernel_rfl) (by kernel_rfl) (by kernel_rfl) (door_met os _)) ?_
  intro W base args ds gs before hval hW _ _ hL _
  exact law_core (A := Go.Ab.D3.prog) Go.Ab.D3.ok (tab_of hL) rfl (f := Tryd.f5) laid plain (by kernel_rfl) Tryd.underlying4 rfl (fun ds hl => by
    have hl : ds.length = 1 := hl.trans (by rw [Tryd.params5]; rfl)
    match ds, hl with
    | [_], _ => rfl) core hval hW
theorem over : Rows.showLinesRow.holds Tryd.pinned (OpenSpec.ofChange Rows.showLinesSpec) :=
  OpenClaim.holds_of_wide 5 Tryd.f5 rfl rfl rfl rfl rfl rfl rfl ⟨rfl, rfl, rfl, rfl, rfl⟩ rfl rfl rfl rfl rfl (by kernel_rfl) Tryd.func5 (by kernel_rfl)
    (of_decide_eq_true (by kernel_rfl)) (by unfold Func.isWrapper; first | (rw [if_pos (by decide +kernel)]; kernel_rfl) | (rw [if_neg (by decide +kernel)]; exact ⟨rfl, rfl⟩))
    (fun os started H enc _ => lifted os started H enc)
theorem tied : Claim7.holds Tryd.pinned (.plain (OpenSpec.ofChange Rows.showLinesSpec)) Rows.showLinesCard :=
  Claim7.holds_tied_plain_at .later [] [.data, .data, .data] true (true, "0901d2f80f33a1dced56c84846a3d9ebbb69ce72e1be38978180e656b7874c07") true
    over (fun _ h => by cases h) (by kernel_rfl) (fun _ h => by cases h) showLines_row_tie rfl ⟨rfl, rfl⟩ (by kernel_rfl) rfl
    (fun f fn hf hfn => by
      obtain rfl : f = 5 := Option.some.inj ((show Tryd.prog.funcNamed "davit/davitlaw03.ShowLines" = some 5 by kernel_rfl).symm.trans hf) |>.symm
      obtain rfl : fn = Tryd.f5 := (Option.some.inj (Tryd.func5.symm.trans hfn)).symm
      exact ⟨by kernel_rfl, fun j t ht => by
        rw [Tryd.params5] at ht
        have hm : t ∈ [24] := by simpa using Array.mem_of_getElem? ht
        have hall : ([24].all fun u => !Tryd.prog.wantsStandIn u) = true := by kernel_rfl
        exact (show Tryd.prog.wantsStandIn t = false by simpa using List.all_eq_true.1 hall t hm)⟩)
    (by kernel_rfl)
end Go.Proofs.YtpjgfmcefipjpaaDoor.showLines
namespace Go.Proofs.YtpjgfmcefipjpaaDoor
/-- The statement. -/
theorem showLines_holds : Rows.ShowLinesCardSaid := showLines.tied
#print axioms showLines_holds
end Go.Proofs.YtpjgfmcefipjpaaDoor

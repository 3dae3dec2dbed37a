
/- What the functions of layer 3 answer: a module's text, put together. No condition. -/
import Derived.Test.YtpjgfmcefipjpaaDoorD3F20
set_option linter.unusedVariables false
set_option maxRecDepth 10000
namespace Go.Ab.D3
open Go Go.Ab Go.Proofs
theorem beh {q : Option Bool} {y : TV} {m : List Int} (l : List Int) (w : List UInt8) (hm : RInts q y m) (hl : ∀ n, n ∈ l → inI n) (h4 : l.length ≤ 4) (h20 : m.length ≤ 20) (hw : w ≠ []) (h10 : w.length ≤ 10) :
    ∃ v, Runs prog 32 [y, .sl false 1 (l.map fun n => [I n])] v ∧ v.isSl = true ∧ Runs prog 26 [S w, frz v] (S (lineT w (l ++ m))) := by
  obtain ⟨v, h1, h2⟩ := behind_runs hm (rints hl (by omega)) (by omega)
  exact ⟨v, h1, h2.isSl, line_runs w (h2.frz fun _ _ h => h.frz) hw (by simp; omega)⟩
theorem ins_runs {q : Option Bool} {e : List TV} {x : DIns} (h : RIns q e x) (hl : x.args.length ≤ 20) : Runs prog 11 [.agg e] (S (insT x)) := by
  obtain ⟨g, rfl, hg, ho, hd, ha, hb, hk, hf⟩ := h
  obtain ⟨v, hv, hsl, hv2⟩ := beh [x.dst, x.f] [99, 97, 108, 108] hg (by simp [hd, hf]) (by simp) hl (by simp) (by simp)
  have hkI : inI x.k := by obtain ⟨_, _⟩ := hk; constructor <;> omega
  refine Runs.of (f11_MR _) ?_
  unfold f11_M
  refine Goes.chk rfl (Goes.tv rfl (Goes.ite rfl (fun _ => Goes.tv (v := I x.k) (pconv_w hk) ?_) fun _ => ?_))
  repeat' (first
    | refine Goes.chk rfl ?_
    | refine Goes.tv rfl ?_
    | refine Goes.ite rfl (fun _ => ?_) (fun _ => ?_)
    | refine Goes.call hv ?_
    | refine Goes.chk (by simp [fitsAt, zSl, isSlV, hsl]) ?_
    | refine Goes.call hv2 ?_
    | refine Goes.call (lineL (l := [x.dst, x.k]) _ (by simp [*]) (by simp) (by simp)) ?_
    | refine Goes.call (lineL (l := [x.dst, x.a]) _ (by simp [*]) (by simp) (by simp)) ?_
    | refine Goes.call (lineL (l := [x.a, x.b]) _ (by simp [*]) (by simp) (by simp)) ?_
    | refine Goes.call (lineL (l := [x.dst, x.a, x.b]) _ (by simp [*]) (by simp) (by simp)) ?_
    | refine Goes.call (lineL (l := [x.a]) _ (by simp [*]) (by simp) (by simp)) ?_
    | refine Goes.call (lineL (l := [x.dst]) _ (by simp [*]) (by simp) (by simp)) ?_)
  all_goals (refine goes_ret.2 ?_; simp_all [insT])
theorem end_runs {q : Option Bool} {e : List TV} {x : DEnd} (h : REnd q e x) (hl : x.args.length ≤ 20) : Runs prog 13 [.agg e] (S (endT x)) := by
  obtain ⟨g, rfl, hg, hk, ha, hd, hf, ht, he, hp⟩ := h
  obtain ⟨v, hv, hsl, hv2⟩ := beh [x.dst, x.f, x.to, x.pad] [105, 110, 118, 111, 107, 101] hg (by simp [hd, hf, ht, hp]) (by simp) hl (by simp) (by simp)
  refine Runs.of (f13_MR _) ?_
  unfold f13_M
  repeat' (first
    | refine Goes.chk rfl ?_
    | refine Goes.tv rfl ?_
    | refine Goes.ite rfl (fun _ => ?_) (fun _ => ?_)
    | refine Goes.call hv ?_
    | refine Goes.chk (by simp [fitsAt, zSl, isSlV, hsl]) ?_
    | refine Goes.call hv2 ?_
    | refine Goes.call (line0 _ (by simp) (by simp)) ?_
    | refine Goes.call (lineL (l := [x.a, x.to, x.els]) _ (by simp [*]) (by simp) (by simp)) ?_
    | refine Goes.call (lineL (l := [x.a]) _ (by simp [*]) (by simp) (by simp)) ?_
    | refine Goes.call (lineL (l := [x.to]) _ (by simp [*]) (by simp) (by simp)) ?_)
  all_goals (refine goes_ret.2 ?_; simp_all [endT])
theorem padd_str (a b : List UInt8) (h : a.length + b.length ≤ 10000) : pbin .str .add (S a) (S b) = some (S (a ++ b)) := by
  simp [pbin, strBin, buf_app, buf_size]; omega
theorem pad_runs {q : Option Bool} {e : List TV} {x : DPad} (h : RPad q e x) (hl : x.catches.length ≤ 20) : Runs prog 15 [.agg e] (S (padT x)) := by
  obtain ⟨g, rfl, hg, hd⟩ := h
  obtain ⟨v, hv, hv2⟩ := wide_runs hg (by omega)
  have hsl := hv2.isSl
  have hv3 := line_runs [99, 97, 116, 99, 104] (hv2.frz fun _ _ h => h.frz) (by simp) (by simp; omega)
  have hA := lineT_len (w := [112, 97, 100]) (ns := [x.dst]) (by simp [hd])
  have hC := lineT_len (w := [99, 97, 116, 99, 104]) hv2.inI
  simp only [List.length_cons, List.length_nil] at hA hC
  refine Runs.of (f15_MR _) ?_
  unfold f15_M
  repeat' (first
    | refine Goes.chk rfl ?_
    | refine Goes.tv hg.len ?_
    | refine Goes.tv (padd_str _ _ (by simp only [List.length_append, List.length_cons, List.length_nil]; omega)) ?_
    | refine Goes.tv rfl ?_
    | refine Goes.ite rfl (fun _ => ?_) (fun _ => ?_)
    | refine Goes.call hv ?_
    | refine Goes.chk (by simp [fitsAt, zSl, isSlV, hsl]) ?_
    | refine Goes.call hv3 ?_
    | refine Goes.call (lineL (l := [x.dst]) _ (by simp [*]) (by simp) (by simp)) ?_)
  all_goals (refine goes_ret.2 ?_; simp_all [padT])
end Go.Ab.D3

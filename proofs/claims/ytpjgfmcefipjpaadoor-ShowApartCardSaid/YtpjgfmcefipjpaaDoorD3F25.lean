
/- The law of layer 3: how many lines a text has. No condition. -/
import Derived.Test.YtpjgfmcefipjpaaDoorD3F24
set_option linter.unusedVariables false
set_option maxRecDepth 20000
namespace Go.Ab.D3
open Go Go.Ab Go.Proofs
theorem lines_end (a b : Nat) : Goes prog 5 (f5_4 (I a) (I b)) (B (tt (a = b))) := by
  unfold f5_4
  exact Goes.tv rfl (ret_tt (by simp; omega))
theorem lines_funcs {q : Option Bool} {x : TV} {m : DMod} {T : Nat} (hx : RL q 3 (RFunc q) x m.funcs) (hT : cntM m = T) (hb : T ≤ 65536) : ∀ d k (n : Nat), k + d = m.funcs.length → n + ((m.funcs.drop k).map cntF).sum = T →
    Goes prog 5 (f5_2 (I T) (I n) (I k) x) (B true) := by
  intro d
  induction d with
  | zero =>
    intro k n hk hn
    have hk : k = m.funcs.length := by omega
    subst hk
    simp only [List.drop_length, List.map_nil, List.sum_nil] at hn
    unfold f5_2
    refine Goes.tv (RL.len (by assumption)) (Goes.tv rfl (Goes.ite asB_end (fun h => nomatch h) fun _ => ?_))
    refine Goes.jmp (f5_4_R _ _) ?_
    have := lines_end T n
    rw [tt_true (by omega)] at this
    exact this
  | succ d ih =>
    intro k n hk hn
    have hkl : k < m.funcs.length := by omega
    have ha : m.funcs[k]? = some m.funcs[k] := List.getElem?_eq_getElem hkl
    rw [List.drop_eq_getElem_cons hkl, List.map_cons, List.sum_cons] at hn
    obtain ⟨e, he, hr⟩ := hx.idx (k := .i64) ha
    generalize m.funcs[k] = f at *
    obtain ⟨y, rfl, hy, _⟩ := hr
    have inner : ∀ d j (n : Nat), j + d = f.blocks.length → n + (((f.blocks.drop j).map cntB).sum + ((m.funcs.drop (k + 1)).map cntF).sum) = T →
        Goes prog 5 (f5_3 (I T) (I n) (I k) (I j) x) (B true) := by
      intro d
      induction d with
      | zero =>
        intro j n hj hn
        have hj : j = f.blocks.length := by omega
        subst hj
        simp only [List.drop_length, List.map_nil, List.sum_nil] at hn
        unfold f5_3
        refine Goes.tvs he (Goes.chk rfl (Goes.tv hy.len (Goes.tv rfl (Goes.ite asB_end (fun h => nomatch h) fun _ => ?_))))
        exact Goes.tv (inc hkl hx.bnd) (Goes.jmp (f5_2_R _ _ _ _) (ih (k + 1) n (by omega) (by omega)))
      | succ d ihb =>
        intro j n hj hn
        have hjl : j < f.blocks.length := by omega
        have hbl : f.blocks[j]? = some f.blocks[j] := List.getElem?_eq_getElem hjl
        rw [List.drop_eq_getElem_cons hjl, List.map_cons, List.sum_cons] at hn
        obtain ⟨eb, heb, hrb⟩ := hy.idx (k := .i64) hbl
        generalize f.blocks[j] = b at *
        obtain ⟨c, i, g, rfl, hc, hd, hi, hg, ho⟩ := hrb
        unfold f5_3
        refine Goes.tvs he (Goes.chk rfl (Goes.tv hy.len (Goes.tv rfl (Goes.ite (asB_lt hjl) (fun _ => ?_) fun h => nomatch h))))
        refine Goes.tvs he (Goes.chk rfl (Goes.tvs heb (Goes.chk rfl (Goes.tv hi.len (Goes.tv (padd (a := (n : Int)) (b := (b.ins.length : Int)) (by unfold cntB at hn; constructor <;> omega)) (Goes.tv (inc hjl hy.bnd) (Goes.jmp (f5_3_R _ _ _ _ _) ?_)))))))
        exact ihb (j + 1) (n + b.ins.length) (by omega) (by unfold cntB at hn ⊢; omega)
    have hfl : cntF f = 2 * f.blocks.length + (f.blocks.map cntB).sum := rfl
    unfold f5_2
    refine Goes.tv (RL.len (by assumption)) (Goes.tv rfl (Goes.ite (asB_lt hkl) (fun _ => ?_) fun h => nomatch h))
    refine Goes.tvs he (Goes.chk rfl (Goes.tv hy.len (Goes.tv (v := I ((2 * f.blocks.length : Nat) : Int)) ?_ (Goes.tv (padd (a := (n : Int)) (b := ((2 * f.blocks.length : Nat) : Int)) (by constructor <;> omega) ) (Goes.jmp (f5_3_R _ _ _ _ _) ?_)))))
    · simp only [pbin, if_true, intBin]
      rw [IntWalk.i64_in _ (by constructor <;> omega)]
      simp
    · exact inner f.blocks.length 0 (n + 2 * f.blocks.length) (by omega) (by simp only [List.drop_zero]; omega)
theorem lines_count {t : List UInt8} {y r : TV} (ht : t.length ≤ 65536) (next : Goes prog 5 (f5_1 (I ((t.count 10 : Nat) : Int)) y) r) : ∀ d k (n : Nat), k + d = t.length → n ≤ k → n + (t.drop k).count 10 = t.count 10 →
    Goes prog 5 (f5_0 (S t) (I n) (I k) y) r := by
  intro d
  induction d with
  | zero =>
    intro k n hk hnk hn
    have hk : k = t.length := by omega
    subst hk
    simp only [List.drop_length, List.count_nil] at hn
    unfold f5_0
    refine Goes.tv (v := I t.length) rfl (Goes.tv rfl (Goes.ite asB_end (fun h => nomatch h) fun _ => ?_))
    rw [show n = t.count 10 by omega]
    exact Goes.jmp (f5_1_R _ _) next
  | succ d ih =>
    intro k n hk hnk hn
    have hkl : k < t.length := by omega
    have ha : t[k]? = some t[k] := List.getElem?_eq_getElem hkl
    rw [List.drop_eq_getElem_cons hkl, List.count_cons] at hn
    generalize t[k] = c at *
    unfold f5_0
    refine Goes.tv (v := I t.length) rfl (Goes.tv rfl (Goes.ite (asB_lt hkl) (fun _ => ?_) fun h => nomatch h))
    refine Goes.tv (pstr_at ha) (Goes.tv (v := B (decide ((c.toNat : Int) = 10))) rfl (Goes.ite rfl (fun h => ?_) fun h => ?_))
    · have hc : c = 10 := by
        have : (c.toNat : Int) = 10 := by simpa using h
        exact UInt8.toNat_inj.1 (by simp; omega)
      subst hc
      refine Goes.tv (inc (k := n) (n := 65537) (by omega) (by omega)) (Goes.tv (inc hkl (by omega)) (Goes.jmp (f5_0_R _ _ _ _) (ih (k + 1) (n + 1) (by omega) (by omega) (by simp at hn; omega))))
    · have hc : ¬ c = 10 := by
        rintro rfl
        simp at h
      have hc' : (c == 10) = false := by simpa using hc
      rw [hc'] at hn
      exact Goes.tv (inc hkl (by omega)) (Goes.jmp (f5_0_R _ _ _ _) (ih (k + 1) n (by omega) (by omega) (by simpa using hn)))
/-- Promise: how many lines. -/
theorem lines_runs {q : Option Bool} {e : List TV} {m : DMod} (hm : RMod q e m) : Runs prog 5 [.agg e] (B true) := by
  obtain ⟨b, h7, hshort⟩ := r7 hm
  have h9 : shortM m → Runs prog 9 [.agg e] (showT m) := fun h => show_runs hm h (modT_room hm h)
  obtain ⟨x, rfl, hx⟩ := hm
  refine Runs.of (f5_MR _) ?_
  unfold f5_M
  refine Goes.chk rfl (Goes.call awake_runs (Goes.chk rfl (Goes.tv rfl (Goes.ite (v := false) rfl (fun h => nomatch h) fun _ => ?_))))
  refine Goes.call h7 (Goes.chk rfl (Goes.tv rfl (Goes.ite rfl (fun _ => Goes.ret) fun hb => ?_)))
  have hb : b = true := by simpa using hb
  specialize h9 (hshort hb)
  refine Goes.call h9 ?_
  by_cases hp : modP m
  · by_cases hl : (modT m).length ≤ 65536
    · rw [showT, if_pos hp, if_pos hl]
      refine Goes.chk rfl (Goes.chk rfl (Goes.chk rfl (Goes.tv rfl (Goes.ite (v := false) rfl (fun h => nomatch h) fun _ => ?_))))
      refine Goes.jmp (f5_0_R _ _ _ _) (lines_count hl ?_ (modT m).length 0 0 (by omega) (by omega) (by simp))
      have hle : (modT m).count 10 ≤ (modT m).length := List.count_le_length
      have hT : cntM m = (modT m).count 10 := (nl_mod m).symm
      unfold f5_1
      exact Goes.tv hx.len (Goes.jmp (f5_2_R _ _ _ _) (lines_funcs hx hT (by omega) m.funcs.length 0 m.funcs.length (by omega) (by rw [← hT]; rfl)))
    · rw [showT, if_pos hp, if_neg hl]
      exact Goes.chk rfl (Goes.chk rfl (Goes.chk rfl (Goes.tv rfl (Goes.ite (v := true) rfl (fun _ => Goes.tv (peql_same _) Goes.ret) fun h => nomatch h))))
  · rw [showT, if_neg hp]
    exact Goes.chk rfl (Goes.chk rfl (Goes.chk rfl (Goes.tv rfl (Goes.ite (v := true) rfl (fun _ => Goes.tv (peql_same _) Goes.ret) fun h => nomatch h))))
end Go.Ab.D3

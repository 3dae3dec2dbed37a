
/- What package frame's Right, New and Land answer. No condition. -/
import Derived.Test.YtpoidnkgadhdmaaH6F32
set_option linter.unusedVariables false
set_option maxRecDepth 10000
namespace Go.Ab
theorem asNat_in {n : Int} (h0 : 0 ≤ n) (h : inI n) : asNat (I n) = some n.toNat := by
  have := h.2
  simp [asNat, h0]; omega
theorem words_make {xs : List (List TV)} {args : List Int} (h : F2 RW1 xs args) {n : Nat} (hn : n ≤ 4294967296) : RWords (some true) (.sl true 1 (xs.take (List.replicate n [W 0]).length ++ (List.replicate n [W 0]).drop xs.length)) (args.take n ++ List.replicate (n - args.length) 0) := by
  have hlen := h.length
  refine .sl (by simp) ?_ (by simp; omega)
  rw [List.length_replicate, List.drop_replicate, hlen]
  refine (h.take n).append ?_
  exact F2.of_get (by simp) fun i e a he ha => by
    have h1 := (List.getElem?_eq_some_iff.1 he)
    have h2 := (List.getElem?_eq_some_iff.1 ha)
    obtain ⟨_, h1⟩ := h1
    obtain ⟨_, h2⟩ := h2
    simp at h1 h2
    subst h1 h2
    exact ⟨rfl, by decide, by decide⟩
theorem own_tup {a b c d e : Int} {y : TV} (h : isOwn y = true) : isOwnL [.agg [I a, I b, I c, y, W d], I e] = true := by
  simp [isOwn, isOwnL, h]
theorem RW0 : RW1 [W 0] 0 := ⟨rfl, by decide, by decide⟩
end Go.Ab
namespace Go.Ab.H6
open Go Go.Ab Go.Proofs
theorem mod_func {m : DMod} {g : DFunc} {n : Nat} (h : modP m) (hg : m.funcs[n]? = some g) : funcP m.funcs g := h.2.2 n (List.getElem?_eq_some_iff.1 hg).1 g hg
theorem mod_regs {m : DMod} {g : DFunc} {n : Nat} (h : modP m) (hg : m.funcs[n]? = some g) : 0 ≤ g.regs ∧ g.regs ≤ 256 := by
  obtain ⟨⟨h1, h2, h3, h4⟩, _⟩ := mod_func h hg
  exact ⟨by omega, h4⟩
theorem mod_dst {m : DMod} {g : DFunc} {b : DBlock} {n k : Nat} (h : modP m) (hg : m.funcs[n]? = some g) (hb : g.blocks[k]? = some b) (hl : b.landing = true) : within b.pad.dst g.regs := by
  obtain ⟨_, _, _, h4⟩ := mod_func h hg
  exact ((h4 k (List.getElem?_eq_some_iff.1 hb).1 b hb).2.1.2 hl).1
noncomputable def newD (m : DMod) (n : Int) (args : List Int) : Option DFrame := bif tt (modP m) then newT m n args else none
noncomputable def landD (m : DMod) (f : DFrame) (pad w : Int) : Option DFrame := bif tt (modP m ∧ frameQ m f) then landT m f pad w else none
/-- frame.Right -/
theorem rFRight {q q' : Option Bool} {e e' : List TV} {m : DMod} {f : DFrame} (hm : RMod q e m) (hf : RFrame q' e' f) : Runs prog 22 [.agg e, .agg e'] (B (tt (modP m ∧ frameQ m f))) := by
  have h8 := r8 hm
  obtain ⟨x, rfl, hx⟩ := hm
  obtain ⟨g, rfl, hg, ho⟩ := hf
  refine Runs.of (f22_MR _ _) ?_
  unfold f22_M
  refine Goes.chk rfl (Goes.chk rfl (Goes.call h8 (Goes.chk rfl (Goes.tv rfl (Goes.ite rfl (fun h => ?_) fun h => ?_)))))
  · exact ret_no fun h' => tt_iff0.1 (by simpa using h) h'.1
  have hM : modP m := tt_iff.1 (by simpa using h)
  refine Goes.tv hx.len (Goes.call (rOneOf _ _) (Goes.chk rfl (Goes.tv rfl (Goes.ite rfl (fun h => ?_) fun h => ?_))))
  · have h : ¬ within f.f m.funcs.length := tt_iff0.1 (by simpa using h)
    refine ret_no ?_
    rintro ⟨_, h0, u, hu, _⟩
    have := (List.getElem?_eq_some_iff.1 hu).1
    exact h ⟨h0, by omega⟩
  have hF : within f.f m.funcs.length := tt_iff.1 (by simpa using h)
  have hlt : f.f.toNat < m.funcs.length := by have := hF.1; have := hF.2; omega
  have hu : m.funcs[f.f.toNat]? = some m.funcs[f.f.toNat] := List.getElem?_eq_getElem hlt
  obtain ⟨e, he, hr⟩ := hx.idxI (k := .i64) hF.1 hu
  generalize m.funcs[f.f.toNat] = u at hu hr
  obtain ⟨b, rfl, hb, _⟩ := hr
  refine Goes.tvs he (Goes.chk rfl (Goes.tv hg.len (Goes.tv rfl (Goes.ite rfl (fun h => ?_) fun h => ?_))))
  · refine ret_no ?_
    rintro ⟨_, h0, u', hu', hl, _⟩
    rw [hu] at hu'
    cases hu'
    simp at h
    exact h hl
  have hL : (f.regs.length : Int) = u.regs := by simpa [nth] using h
  refine Goes.tv (RL.len hb) (Goes.call (rOneOf _ _) (Goes.chk rfl (Goes.tv rfl (Goes.ite rfl (fun h => ?_) fun h => ?_))))
  · have h : ¬ within f.block u.blocks.length := tt_iff0.1 (by simpa using h)
    refine ret_no ?_
    rintro ⟨_, h0, u', hu', hl, h1, v, hv, _⟩
    rw [hu] at hu'
    cases hu'
    have := (List.getElem?_eq_some_iff.1 hv).1
    exact h ⟨h1, by omega⟩
  have hB : within f.block u.blocks.length := tt_iff.1 (by simpa using h)
  have hlt2 : f.block.toNat < u.blocks.length := by have := hB.1; have := hB.2; omega
  have hv : u.blocks[f.block.toNat]? = some u.blocks[f.block.toNat] := List.getElem?_eq_getElem hlt2
  obtain ⟨e2, he2, hr2⟩ := hb.idxI (k := .i64) hB.1 hv
  generalize u.blocks[f.block.toNat] = v at hv hr2
  obtain ⟨c, i, g2, rfl, _, _, hi, _⟩ := hr2
  have hiff : (modP m ∧ frameQ m f) ↔ 0 ≤ f.at_ ∧ f.at_ ≤ v.ins.length := by
    constructor
    · rintro ⟨_, _, u', hu', _, _, v', hv', h⟩
      rw [hu] at hu'
      cases hu'
      rw [hv] at hv'
      cases hv'
      exact h
    · intro h
      exact ⟨hM, hF.1, u, hu, hL, hB.1, v, hv, h⟩
  rw [tt_congr hiff]
  refine Goes.tv rfl (Goes.ite rfl (fun h => ?_) fun h => ?_)
  · refine Goes.tvs he2 (Goes.chk rfl (Goes.tv (RL.len hi) (Goes.tv rfl ?_)))
    apply ret_tt
    have h : 0 ≤ f.at_ := by simpa [TV.cell, nth] using h
    simp [h]
  · refine ret_no fun h' => ?_
    have h : ¬ 0 ≤ f.at_ := by simpa [TV.cell, nth] using h
    exact h h'.1
/-- davitref05.Right -/
theorem rFRight' {q q' : Option Bool} {e e' : List TV} {m : DMod} {f : DFrame} (hm : RMod q e m) (hf : RFrame q' e' f) : Runs prog 24 [.agg e, .agg e'] (B (tt (frameQ m f))) := by
  obtain ⟨x, rfl, hx⟩ := hm
  obtain ⟨g, rfl, hg, ho⟩ := hf
  refine Runs.of (f24_MR _ _) ?_
  unfold f24_M
  refine Goes.chk rfl (Goes.chk rfl (Goes.tv rfl (Goes.ite rfl (fun h => ?_) fun h => ?_)))
  · have h : f.f < 0 := by simpa [TV.cell, nth] using h
    exact ret_no fun h' => by have := h'.1; omega
  have h0 : 0 ≤ f.f := by have : ¬ f.f < 0 := by simpa [TV.cell, nth] using h
                          omega
  refine Goes.tv hx.len (Goes.tv rfl (Goes.ite rfl (fun h => ?_) fun h => ?_))
  · have h : (m.funcs.length : Int) ≤ f.f := by simpa [TV.cell, nth] using h
    refine ret_no ?_
    rintro ⟨_, u, hu, _⟩
    have := (List.getElem?_eq_some_iff.1 hu).1
    omega
  have h1 : f.f < (m.funcs.length : Int) := by have : ¬ (m.funcs.length : Int) ≤ f.f := by simpa [TV.cell, nth] using h
                                               omega
  have hlt : f.f.toNat < m.funcs.length := by omega
  have hu : m.funcs[f.f.toNat]? = some m.funcs[f.f.toNat] := List.getElem?_eq_getElem hlt
  obtain ⟨e, he, hr⟩ := hx.idxI (k := .i64) h0 hu
  generalize m.funcs[f.f.toNat] = u at hu hr
  obtain ⟨b, rfl, hb, _⟩ := hr
  have hiff : frameQ m f ↔ (f.regs.length : Int) = u.regs ∧ 0 ≤ f.block ∧ ∃ b, u.blocks[f.block.toNat]? = some b ∧ 0 ≤ f.at_ ∧ f.at_ ≤ b.ins.length := by
    constructor
    · rintro ⟨_, u', hu', h⟩
      rw [hu] at hu'
      cases hu'
      exact h
    · intro h
      exact ⟨h0, u, hu, h⟩
  rw [tt_congr hiff]
  refine Goes.tvs he (Goes.chk rfl (Goes.tv hg.len (Goes.tv rfl (Goes.ite rfl (fun h => ?_) fun h => ?_))))
  rotate_left
  · have h : ¬ (f.regs.length : Int) = u.regs := by simpa [nth] using h
    exact ret_no fun h' => h h'.1
  have hL : (f.regs.length : Int) = u.regs := by simpa [nth] using h
  refine Goes.tv rfl (Goes.ite rfl (fun h => ?_) fun h => ?_)
  rotate_left
  · have h : ¬ 0 ≤ f.block := by simpa [TV.cell, nth] using h
    exact ret_no fun h' => h h'.2.1
  have hB0 : 0 ≤ f.block := by simpa [TV.cell, nth] using h
  refine Goes.tv (RL.len hb) (Goes.tv rfl (Goes.ite rfl (fun h => ?_) fun h => ?_))
  rotate_left
  · have h : ¬ f.block < (u.blocks.length : Int) := by simpa [TV.cell, nth] using h
    refine ret_no ?_
    rintro ⟨_, _, v, hv, _⟩
    have := (List.getElem?_eq_some_iff.1 hv).1
    omega
  have hB1 : f.block < (u.blocks.length : Int) := by simpa [TV.cell, nth] using h
  have hlt2 : f.block.toNat < u.blocks.length := by omega
  have hv : u.blocks[f.block.toNat]? = some u.blocks[f.block.toNat] := List.getElem?_eq_getElem hlt2
  obtain ⟨e2, he2, hr2⟩ := hb.idxI (k := .i64) hB0 hv
  generalize u.blocks[f.block.toNat] = v at hv hr2
  obtain ⟨c, i, g2, rfl, _, _, hi, _⟩ := hr2
  refine Goes.tv rfl (Goes.ite rfl (fun h => ?_) fun h => ?_)
  rotate_left
  · have h : ¬ 0 ≤ f.at_ := by simpa [TV.cell, nth] using h
    refine ret_no ?_
    rintro ⟨_, _, v, hv, h', _⟩
    exact h h'
  have hA : 0 ≤ f.at_ := by simpa [TV.cell, nth] using h
  refine Goes.tvs he2 (Goes.chk rfl (Goes.tv (RL.len hi) (Goes.tv rfl ?_)))
  apply ret_tt
  simp [hL, hB0, hv, hA]
/-- frame.New -/
theorem rNew {q q' : Option Bool} {e : List TV} {x : TV} {m : DMod} {n : Int} {args : List Int} (hm : RMod q e m) (hn : inI n) (hx : RWords q' x args) : ∃ e', Runs prog 18 [.agg e, I n, x] (.tup [.agg e', I (errOf (newD m n args))]) ∧ RFrame (some true) e' ((newD m n args).getD noFrame) := by
  have h8 := r8 hm
  obtain ⟨y, rfl, hy⟩ := hm
  have no : newD m n args = none → Runs prog 18 [.agg [y], I n, x] (.tup [.agg [I 0, I 0, I 0, .lit nilV, W 0], I 1]) → ∃ e', Runs prog 18 [.agg [y], I n, x] (.tup [.agg e', I (errOf (newD m n args))]) ∧ RFrame (some true) e' ((newD m n args).getD noFrame) := by
    intro h hr
    rw [h]
    exact ⟨_, hr, RNo⟩
  by_cases hM : modP m
  rotate_left
  · refine no (by simp [newD, tt_false hM]) ?_
    rw [tt_false hM] at h8
    refine Runs.of (f18_MR _ _ _) ?_
    unfold f18_M
    exact Goes.chk rfl (Goes.call h8 (Goes.chk rfl (Goes.tv rfl (Goes.ite rfl (fun _ => Goes.chk rfl Goes.ret) fun h => nomatch h))))
  rw [tt_true hM] at h8
  have hD : newD m n args = newT m n args := by simp [newD, tt_true hM]
  by_cases hF : within n m.funcs.length
  rotate_left
  · have hN : newD m n args = none := by
      rw [hD]
      unfold newT
      split
      · rename_i h0
        rw [within_none h0 fun h => hF ⟨h0, h⟩]
        rfl
      · rfl
    refine no hN ?_
    refine Runs.of (f18_MR _ _ _) ?_
    unfold f18_M
    refine Goes.chk rfl (Goes.call h8 (Goes.chk rfl (Goes.tv rfl (Goes.ite rfl (fun h => nomatch h) fun _ => ?_))))
    refine Goes.tv hy.len (Goes.call (rOneOf _ _) (Goes.chk rfl (Goes.tv rfl (Goes.ite rfl (fun _ => Goes.chk rfl Goes.ret) fun h => ?_))))
    exact absurd (tt_iff.1 (by simpa using h)) hF
  have hlt : n.toNat < m.funcs.length := by have := hF.1; have := hF.2; omega
  have hu : m.funcs[n.toNat]? = some m.funcs[n.toNat] := List.getElem?_eq_getElem hlt
  obtain ⟨e, he, hr⟩ := hy.idxI (k := .i64) hF.1 hu
  generalize m.funcs[n.toNat] = u at hu hr
  obtain ⟨hr0, hr1⟩ := mod_regs hM hu
  obtain ⟨b, rfl, hb, _⟩ := hr
  have hT : newT m n args = if (args.length : Int) = u.params then some ⟨n, 0, 0, args.take u.regs.toNat ++ List.replicate (u.regs.toNat - args.length) 0, 0⟩ else none := by simp [newT, hF.1, hu]
  by_cases hP : (args.length : Int) = u.params
  rotate_left
  · refine no (by rw [hD, hT, if_neg hP]) ?_
    refine Runs.of (f18_MR _ _ _) ?_
    unfold f18_M
    refine Goes.chk rfl (Goes.call h8 (Goes.chk rfl (Goes.tv rfl (Goes.ite rfl (fun h => nomatch h) fun _ => ?_))))
    refine Goes.tv hy.len (Goes.call (rOneOf _ _) (Goes.chk rfl (Goes.tv rfl (Goes.ite rfl (fun h => ?_) fun _ => ?_))))
    · exact absurd hF (tt_iff0.1 (by simpa using h))
    refine Goes.tv hx.len (Goes.tvs he (Goes.chk rfl (Goes.tv rfl (Goes.ite rfl (fun _ => Goes.chk rfl Goes.ret) fun h => ?_))))
    simp at h
    exact absurd h hP
  rw [hD, hT, if_pos hP]
  obtain ⟨xs, hxs, hF2⟩ := hx.elems
  have hmk := words_make hF2 (n := u.regs.toNat) (by omega)
  have hnat : asNat (I u.regs) = some u.regs.toNat := asNat_in hr0 ⟨by omega, by omega⟩
  refine ⟨[I n, I 0, I 0, _, W 0], ?_, ⟨_, rfl, hmk, hn, in0, in0, inW0⟩⟩
  refine Runs.of (f18_MR _ _ _) ?_
  unfold f18_M
  refine Goes.chk rfl (Goes.call h8 (Goes.chk rfl (Goes.tv rfl (Goes.ite rfl (fun h => nomatch h) fun _ => ?_))))
  refine Goes.tv hy.len (Goes.call (rOneOf _ _) (Goes.chk rfl (Goes.tv rfl (Goes.ite rfl (fun h => ?_) fun _ => ?_))))
  · exact absurd hF (tt_iff0.1 (by simpa using h))
  refine Goes.tv hx.len (Goes.tvs he (Goes.chk rfl (Goes.tv rfl (Goes.ite rfl (fun h => ?_) fun _ => ?_))))
  · simp at h
    exact absurd hP h
  refine Goes.tvs he (Goes.chk rfl (Goes.nat hnat (Goes.nat hnat (Goes.chk ?_ (Goes.rws hxs (Goes.tv (by simp only [pcopy, if_true]) (Goes.nat rfl (Goes.chk rfl (Goes.chk ?_ Goes.ret)))))))))
  · have : u.regs.toNat ≤ 4294967296 := by omega
    simp [this]
  · exact own_tup (RWords.isOwn hmk)
end Go.Ab.H6

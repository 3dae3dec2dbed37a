
/- What package frame's Land answers, and the document's of layer 5. No condition. -/
import Derived.Test.YtpoidnkgadhdmaaH6F33
set_option linter.unusedVariables false
set_option maxRecDepth 10000
namespace Go.Ab
theorem goal_landT {m : DMod} {f : DFrame} {u : DFunc} {pad w : Int} (hu : m.funcs[f.f.toNat]? = some u) (h : ¬ goalAt u.blocks pad true) : landT m f pad w = none := by
  unfold landT
  rw [hu]
  simp only [Option.bind_some]
  split
  · rename_i h0
    cases hb : u.blocks[pad.toNat]? with
    | none => rfl
    | some b =>
      simp only [Option.bind_some]
      split
      · rename_i hl
        exact absurd ⟨h0, b, hb, hl⟩ h
      · rfl
  · rfl
theorem landT_some {m : DMod} {f : DFrame} {u : DFunc} {b : DBlock} {pad w : Int} (hu : m.funcs[f.f.toNat]? = some u) (h0 : 0 ≤ pad) (hb : u.blocks[pad.toNat]? = some b) (hl : b.landing = true) :
    landT m f pad w = some ⟨f.f, pad, 0, f.regs.set b.pad.dst.toNat w, w⟩ := by
  simp [landT, hu, h0, hb, hl]
theorem len_of_within {n : Int} {k : Nat} (h : within n k) : n.toNat < k := by have := h.1; have := h.2; omega
theorem blt_true {a b : Nat} (h : a < b) : Nat.blt a b = true := by simpa using h
end Go.Ab
namespace Go.Ab.H6
open Go Go.Ab Go.Proofs
/-- frame.Land -/
theorem rLand {q q' : Option Bool} {e e' : List TV} {m : DMod} {f : DFrame} {pad w : Int} (hm : RMod q e m) (hf : RFrame q' e' f) (hl : f.regs.length ≤ 4294967296) (hp : inI pad) (hw : inW w) :
    ∃ e2, Runs prog 19 [.agg e, .agg e', I pad, W w] (.tup [.agg e2, I (errOf (landD m f pad w))]) ∧ RFrame (some true) e2 ((landD m f pad w).getD f) := by
  have hR := rFRight hm hf
  obtain ⟨eo, hro, hfo⟩ := rOwn hf hl
  obtain ⟨eg, hrg, hfg⟩ := rGo (b := pad) hf hl hp
  obtain ⟨y, rfl, hy⟩ := hm
  obtain ⟨g, rfl, hg, ho⟩ := hf
  have hfo' := hfo
  obtain ⟨yo, rfl, hyo, _⟩ := hfo
  obtain ⟨yg, rfl, hyg, _⟩ := hfg
  have noP : Goes prog 19 (f19_0 (I pad) (W w) (B true) y (I f.f) (I f.block) (I f.at_) g (W f.fly)) (.tup [.agg [I f.f, I f.block, I f.at_, yo, W f.fly], I 1]) := by
    unfold f19_0
    refine Goes.ite rfl (fun _ => ?_) fun h => nomatch h
    exact Goes.call hro (Goes.chk (fit_frame hyo.isSl) (Goes.chk (own_tup (RWords.isOwn hyo)) Goes.ret))
  by_cases hQ : modP m ∧ frameQ m f
  rotate_left
  · have hD : landD m f pad w = none := by simp only [landD, tt_false hQ]; rfl
    rw [hD]
    rw [tt_false hQ] at hR
    refine ⟨_, ?_, hfo'⟩
    refine Runs.of (f19_MR _ _ _ _) ?_
    unfold f19_M
    exact Goes.chk rfl (Goes.chk rfl (Goes.call hR (Goes.chk rfl (Goes.tv rfl (Goes.ite rfl (fun _ => f19_0_J noP) fun h => nomatch h)))))
  have hD : landD m f pad w = landT m f pad w := by simp only [landD, tt_true hQ]; rfl
  rw [hD]
  rw [tt_true hQ] at hR
  obtain ⟨hM, h0, u, hu, hL, _⟩ := hQ
  obtain ⟨e, he, hr⟩ := hy.idxI (k := .i64) h0 hu
  have hla := rLands hr pad
  obtain ⟨bs, rfl, hbs, _⟩ := hr
  by_cases hG : goalAt u.blocks pad true
  rotate_left
  · rw [goal_landT hu hG]
    rw [tt_false hG] at hla
    refine ⟨_, ?_, hfo'⟩
    refine Runs.of (f19_MR _ _ _ _) ?_
    unfold f19_M
    exact Goes.chk rfl (Goes.chk rfl (Goes.call hR (Goes.chk rfl (Goes.tv rfl (Goes.ite rfl (fun h => nomatch h) fun _ => Goes.tvs he (Goes.chk rfl (Goes.call hla (Goes.chk rfl (Goes.tv rfl (f19_0_J noP)))))))))) 
  rw [tt_true hG] at hla
  obtain ⟨hp0, b, hb, hbl⟩ := hG
  rw [landT_some hu hp0 hb hbl]
  have hdw := mod_dst hM hu hb hbl
  have hdw' : within b.pad.dst f.regs.length := by rw [hL]; exact hdw
  have hlt := len_of_within hdw'
  obtain ⟨eb, heb, hrb⟩ := hbs.idxI (k := .i64) hp0 hb
  obtain ⟨c, is, ga, rfl, hc, hdi, _⟩ := hrb
  obtain ⟨a, v', hpe, hs, hrl⟩ := RWords.put hyg hlt hw
  refine ⟨[I f.f, I pad, I 0, v', W w], ?_, ⟨_, rfl, hrl, ho.1, hp, in0, hw⟩⟩
  refine Runs.of (f19_MR _ _ _ _) ?_
  unfold f19_M
  refine Goes.chk rfl (Goes.chk rfl (Goes.call hR (Goes.chk rfl (Goes.tv rfl (Goes.ite rfl (fun h => nomatch h) fun _ => Goes.tvs he (Goes.chk rfl (Goes.call hla (Goes.chk rfl (Goes.tv rfl (f19_0_J ?_)))))))))) 
  unfold f19_0
  refine Goes.ite rfl (fun h => nomatch h) fun _ => ?_
  refine Goes.call hrg (Goes.chk (fit_frame hyg.isSl) (Goes.tvs he (Goes.chk rfl (Goes.tvs heb (Goes.chk rfl (Goes.nat hyg.slLen (Goes.nat (asNat_in hdw.1 hdi) (Goes.chk ?_ (Goes.chk rfl (Goes.tvs hpe (Goes.chk rfl (Goes.tv hs (Goes.chk rfl (Goes.chk (own_tup (RWords.isOwn hrl)) Goes.ret))))))))))))))
  rw [blt_true hlt]; exact (Bool.and_true _).trans hyg.slSize
/-- davitref05.With -/
theorem rWith {q : Option Bool} {e : List TV} {f : DFrame} {n w : Int} (hf : RFrame q e f) (hl : f.regs.length ≤ 4294967296) (hn : within n f.regs.length) (hni : inI n) (hw : inW w) :
    ∃ e2, Runs prog 54 [.agg e, I n, W w] (.agg e2) ∧ RFrame (some true) e2 { f with regs := f.regs.set n.toNat w } := by
  obtain ⟨g, rfl, hg, ho⟩ := hf
  obtain ⟨xs, hxs, hF2⟩ := hg.elems
  have hlen := hF2.length
  have hv : RWords (some true) (.sl true 1 xs) f.regs := .sl (by simp) hF2 (by omega)
  have hlt := len_of_within hn
  obtain ⟨a, v', hpe, hs, hrl⟩ := RWords.put hv hlt hw
  refine ⟨[I f.f, I f.block, I f.at_, v', W f.fly], ?_, ⟨_, rfl, hrl, ho⟩⟩
  refine Runs.of (f54_MR _ _ _) ?_
  unfold f54_M
  refine Goes.chk rfl (Goes.rws hxs (Goes.tv (v := .sl true 1 xs) (by simp [papp, chunks, room]; omega) (Goes.nat hv.slLen (Goes.nat (asNat_in hn.1 hni) (Goes.chk ?_ (Goes.chk rfl (Goes.tvs hpe (Goes.chk rfl (Goes.tv hs (Goes.chk ?_ Goes.ret))))))))))
  · rw [blt_true hlt]; exact (Bool.and_true _).trans hv.slSize
  · simp [isOwn, isOwnL, RWords.isOwn hrl, TV.cell, nth]
/-- davitref05.Land -/
theorem rLand' {q q' : Option Bool} {e e' : List TV} {m : DMod} {f : DFrame} {pad w : Int} (hm : RMod q e m) (hf : RFrame q' e' f) (hl : f.regs.length ≤ 4294967296) (hp : inI pad) (hw : inW w) (hM : modP m) (hQ : frameQ m f) :
    ∃ e2, Runs prog 25 [.agg e, .agg e', I pad, W w] (.tup [.agg e2, I (errOf (landT m f pad w))]) ∧ RFrame none e2 ((landT m f pad w).getD f) := by
  have hf' := hf
  obtain ⟨y, rfl, hy⟩ := hm
  obtain ⟨g, rfl, hg, ho⟩ := hf
  obtain ⟨h0, u, hu, hL, _⟩ := hQ
  obtain ⟨e, he, hr⟩ := hy.idxI (k := .i64) h0 hu
  obtain ⟨bs, rfl, hbs, _⟩ := hr
  by_cases hp0 : 0 ≤ pad
  rotate_left
  · rw [goal_landT hu fun h => hp0 h.1]
    refine ⟨_, ?_, hf'.weak⟩
    refine Runs.of (f25_MR _ _ _ _) ?_
    unfold f25_M
    refine Goes.chk rfl (Goes.chk rfl (Goes.tvs he (Goes.chk rfl (Goes.tv rfl (Goes.ite rfl (fun _ => Goes.ret) fun h => ?_)))))
    simp at h; omega
  by_cases hp1 : pad < (u.blocks.length : Int)
  rotate_left
  · rw [goal_landT hu fun h => by
      obtain ⟨_, b, hb, _⟩ := h
      have := (List.getElem?_eq_some_iff.1 hb).1
      omega]
    refine ⟨_, ?_, hf'.weak⟩
    refine Runs.of (f25_MR _ _ _ _) ?_
    unfold f25_M
    refine Goes.chk rfl (Goes.chk rfl (Goes.tvs he (Goes.chk rfl (Goes.tv rfl (Goes.ite rfl (fun h => ?_) fun _ => ?_)))))
    · simp at h; omega
    refine Goes.tv (RL.len hbs) (Goes.tv rfl (Goes.ite rfl (fun _ => Goes.ret) fun h => ?_))
    simp at h; omega
  have hlt2 : pad.toNat < u.blocks.length := by omega
  have hb : u.blocks[pad.toNat]? = some u.blocks[pad.toNat] := List.getElem?_eq_getElem hlt2
  obtain ⟨eb, heb, hrb⟩ := hbs.idxI (k := .i64) hp0 hb
  generalize u.blocks[pad.toNat] = b at hb hrb
  obtain ⟨c, is, ga, rfl, hc, hdi, _⟩ := hrb
  cases hbl : b.landing with
  | false =>
    rw [goal_landT hu fun h => by
      obtain ⟨_, b', hb', hl'⟩ := h
      rw [hb] at hb'
      cases hb'
      rw [hbl] at hl'
      cases hl']
    refine ⟨_, ?_, hf'.weak⟩
    rw [hbl] at heb
    refine Runs.of (f25_MR _ _ _ _) ?_
    unfold f25_M
    refine Goes.chk rfl (Goes.chk rfl (Goes.tvs he (Goes.chk rfl (Goes.tv rfl (Goes.ite rfl (fun h => ?_) fun _ => ?_)))))
    · simp at h; omega
    refine Goes.tv (RL.len hbs) (Goes.tv rfl (Goes.ite rfl (fun h => ?_) fun _ => ?_))
    · simp at h; omega
    exact Goes.tvs heb (Goes.chk rfl (Goes.tv rfl (Goes.ite rfl (fun _ => Goes.ret) fun h => nomatch h)))
  | true =>
    have hdw := mod_dst hM hu hb hbl
    have hdw' : within b.pad.dst f.regs.length := by rw [hL]; exact hdw
    rw [landT_some hu hp0 hb hbl]
    obtain ⟨e2, hr2, hf2⟩ := rWith (f := ⟨f.f, pad, 0, f.regs, w⟩) (n := b.pad.dst) (w := w) (q := q') ⟨g, rfl, hg, ho.1, hp, in0, hw⟩ hl hdw' hdi hw
    obtain ⟨v, rfl, hv, hov⟩ := hf2
    refine ⟨_, ?_, ⟨v, rfl, hv.weak fun _ _ h => h, hov⟩⟩
    rw [hbl] at heb
    refine Runs.of (f25_MR _ _ _ _) ?_
    unfold f25_M
    refine Goes.chk rfl (Goes.chk rfl (Goes.tvs he (Goes.chk rfl (Goes.tv rfl (Goes.ite rfl (fun h => ?_) fun _ => ?_)))))
    · simp at h; omega
    refine Goes.tv (RL.len hbs) (Goes.tv rfl (Goes.ite rfl (fun h => ?_) fun _ => ?_))
    · simp at h; omega
    refine Goes.tvs heb (Goes.chk rfl (Goes.tv rfl (Goes.ite rfl (fun h => nomatch h) fun _ => ?_)))
    exact Goes.chk rfl (Goes.chk rfl (Goes.tvs heb (Goes.chk rfl (Goes.call hr2 (Goes.chk (fit_frame hv.isSl) Goes.ret)))))
/-- davitref05.Same -/
theorem rFSame {q q' : Option Bool} {e e' : List TV} {a b : DFrame} (ha : RFrame q e a) (hb : RFrame q' e' b) : Runs prog 21 [.agg e, .agg e'] (B (tt (a = b))) := by
  obtain ⟨x, rfl, hx, _⟩ := ha
  obtain ⟨y, rfl, hy, _⟩ := hb
  refine Runs.of (f21_MR _ _) ?_
  unfold f21_M
  repeat' (first
    | refine Goes.chk rfl ?_
    | refine Goes.tv rfl ?_
    | refine Goes.tv (RL.len (by assumption)) ?_
    | refine Goes.nat rfl ?_
    | refine Goes.ite rfl (fun _ => ?_) (fun _ => ?_)
    | refine Goes.call (by assumption) ?_
    | refine Goes.tvs (by assumption) ?_)
  · apply ret_no; rw [frame_eq]; simp_all
  · apply ret_no; rw [frame_eq]; simp_all
  · apply ret_no; rw [frame_eq]; simp_all
  · apply ret_no; rw [frame_eq]; simp_all
  · rename_i h
    apply ret_no; rw [frame_eq]
    intro h'
    rw [h'.2.2.2.1] at h
    simp at h
  · rename_i h1 h2 h3 h4 h
    have hlen : a.regs.length = b.regs.length := by simp at h; omega
    have hiff : a = b ↔ a.regs = b.regs := by
      rw [frame_eq]
      simp at h1 h2 h3 h4
      simp [h1, h2, h3, h4]
    refine f21_0_J ?_
    rw [tt_congr (hiff.trans (list_eq_iff' hlen))]
    refine allLoop' (g := fun k => f21_0 (I k) (I a.f) (I a.block) (I a.at_) x (W a.fly) (I b.f) (I b.block) (I b.at_) y (W b.fly)) ?_ ?_
    · unfold f21_0
      refine Goes.tv (RL.len (by assumption)) (Goes.tv rfl (Goes.ite asB_end (fun h => nomatch h) fun _ => ?_))
      exact Goes.ret
    · intro k hk r h1 h2
      have hk' : k < b.regs.length := by omega
      have hak : a.regs[k]? = some a.regs[k] := List.getElem?_eq_getElem hk
      have hbk : b.regs[k]? = some b.regs[k] := List.getElem?_eq_getElem hk'
      obtain ⟨e, he, rfl, _⟩ := hx.idx (k := .i64) hak
      obtain ⟨e', he', rfl, _⟩ := hy.idx (k := .i64) hbk
      unfold f21_0
      refine Goes.tv (RL.len (by assumption)) (Goes.tv rfl (Goes.ite (asB_lt hk) (fun _ => ?_) fun h => nomatch h))
      refine Goes.tvs he (Goes.chk rfl (Goes.tvs he' (Goes.chk rfl (Goes.tv rfl (Goes.ite rfl (fun h => ?_) fun h => ?_)))))
      · rw [h1 (by rw [hak, hbk]; simpa [nth] using h)]; exact Goes.ret
      · refine Goes.tv (inc hk hx.bnd) (f21_0_J (h2 ?_))
        rw [hak, hbk]; simpa [nth] using h
end Go.Ab.H6

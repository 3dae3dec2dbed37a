
/- The laws of layer 5 over closed values. No condition. -/
import Derived.Test.YtpoidnkgadhdmaaH6F35
import Derived.Test.YtpoidnkgadhdmaaH6Ty
set_option linter.unusedVariables false
set_option maxRecDepth 100000
namespace Go.Ab
theorem regAt_set {l : List Int} {d a w : Int} (hd : 0 ≤ d) (h : ¬ a = d) : regAt (l.set d.toNat w) a = regAt l a := by
  unfold regAt
  split
  · rename_i h0
    rw [List.getElem?_set_ne (by omega)]
  · rfl
theorem answer_set {l : List Int} {x : DIns} {w : Int} (hd : 0 ≤ x.dst) (ha : ¬ x.a = x.dst) (hb : ¬ x.b = x.dst) : answerT (l.set x.dst.toNat w) x = answerT l x := by
  unfold answerT
  rw [regAt_set hd ha, regAt_set hd hb]
theorem frameQ_land {m : DMod} {f : DFrame} {pad w : Int} (h : frameQ m f) : frameQ m ((landT m f pad w).getD f) := by
  obtain ⟨h0, u, hu, hL, hr⟩ := h
  have hf : frameQ m f := ⟨h0, u, hu, hL, hr⟩
  by_cases hG : goalAt u.blocks pad true
  · obtain ⟨hp0, b, hb, hl⟩ := hG
    rw [landT_some hu hp0 hb hl]
    exact ⟨h0, u, hu, by simpa using hL, hp0, b, hb, Int.le_refl 0, by simp⟩
  · rw [goal_landT hu hG]
    exact hf
end Go.Ab
namespace Go.Ab.H6
open Go Go.Ab Go.Proofs
theorem rAwake : Runs prog 17 [] (B true) := ⟨30, by kernel_rfl⟩
theorem c_frame : Try.prog.cellsOf 47 = 5 := by kernel_rfl
theorem h_frame {cs : List TV} (h : HasTy Try.prog 47 cs) : ∃ a, RFrame (some false) cs a := by
  obtain ⟨hl, hf⟩ := h.struct_at Try.underlying47
  rw [c_frame] at hl
  obtain ⟨c0, cs, rfl, k0⟩ := len_cons hl
  obtain ⟨c1, cs, rfl, k1⟩ := len_cons k0
  obtain ⟨c2, cs, rfl, k2⟩ := len_cons k1
  obtain ⟨c3, cs, rfl, k3⟩ := len_cons k2
  obtain ⟨c4, cs, rfl, k4⟩ := len_cons k3
  obtain rfl := len_nil k4
  obtain ⟨n0, rfl, g0⟩ := h_int' (c := c0) (by have := hf 0 _ rfl; simpa [c_int] using this)
  obtain ⟨n1, rfl, g1⟩ := h_int' (c := c1) (by have := hf 1 _ rfl; simpa [c_int] using this)
  obtain ⟨n2, rfl, g2⟩ := h_int' (c := c2) (by have := hf 2 _ rfl; simpa [c_int] using this)
  obtain ⟨l, hls⟩ := h_words (c := c3) (by have := hf 3 _ rfl; simpa [c_words] using this)
  obtain ⟨n4, rfl, g4⟩ := h_word' (c := c4) (by have := hf 4 _ rfl; simpa [c_word] using this)
  exact ⟨⟨n0, n1, n2, l, n4⟩, _, rfl, hls, g0, g1, g2, g4⟩
theorem v_frame {x : TV} (h : ValTy Try.prog 47 x) : ∃ cs m, x = .agg cs ∧ RFrame (some false) cs m := by
  rcases h with ⟨⟨cs, rfl, h⟩, _⟩ | ⟨_, h, _⟩
  · obtain ⟨m, hm⟩ := h_frame h; exact ⟨cs, m, rfl, hm⟩
  · exact absurd Try.underlying47 (h _)
/-- The law FrameReckons. -/
theorem lReckons {e1 e2 e3 : List TV} {f : DFrame} {x : DIns} {p : DPad} {w b : Int} (hf : RFrame (some false) e1 f) (hx : RIns (some false) e2 x) (hp : RPad (some false) e3 p) (hb : inI b) :
    Runs prog 5 [.agg e1, .agg e2, .agg e3, W w, I b] (B true) := by
  have hf' := hf
  have hx' := hx
  have hc1 := rCatches (w := w) hp
  have hc2 := rCatches' (w := w) hp
  obtain ⟨g, rfl, hg, ho⟩ := hf
  obtain ⟨z, rfl, hz, hxo⟩ := hx
  obtain ⟨pc, rfl, hpc, hpo⟩ := hp
  refine Runs.of (f5_MR _ _ _ _ _) ?_
  unfold f5_M
  refine Goes.chk rfl (Goes.chk rfl (Goes.chk rfl (Goes.call rAwake (Goes.chk rfl (Goes.tv rfl (Goes.ite rfl (fun h => nomatch h) fun _ => ?_))))))
  refine Goes.tv hg.len (Goes.tv rfl (Goes.ite rfl (fun _ => Goes.ret) fun h => ?_))
  have hl : f.regs.length ≤ 300 := by have : ¬ ((300 : Int) < f.regs.length) := by simpa using h
                                      omega
  refine Goes.tv hpc.len (Goes.tv rfl (Goes.ite rfl (fun _ => Goes.ret) fun _ => ?_))
  obtain ⟨xs, hxs, hF2⟩ := hg.elems
  have hlen := hF2.length
  have hv : RWords (some true) (.sl true 1 xs) f.regs := .sl (by simp) hF2 (by omega)
  have hm : RFrame (some false) [I f.f, I f.block, I f.at_, frz (.sl true 1 xs), W f.fly] f := ⟨_, rfl, hv.frz fun _ _ h => h.frz, ho⟩
  obtain ⟨ea, hra, hfa⟩ := rReckon hm hx' (by omega)
  obtain ⟨eb, hrb, hfb⟩ := rReckon' hf' hx' (by omega)
  obtain ⟨ec, hrc, hfc⟩ := rGo (b := b) hm (by omega) hb
  have s1 := rFSame hfa.frz hfb.frz
  rw [tt_true rfl] at s1
  obtain ⟨ya, rfl, hya, _⟩ := hfa
  obtain ⟨yb, rfl, hyb, _⟩ := hfb
  have s2 := rFSame hfc.frz (b := { f with block := b, at_ := 0 }) (q' := some false) ⟨g, rfl, hg, ho.1, hb, in0, ho.2.2.2⟩
  rw [tt_true rfl] at s2
  obtain ⟨yc, rfl, hyc, _⟩ := hfc
  have s3 := rFSame hm hf'
  rw [tt_true rfl] at s3
  refine Goes.rws hxs (Goes.tv (v := .sl true 1 xs) (by simp [papp, chunks, room]; omega) (Goes.call hra (Goes.chk rfl (Goes.chk (fit_frame hya.isSl) (Goes.chk rfl (Goes.call hrb (Goes.chk rfl (Goes.chk (fit_frame hyb.isSl) (Goes.chk rfl (Goes.chk rfl (Goes.call s1 (Goes.chk rfl (Goes.ite rfl (fun _ => ?_) fun h => nomatch h)))))))))))))
  refine Goes.tv rfl (Goes.ite rfl (fun _ => ?_) fun h => ?_)
  rotate_left
  · simp at h
  refine Goes.call hc1 (Goes.chk rfl (Goes.call hc2 (Goes.chk rfl (Goes.tv rfl (Goes.ite rfl (fun _ => ?_) fun h => ?_)))))
  rotate_left
  · simp at h
  exact Goes.call hrc (Goes.chk (fit_frame hyc.isSl) (Goes.call s2 (Goes.chk rfl (Goes.ite rfl (fun _ => Goes.call s3 (Goes.chk rfl Goes.ret)) fun h => nomatch h))))
/-- The law FrameOne. -/
theorem lOne {e1 e2 : List TV} {f : DFrame} {x : DIns} (hf : RFrame (some false) e1 f) (hx : RIns (some false) e2 x) : Runs prog 6 [.agg e1, .agg e2] (B true) := by
  have hf' := hf
  have hx' := hx
  obtain ⟨g, rfl, hg, ho⟩ := hf
  obtain ⟨z, rfl, hz, hxo⟩ := hx
  refine Runs.of (f6_MR _ _) ?_
  unfold f6_M
  refine Goes.chk rfl (Goes.chk rfl (Goes.call rAwake (Goes.chk rfl (Goes.tv rfl (Goes.ite rfl (fun h => nomatch h) fun _ => ?_)))))
  refine Goes.tv hg.len (Goes.tv rfl (Goes.ite rfl (fun _ => Goes.ret) fun h => ?_))
  have hl : f.regs.length ≤ 300 := by have : ¬ ((300 : Int) < f.regs.length) := by simpa using h
                                      omega
  refine Goes.tv rfl (Goes.ite rfl (fun _ => Goes.ret) fun _ => ?_)
  refine Goes.tv rfl (Goes.ite rfl (fun _ => Goes.ret) fun _ => ?_)
  obtain ⟨ea, hra, hfa⟩ := rReckon hf' hx' (by omega)
  by_cases hD : within x.dst f.regs.length
  rotate_left
  · rw [reckon_no hD] at hra hfa
    have s1 := rFSame hfa.frz hf'
    rw [tt_true rfl] at s1
    obtain ⟨ya, rfl, hya, _⟩ := hfa
    exact Goes.call hra (Goes.chk rfl (Goes.chk (fit_frame hya.isSl) (Goes.chk rfl (Goes.tv rfl (Goes.ite rfl (fun _ => Goes.call s1 (Goes.chk rfl Goes.ret)) fun h => nomatch h)))))
  cases hT : answerT f.regs x with
  | none =>
    rw [reckon_none hT] at hra hfa
    have s1 := rFSame hfa.frz hf'
    rw [tt_true rfl] at s1
    obtain ⟨ya, rfl, hya, _⟩ := hfa
    exact Goes.call hra (Goes.chk rfl (Goes.chk (fit_frame hya.isSl) (Goes.chk rfl (Goes.tv rfl (Goes.ite rfl (fun _ => Goes.call s1 (Goes.chk rfl Goes.ret)) fun h => nomatch h)))))
  | some v =>
    rw [reckon_some hD hT] at hra hfa
    have hfa' := hfa.frz
    obtain ⟨ya, rfl, hya, hoa⟩ := hfa
    have hd0 := hD.1
    have hdl := len_of_within hD
    refine Goes.call hra (Goes.chk rfl (Goes.chk (fit_frame hya.isSl) (Goes.chk rfl (Goes.tv rfl (Goes.ite rfl (fun h => nomatch h) fun _ => ?_)))))
    refine Goes.tv (RL.len hya) (Goes.tv hg.len (Goes.tv rfl (Goes.ite rfl (fun h => ?_) fun _ => ?_)))
    · simp at h
    refine Goes.tv rfl (Goes.tv rfl (Goes.ite rfl (fun h => ?_) fun _ => ?_))
    · simp at h
    refine Goes.tv rfl (Goes.ite rfl (fun h => ?_) fun _ => ?_)
    · simp at h
    refine Goes.tv rfl (Goes.ite rfl (fun h => ?_) fun _ => ?_)
    · simp at h
    refine Goes.tv rfl (Goes.ite rfl (fun h => ?_) fun _ => ?_)
    · simp at h
    refine Goes.tv rfl (Goes.ite rfl (fun h => ?_) fun _ => ?_)
    · have h : x.dst < 0 := by simpa using h
      omega
    refine Goes.tv hg.len (Goes.tv rfl (Goes.ite rfl (fun h => ?_) fun _ => ?_))
    · have h : (f.regs.length : Int) ≤ x.dst := by simpa using h
      omega
    refine f6_0_J ?_
    -- the other places
    have fin : Goes prog 6 (f6_1 (I x.op) (I x.dst) (I x.a) (I x.b) (W x.k) (I x.f) z (I f.f) (I f.block) (I (IntKind.i64.wrap (f.at_ + 1))) (W f.fly) .hole .hole .hole ya .hole .hole) (B true) := by
      unfold f6_1
      refine Goes.tv rfl (Goes.ite rfl (fun _ => Goes.ret) fun h => ?_)
      have ha : ¬ x.a = x.dst := by simpa using h
      refine Goes.tv rfl (Goes.ite rfl (fun _ => Goes.ret) fun h => ?_)
      have hb : ¬ x.b = x.dst := by simpa using h
      obtain ⟨ec, hrc, hfc⟩ := rReckon hfa' hx' (by simp; omega)
      have hT2 : answerT (f.regs.set x.dst.toNat v) x = some v := by rw [answer_set hd0 ha hb, hT]
      rw [reckon_some (f := { f with regs := f.regs.set x.dst.toNat v, at_ := IntKind.i64.wrap (f.at_ + 1) }) (by simpa using hD) hT2] at hrc hfc
      obtain ⟨yc, rfl, hyc, hoc⟩ := hfc
      obtain ⟨e5, he5, rfl, _⟩ := hyc.pel (i := x.dst.toNat) (a := v) (by simp [hdl])
      obtain ⟨e6, he6, rfl, _⟩ := hya.pel (i := x.dst.toNat) (a := v) (by simp [hdl])
      have hn := asNat_in hd0 hxo.2.1
      have c1 : Nat.blt x.dst.toNat ((f.regs.set x.dst.toNat v).set x.dst.toNat v).length = true := blt_true (by simpa using hdl)
      have c2 : Nat.blt x.dst.toNat (f.regs.set x.dst.toNat v).length = true := blt_true (by simpa using hdl)
      refine Goes.call hrc (Goes.chk rfl (Goes.chk (fit_frame hyc.isSl) (Goes.chk rfl (Goes.ite rfl (fun _ => ?_) fun h => nomatch h))))
      refine Goes.nat hyc.slLen (Goes.nat hn (Goes.chk (by rw [c1]; exact (Bool.and_true _).trans hyc.slSize) (Goes.tvs he5 (Goes.chk rfl ?_))))
      refine Goes.nat hya.slLen (Goes.nat hn (Goes.chk (by rw [c2]; exact (Bool.and_true _).trans hya.slSize) (Goes.tvs he6 (Goes.chk rfl ?_))))
      refine Goes.tv rfl (goes_ret.2 ?_)
      simp
    have loop : ∀ d k, k + d = f.regs.length → Goes prog 6 (f6_0 (I (k : Int)) (I f.f) (I f.block) (I f.at_) g (W f.fly) (I x.op) (I x.dst) (I x.a) (I x.b) (W x.k) (I x.f) z (I f.f) (I f.block) (I (IntKind.i64.wrap (f.at_ + 1))) (W f.fly) .hole .hole .hole ya .hole .hole) (B true) := by
      intro d
      induction d with
      | zero =>
        intro k hk
        have hk : k = f.regs.length := by omega
        subst hk
        unfold f6_0
        exact Goes.tv hg.len (Goes.tv rfl (Goes.ite asB_end (fun h => nomatch h) fun _ => f6_1_J fin))
      | succ d ih =>
        intro k hk
        have hk' : k < f.regs.length := by omega
        have ih := ih (k + 1) (by omega)
        have ha : f.regs[k]? = some f.regs[k] := List.getElem?_eq_getElem hk'
        obtain ⟨e5, he5, rfl, _⟩ := hg.idx (k := .i64) ha
        unfold f6_0
        refine Goes.tv hg.len (Goes.tv rfl (Goes.ite (asB_lt hk') (fun _ => ?_) fun h => nomatch h))
        refine Goes.tv rfl (Goes.ite rfl (fun h => ?_) fun h => ?_)
        · have hne : ¬ (k : Int) = x.dst := by simpa using h
          obtain ⟨e6, he6, rfl, _⟩ := hya.pel (i := k) (a := f.regs[k]) (by simp only []; rw [List.getElem?_set_ne (by omega)]; exact ha)
          have c2 : Nat.blt k (f.regs.set x.dst.toNat v).length = true := blt_true (by simpa using hk')
          refine Goes.nat hya.slLen (Goes.nat (asNat_nat (by omega)) (Goes.chk (by rw [c2]; exact (Bool.and_true _).trans hya.slSize) (Goes.tvs he6 (Goes.chk rfl (Goes.tvs he5 (Goes.chk rfl (Goes.tv rfl (Goes.ite rfl (fun h => ?_) fun _ => ?_))))))))
          · simp at h
          · exact Goes.tv (inc hk' (by omega)) (f6_0_J ih)
        · exact Goes.tv (inc hk' (by omega)) (f6_0_J ih)
    exact loop f.regs.length 0 (by omega)
end Go.Ab.H6


/- The laws of layer 5 over closed values: FrameRight, FrameLands. No condition. -/
import Derived.Test.YtpoidnkgadhdmaaH6F36
set_option linter.unusedVariables false
set_option maxRecDepth 100000
namespace Go.Ab.H6
open Go Go.Ab Go.Proofs
theorem landD_of {m : DMod} {f : DFrame} {pad w : Int} (h : modP m ∧ frameQ m f) : landD m f pad w = landT m f pad w := by simp only [landD, tt_true h]; rfl
theorem landD_no {m : DMod} {f : DFrame} {pad w : Int} (h : ¬ (modP m ∧ frameQ m f)) : landD m f pad w = none := by simp only [landD, tt_false h]; rfl
theorem newD_of {m : DMod} {n : Int} {l : List Int} (h : modP m) : newD m n l = newT m n l := by simp only [newD, tt_true h]; rfl
theorem newD_no {m : DMod} {n : Int} {l : List Int} (h : ¬ modP m) : newD m n l = none := by simp only [newD, tt_false h]; rfl
/-- The law FrameRight. -/
theorem lRight {e1 e2 : List TV} {x3 : TV} {m : DMod} {f : DFrame} {n pad w : Int} {args : List Int} (hm : RMod (some false) e1 m) (hf : RFrame (some false) e2 f) (hn : inI n) (hx : RWords (some false) x3 args) (hp : inI pad) (hw : inW w) :
    Runs prog 4 [.agg e1, .agg e2, I n, x3, I pad, W w] (B true) := by
  have hm' := hm
  have hf' := hf
  obtain ⟨bs, h7, _⟩ := r7 hm
  have h9 := r9 hm
  have hR := rFRight hm hf
  have hR' := rFRight' hm hf
  obtain ⟨y, rfl, hy⟩ := hm
  obtain ⟨g, rfl, hg, ho⟩ := hf
  refine Runs.of (f4_MR _ _ _ _ _ _) ?_
  unfold f4_M
  refine Goes.chk rfl (Goes.chk rfl (Goes.call rAwake (Goes.chk rfl (Goes.tv rfl (Goes.ite rfl (fun h => nomatch h) fun _ => ?_)))))
  refine Goes.call h7 (Goes.chk rfl (Goes.tv rfl (Goes.ite rfl (fun _ => Goes.ret) fun _ => ?_)))
  refine Goes.tv hg.len (Goes.tv rfl (Goes.ite rfl (fun _ => Goes.ret) fun h => ?_))
  have hl : f.regs.length ≤ 300 := by have : ¬ ((300 : Int) < f.regs.length) := by simpa using h
                                      omega
  refine Goes.tv hx.len (Goes.tv rfl (Goes.ite rfl (fun _ => Goes.ret) fun _ => ?_))
  obtain ⟨ea, hra, hfa⟩ := rNew hm' hn hx
  obtain ⟨eb, hrb, hfb⟩ := rLand (pad := pad) (w := w) hm' hf' (by omega) hp hw
  have hfa' := hfa
  have hfb' := hfb
  obtain ⟨ya, rfl, hya, _⟩ := hfa
  obtain ⟨yb, rfl, hyb, _⟩ := hfb
  refine Goes.call hra (Goes.chk rfl (Goes.chk (fit_frame hya.isSl) (Goes.chk rfl ?_)))
  refine Goes.call hrb (Goes.chk rfl (Goes.chk (fit_frame hyb.isSl) (Goes.chk rfl ?_)))
  refine Goes.call h9 (Goes.chk rfl (Goes.tv rfl (Goes.ite rfl (fun h => ?_) fun h => ?_)))
  · have hM : ¬ modP m := tt_iff0.1 (by simpa using h)
    have hQ : ¬ (modP m ∧ frameQ m f) := fun h => hM h.1
    have s1 := rFSame hfa'.frz (b := noFrame) RNo
    rw [tt_true (by rw [newD_no hM]; rfl)] at s1
    have s2 := rFSame hfb'.frz hf'
    rw [tt_true (by rw [landD_no hQ]; rfl)] at s2
    rw [tt_false hQ] at hR
    refine Goes.tv rfl (Goes.ite rfl (fun _ => ?_) fun h => ?_)
    rotate_left
    · rw [newD_no hM] at h; cases h
    refine Goes.call s1 (Goes.chk rfl (Goes.ite rfl (fun _ => ?_) fun h => nomatch h))
    refine Goes.tv rfl (Goes.ite rfl (fun _ => ?_) fun h => ?_)
    rotate_left
    · rw [landD_no hQ] at h; cases h
    exact Goes.call s2 (Goes.chk rfl (Goes.ite rfl (fun _ => Goes.call hR (Goes.chk rfl (Goes.tv rfl Goes.ret))) fun h => nomatch h))
  have hM : modP m := tt_iff.1 (by simpa using h)
  obtain ⟨ec, hrc, hfc⟩ := rNew' hm' hn hx hM
  have s1 := rFSame hfa'.frz hfc.frz
  rw [tt_true (by rw [newD_of hM])] at s1
  obtain ⟨yc, rfl, hyc, _⟩ := hfc
  refine Goes.call hrc (Goes.chk rfl (Goes.chk (fit_frame hyc.isSl) (Goes.chk rfl (Goes.call s1 (Goes.chk rfl (Goes.tv rfl (Goes.ite rfl (fun h => nomatch h) fun _ => ?_)))))))
  refine Goes.tv rfl (Goes.ite rfl (fun h => ?_) fun _ => ?_)
  · rw [newD_of hM] at h
    simp at h
  refine Goes.call hR (Goes.chk rfl (Goes.call hR' (Goes.chk rfl (Goes.tv rfl (Goes.ite rfl (fun h => ?_) fun _ => ?_)))))
  · rw [tt_congr (show (modP m ∧ frameQ m f) ↔ frameQ m f from ⟨fun h => h.2, fun h => ⟨hM, h⟩⟩)] at h
    simp at h
  refine Goes.call hR' (Goes.chk rfl (Goes.tv rfl (Goes.ite rfl (fun h => ?_) fun h => ?_)))
  · have hN : ¬ frameQ m f := tt_iff0.1 (by simpa using h)
    have hQ : ¬ (modP m ∧ frameQ m f) := fun h => hN h.2
    have s2 := rFSame hfb'.frz hf'
    rw [tt_true (by rw [landD_no hQ]; rfl)] at s2
    refine Goes.tv rfl (Goes.ite rfl (fun _ => ?_) fun h => ?_)
    rotate_left
    · rw [landD_no hQ] at h; cases h
    exact Goes.call s2 (Goes.chk rfl Goes.ret)
  have hN : frameQ m f := tt_iff.1 (by simpa using h)
  have hQ : modP m ∧ frameQ m f := ⟨hM, hN⟩
  obtain ⟨ed, hrd, hfd⟩ := rLand' (pad := pad) (w := w) hm' hf' (by omega) hp hw hM hN
  have s2 := rFSame hfb'.frz hfd.frz
  rw [tt_true (by rw [landD_of hQ])] at s2
  obtain ⟨yd, rfl, hyd, _⟩ := hfd
  have hRb := rFRight hm' hfb'.frz
  rw [tt_true (by rw [landD_of hQ]; exact ⟨hM, frameQ_land hN⟩)] at hRb
  refine Goes.call hrd (Goes.chk rfl (Goes.chk (fit_frame hyd.isSl) (Goes.chk rfl (Goes.call s2 (Goes.chk rfl (Goes.ite rfl (fun _ => ?_) fun h => nomatch h))))))
  refine Goes.tv rfl (Goes.ite rfl (fun _ => ?_) fun h => ?_)
  rotate_left
  · rw [landD_of hQ] at h
    simp at h
  exact Goes.call hRb (Goes.chk rfl Goes.ret)
/-- The law FrameLands. -/
theorem lLands {e1 e2 : List TV} {m : DMod} {f : DFrame} {p w : Int} (hm : RMod (some false) e1 m) (hf : RFrame (some false) e2 f) (hp : 0 ≤ p ∧ p ≤ 255) (hw : inW w) :
    Runs prog 7 [.agg e1, .agg e2, .lit (.int .u8 p), W w] (B true) := by
  have hm' := hm
  have hf' := hf
  obtain ⟨bs, h7, _⟩ := r7 hm
  have hR := rFRight hm hf
  obtain ⟨y, rfl, hy⟩ := hm
  obtain ⟨g, rfl, hg, ho⟩ := hf
  refine Runs.of (f7_MR _ _ _ _) ?_
  unfold f7_M
  refine Goes.chk rfl (Goes.chk rfl (Goes.call rAwake (Goes.chk rfl (Goes.tv rfl (Goes.ite rfl (fun h => nomatch h) fun _ => ?_)))))
  refine Goes.call h7 (Goes.chk rfl (Goes.tv rfl (Goes.ite rfl (fun _ => Goes.ret) fun _ => ?_)))
  refine Goes.tv hg.len (Goes.tv rfl (Goes.ite rfl (fun _ => Goes.ret) fun h => ?_))
  have hl : f.regs.length ≤ 300 := by have : ¬ ((300 : Int) < f.regs.length) := by simpa using h
                                      omega
  refine Goes.call hR (Goes.chk rfl (Goes.tv rfl (Goes.ite rfl (fun _ => Goes.ret) fun h => ?_)))
  have hQ : modP m ∧ frameQ m f := tt_iff.1 (by simpa using h)
  have hM := hQ.1
  obtain ⟨h0, u, hu, hL, _⟩ := hQ.2
  obtain ⟨e, he, hr⟩ := hy.idxI (k := .i64) h0 hu
  obtain ⟨b, rfl, hb, _⟩ := hr
  have hpos : 0 < u.blocks.length := by
    obtain ⟨_, _, ⟨b0, hb0, _⟩, _⟩ := mod_func hM hu
    exact (List.getElem?_eq_some_iff.1 hb0).1
  have hK0 : 0 ≤ p % (u.blocks.length : Int) := Int.emod_nonneg _ (by omega)
  have hK1 : p % (u.blocks.length : Int) < u.blocks.length := Int.emod_lt_of_pos _ (by omega)
  have hrem : pbin (.int .i64) .rem (I p) (I (u.blocks.length : Int)) = some (I (p % (u.blocks.length : Int))) := by
    simp only [pbin, intBin, if_true]
    rw [if_neg (by omega), Int.tmod_eq_emod_of_nonneg hp.1]
  generalize hKd : p % (u.blocks.length : Int) = K at hK0 hK1 hrem
  have hbnd := RL.bnd hb
  have hKi : inI K := ⟨by omega, by omega⟩
  have hlt2 : K.toNat < u.blocks.length := by omega
  have hv : u.blocks[K.toNat]? = some u.blocks[K.toNat] := List.getElem?_eq_getElem hlt2
  obtain ⟨eb, heb, hrb⟩ := RL.idxI (k := .i64) hb hK0 hv
  generalize u.blocks[K.toNat] = v at hv hrb
  obtain ⟨c, is, ga, rfl, hc, hdi, _⟩ := hrb
  obtain ⟨ea, hra, hfa⟩ := rLand (pad := K) (w := w) hm' hf' (by omega) hKi hw
  rw [landD_of hQ] at hra hfa
  refine Goes.tvs he (Goes.chk rfl (Goes.tv (v := I p) (by simp [pconv]; exact IntWalk.i64_in _ (by omega)) (Goes.tv (RL.len hb) (Goes.tv hrem ?_))))
  cases hlnd : v.landing with
  | false =>
    rw [goal_landT hu fun h => by
      obtain ⟨_, b', hb', hl'⟩ := h
      rw [hv] at hb'
      cases hb'
      rw [hlnd] at hl'
      cases hl'] at hra hfa
    rw [hlnd] at heb
    have s1 := rFSame hfa.frz hf'
    rw [tt_true (show (none : Option DFrame).getD f = f from rfl)] at s1
    obtain ⟨ya, rfl, hya, _⟩ := hfa
    refine Goes.call hra (Goes.chk rfl (Goes.chk (fit_frame hya.isSl) (Goes.chk rfl (Goes.tvs heb (Goes.chk rfl (Goes.tv rfl (Goes.ite rfl (fun _ => ?_) fun h => nomatch h)))))))
    exact Goes.tv rfl (Goes.ite rfl (fun _ => Goes.call s1 (Goes.chk rfl Goes.ret)) fun h => nomatch h)
  | true =>
    have hdw := mod_dst hM hu hv hlnd
    have hRb : Runs prog 22 [.agg [y], .agg (frzL ea)] (B (tt (modP m ∧ frameQ m ((landT m f K w).getD f)))) := rFRight hm' hfa.frz
    rw [tt_true ⟨hM, frameQ_land hQ.2⟩] at hRb
    rw [landT_some hu hK0 hv hlnd] at hra hfa
    obtain ⟨ya, rfl, hya, _⟩ := hfa
    have hya : RWords (some true) ya (f.regs.set v.pad.dst.toNat w) := hya
    rw [hlnd] at heb
    have heb' := heb
    refine Goes.call hra (Goes.chk rfl (Goes.chk (fit_frame hya.isSl) (Goes.chk rfl (Goes.tvs heb (Goes.chk rfl (Goes.tv rfl (Goes.ite rfl (fun h => nomatch h) fun _ => ?_)))))))
    refine Goes.tv rfl (Goes.ite rfl (fun h => nomatch h) fun _ => ?_)
    refine Goes.tv rfl (Goes.ite rfl (fun h => ?_) fun _ => ?_)
    · simp at h
    refine Goes.tv rfl (Goes.ite rfl (fun h => nomatch h) fun _ => ?_)
    refine Goes.tv rfl (Goes.ite rfl (fun h => ?_) fun _ => ?_)
    · simp at h
    refine Goes.tv rfl (Goes.ite rfl (fun h => ?_) fun _ => ?_)
    · simp at h
    refine Goes.tv (RL.len hya) (Goes.tv hg.len (Goes.tv rfl (Goes.ite rfl (fun h => ?_) fun _ => ?_)))
    · simp at h
    refine f7_0_J ?_
    have hlen : (f.regs.set v.pad.dst.toNat w).length = f.regs.length := by simp
    have fin : Goes prog 7 (f7_2 y (I f.f) (I K) (I 0) (W w) .hole .hole .hole ya .hole .hole) (B true) := by
      unfold f7_2
      exact Goes.call hRb (Goes.chk rfl Goes.ret)
    have loop : ∀ d k, k + d = f.regs.length → Goes prog 7 (f7_0 (W w) (I K) (I (k : Int)) y (I f.f) (I f.block) (I f.at_) g (W f.fly) (I u.params) (I u.regs) b (I f.f) (I K) (I 0) (W w) .hole .hole .hole ya .hole .hole) (B true) := by
      intro d
      induction d with
      | zero =>
        intro k hk
        have hk : k = f.regs.length := by omega
        subst hk
        unfold f7_0
        refine Goes.tv (RL.len hya) (Goes.tv rfl (Goes.ite rfl (fun h => ?_) fun _ => f7_2_J fin))
        simp at h
      | succ d ih =>
        intro k hk
        have hk' : k < f.regs.length := by omega
        have ih := ih (k + 1) (by omega)
        have ha : f.regs[k]? = some f.regs[k] := List.getElem?_eq_getElem hk'
        obtain ⟨e5, he5, rfl, _⟩ := hg.idx (k := .i64) ha
        have c2 : Nat.blt k (f.regs.set v.pad.dst.toNat w).length = true := blt_true (by simpa using hk')
        unfold f7_0
        refine Goes.tv (RL.len hya) (Goes.tv rfl (Goes.ite rfl (fun _ => ?_) fun h => ?_))
        rotate_left
        · simp at h; omega
        refine Goes.tvs he5 (Goes.chk rfl (Goes.tvs heb' (Goes.chk rfl (Goes.tv rfl (Goes.ite rfl (fun h => ?_) fun h => ?_)))))
        · have hk2 : (k : Int) = v.pad.dst := by simpa [nth] using h
          obtain ⟨e6, he6, rfl, _⟩ := hya.pel (i := k) (a := w) (by rw [← hk2]; simp [hk'])
          refine f7_1_J ?_
          unfold f7_1
          refine Goes.nat hya.slLen (Goes.nat (asNat_nat (by omega)) (Goes.chk (by rw [c2]; exact (Bool.and_true _).trans hya.slSize) (Goes.tvs he6 (Goes.chk rfl (Goes.tv rfl (Goes.ite rfl (fun h => ?_) fun _ => ?_))))))
          · simp at h
          · exact Goes.tv (inc hk' (by omega)) (f7_0_J ih)
        · have hk2 : ¬ (k : Int) = v.pad.dst := by simpa [nth] using h
          have hd0 := hdw.1
          obtain ⟨e6, he6, rfl, _⟩ := hya.pel (i := k) (a := f.regs[k]) (by rw [List.getElem?_set_ne (by omega)]; exact ha)
          refine f7_1_J ?_
          unfold f7_1
          refine Goes.nat hya.slLen (Goes.nat (asNat_nat (by omega)) (Goes.chk (by rw [c2]; exact (Bool.and_true _).trans hya.slSize) (Goes.tvs he6 (Goes.chk rfl (Goes.tv rfl (Goes.ite rfl (fun h => ?_) fun _ => ?_))))))
          · simp at h
          · exact Goes.tv (inc hk' (by omega)) (f7_0_J ih)
    exact loop f.regs.length 0 (by omega)
end Go.Ab.H6

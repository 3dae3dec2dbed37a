
/- What package frame's functions answer, and the document's of layer 5. No condition. -/
import Derived.Test.YtpoidnkgadhdmaaH6F31
import Derived.Test.YtpoidnkgadhdmaaH6F11
set_option linter.unusedVariables false
set_option maxRecDepth 10000
namespace Go.Ab
/-- May a frame of a module be? (The module is asked apart.) -/
def frameQ (m : DMod) (f : DFrame) : Prop := 0 ≤ f.f ∧ ∃ g, m.funcs[f.f.toNat]? = some g ∧ (f.regs.length : Int) = g.regs ∧ 0 ≤ f.block ∧ ∃ b, g.blocks[f.block.toNat]? = some b ∧ 0 ≤ f.at_ ∧ f.at_ ≤ b.ins.length
def newT (m : DMod) (n : Int) (args : List Int) : Option DFrame :=
  if 0 ≤ n then (m.funcs[n.toNat]?).bind fun g => if (args.length : Int) = g.params then some ⟨n, 0, 0, args.take g.regs.toNat ++ List.replicate (g.regs.toNat - args.length) 0, 0⟩ else none else none
def noFrame : DFrame := ⟨0, 0, 0, [], 0⟩
def landT (m : DMod) (f : DFrame) (pad w : Int) : Option DFrame :=
  (m.funcs[f.f.toNat]?).bind fun g => if 0 ≤ pad then (g.blocks[pad.toNat]?).bind fun b => if b.landing then some ⟨f.f, pad, 0, f.regs.set b.pad.dst.toNat w, w⟩ else none else none
def errOf : Option DFrame → Int
  | some _ => 0
  | none => 1
theorem within_none {α : Type} {l : List α} {n : Int} (h0 : 0 ≤ n) (h : ¬ n < l.length) : l[n.toNat]? = none := List.getElem?_eq_none (by omega)
theorem RNo : RFrame (some true) [I 0, I 0, I 0, .lit nilV, W 0] noFrame := ⟨_, rfl, .nil, ⟨by decide, by decide⟩, ⟨by decide, by decide⟩, ⟨by decide, by decide⟩, ⟨by decide, by decide⟩⟩
def zFrame : List Value := [.int .i64 0, .int .i64 0, .int .i64 0, .slice none 0 0, .int .u16 0]
theorem fit_frame {a b c d : Int} {y : TV} (h : y.isSl = true) : (Bool.and ((TV.agg [I a, I b, I c, y, W d]).isAgg 5) (fitsAt zFrame ((TV.agg [I a, I b, I c, y, W d]).cellsL true) 0)) = true := by
  simp [fitsAt, TV.isAgg, TV.cellsL, zFrame, isSlV, h, TV.isSc, scV]
theorem in0 : inI 0 := ⟨by decide, by decide⟩
theorem inW0 : inW 0 := ⟨by decide, by decide⟩
theorem RL.set_in {α : Type} {q : Option Bool} {s : Nat} {R : List TV → α → Prop} {x : TV} {l : List α} (h : RL q s R x l) {n : Nat} {a : α} (hn : l[n]? = some a) : ∃ e, R e a := by
  obtain ⟨e, _, hr⟩ := h.idx (k := .i64) hn
  exact ⟨e, hr⟩
end Go.Ab
namespace Go.Ab.H6
open Go Go.Ab Go.Proofs
theorem rOneOf (c n : Int) : Runs prog 50 [I c, I n] (B (tt (within n c))) := by
  refine Runs.of (f50_MR _ _) ?_
  unfold f50_M
  repeat' (first
    | refine Goes.chk rfl ?_
    | refine Goes.tv rfl ?_
    | refine Goes.tv (RL.len (by assumption)) ?_
    | refine Goes.nat rfl ?_
    | refine Goes.ite rfl (fun _ => ?_) (fun _ => ?_)
    | refine Goes.call (by assumption) ?_
    | refine Goes.tvs (by assumption) ?_)
  all_goals (apply ret_tt; simp_all [within] <;> omega)
theorem rThere {q : Option Bool} {e : List TV} {x : DFrame} (he : RFrame q e x) (n : Int) : Runs prog 56 [.agg e, I n] (B (tt (within n x.regs.length))) := by
  obtain ⟨g, rfl, hg, _⟩ := he
  refine Runs.of (f56_MR _ _) ?_
  unfold f56_M
  repeat' (first
    | refine Goes.chk rfl ?_
    | refine Goes.tv rfl ?_
    | refine Goes.tv (RL.len (by assumption)) ?_
    | refine Goes.nat rfl ?_
    | refine Goes.ite rfl (fun _ => ?_) (fun _ => ?_)
    | refine Goes.call (by assumption) ?_
    | refine Goes.tvs (by assumption) ?_)
  all_goals (apply ret_tt; simp_all [within] <;> omega)
theorem rLands {q : Option Bool} {e : List TV} {g : DFunc} (he : RFunc q e g) (n : Int) : Runs prog 51 [.agg e, I n] (B (tt (goalAt g.blocks n true))) := by
  obtain ⟨y, rfl, hy, _⟩ := he
  refine Runs.of (f51_MR _ _) ?_
  unfold f51_M
  refine Goes.chk rfl (Goes.tv hy.len (Goes.call (rOneOf _ _) (Goes.chk rfl (Goes.ite rfl (fun h => ?_) fun h => ?_))))
  · have h := tt_iff.1 h
    have hlt : n.toNat < g.blocks.length := by have := h.1; have := h.2; omega
    have hb : g.blocks[n.toNat]? = some g.blocks[n.toNat] := List.getElem?_eq_getElem hlt
    obtain ⟨e, he, hr⟩ := hy.idxI (k := .i64) h.1 hb
    obtain ⟨c, i, g', rfl, _⟩ := hr
    refine Goes.tvs he (Goes.chk rfl ?_)
    apply ret_tt
    simp [goalAt, h.1, hb]
  · refine ret_no ?_
    rintro ⟨h0, b, hb, _⟩
    have := (List.getElem?_eq_some_iff.1 hb).1
    exact tt_iff0.1 h ⟨h0, by omega⟩
/-- frame.own -/
theorem rOwn {q : Option Bool} {e : List TV} {x : DFrame} (he : RFrame q e x) (hl : x.regs.length ≤ 4294967296) : ∃ e', Runs prog 52 [.agg e] (.agg e') ∧ RFrame (some true) e' x := by
  obtain ⟨g, rfl, hg, ho⟩ := he
  obtain ⟨y, hc, hr⟩ := r39 hg hl
  have hr : RWords (some true) y x.regs := hr
  refine ⟨[I x.f, I x.block, I x.at_, y, W x.fly], ?_, ⟨_, rfl, hr, ho⟩⟩
  refine Runs.of (f52_MR _) ?_
  unfold f52_M
  refine Goes.chk rfl (Goes.call hc (Goes.chk ?_ (Goes.chk ?_ Goes.ret)))
  · simp [zSl, fitsAt, isSlV, hr.isSl]
  · simp [isOwn, isOwnL, RWords.isOwn hr, TV.cell, nth]
/-- frame.Go -/
theorem rGo {q : Option Bool} {e : List TV} {x : DFrame} {b : Int} (he : RFrame q e x) (hl : x.regs.length ≤ 4294967296) (hb : inI b) : ∃ e', Runs prog 30 [.agg e, I b] (.agg e') ∧ RFrame (some true) e' { x with block := b, at_ := 0 } := by
  obtain ⟨e', hr, he'⟩ := rOwn he hl
  obtain ⟨g, rfl, hg, ho⟩ := he
  obtain ⟨y, rfl, hy, ho'⟩ := he'
  refine ⟨[I x.f, I b, I 0, y, W x.fly], ?_, ⟨_, rfl, hy, ho.1, hb, in0, ho.2.2.2⟩⟩
  refine Runs.of (f30_MR _ _) ?_
  unfold f30_M
  refine Goes.chk rfl (Goes.call hr (Goes.chk (fit_frame hy.isSl) (Goes.chk rfl (Goes.chk ?_ Goes.ret))))
  simp [isOwn, isOwnL, TV.cell, nth, RWords.isOwn hy]
/-- frame.answer -/
theorem rAnswer {q q' : Option Bool} {g : TV} {l : List Int} {e : List TV} {x : DIns} (hg : RWords q g l) (he : RIns q' e x) : Runs prog 55 [g, .agg e] (ansW (answerT l x)) := by
  obtain ⟨a, rfl, ha, ho⟩ := he
  have h2 := rTwo x.op
  refine Runs.of (f55_MR _ _) ?_
  unfold f55_M
  refine Goes.chk rfl (Goes.tv rfl (Goes.ite rfl (fun h => ?_) fun h1 => ?_))
  · refine goes_ret.2 ?_
    simp at h
    simp [answerT, h, ansW, TV.cell, nth]
  have h1 : ¬ x.op = 1 := by simpa using h1
  refine Goes.tv hg.len (Goes.call (rOneOf _ _) (Goes.chk rfl (Goes.tv rfl (Goes.ite rfl (fun h => ?_) fun h => ?_))))
  · have h : ¬ within x.a l.length := tt_iff0.1 (by simpa using h)
    refine goes_ret.2 ?_
    simp [answerT, h1, regAt_none h, ansW]
  have hA : within x.a l.length := tt_iff.1 (by simpa using h)
  obtain ⟨u, hu, hul⟩ := within_at hA
  obtain ⟨hi, hui⟩ := RWords.at_ hg (k := .i64) hA.1 hu
  refine Goes.tvs hi (Goes.chk rfl (Goes.call h2 (Goes.chk rfl (Goes.tv rfl (Goes.ite rfl (fun h => ?_) fun h => ?_)))))
  · have h : ¬ (3 ≤ x.op ∧ x.op ≤ 8) := by simp at h; omega
    have hd := rDo x.op u 0
    have hT : answerT l x = doW x.op u 0 := by simp [answerT, h1, regAt_some hA.1 hu, h]
    rw [hT]
    refine Goes.call hd ?_
    cases doW x.op u 0 with
    | none => exact Goes.chk rfl (Goes.chk rfl (Goes.chk rfl Goes.ret))
    | some v => exact Goes.chk rfl (Goes.chk rfl (Goes.chk rfl Goes.ret))
  have h3 : 3 ≤ x.op ∧ x.op ≤ 8 := by simpa using h
  refine Goes.tv hg.len (Goes.call (rOneOf _ _) (Goes.chk rfl (Goes.tv rfl (Goes.ite rfl (fun h => ?_) fun h => ?_))))
  · have h : ¬ within x.b l.length := tt_iff0.1 (by simpa using h)
    refine goes_ret.2 ?_
    simp [answerT, h1, regAt_some hA.1 hu, h3, regAt_none h, ansW]
  have hB : within x.b l.length := tt_iff.1 (by simpa using h)
  obtain ⟨v, hv, hvl⟩ := within_at hB
  obtain ⟨hi', hvi⟩ := RWords.at_ hg (k := .i64) hB.1 hv
  have hd := rDo x.op u v
  have hT : answerT l x = doW x.op u v := by simp [answerT, h1, regAt_some hA.1 hu, h3, regAt_some hB.1 hv]
  rw [hT]
  refine Goes.tvs hi' (Goes.chk rfl (Goes.call hd ?_))
  cases doW x.op u v with
  | none => exact Goes.chk rfl (Goes.chk rfl (Goes.chk rfl Goes.ret))
  | some v => exact Goes.chk rfl (Goes.chk rfl (Goes.chk rfl Goes.ret))
theorem answer_in {q q' : Option Bool} {g : TV} {l : List Int} {e : List TV} {x : DIns} (hg : RWords q g l) (he : RIns q' e x) {v : Int} (h : answerT l x = some v) : inW v := by
  obtain ⟨a, rfl, ha, ho⟩ := he
  unfold answerT at h
  split at h
  · cases h; exact ho.2.2.2.2.1
  · cases ha' : regAt l x.a with
    | none => rw [ha'] at h; cases h
    | some u =>
      have hu : inW u := by
        unfold regAt at ha'
        split at ha'
        · exact RWords.mem hg ha'
        · cases ha'
      rw [ha'] at h
      simp only [Option.bind_some] at h
      split at h
      · cases hb : regAt l x.b with
        | none => rw [hb] at h; cases h
        | some w => rw [hb] at h; exact doW_in hu h
      · exact doW_in hu h
/-- frame.Reckon -/
theorem rReckon {q q' : Option Bool} {e e' : List TV} {f : DFrame} {x : DIns} (hf : RFrame q e f) (hx : RIns q' e' x) (hl : f.regs.length ≤ 4294967296) :
    ∃ e2, Runs prog 26 [.agg e, .agg e'] (.tup [.agg e2, B (reckonT f x).2]) ∧ RFrame (some true) e2 (reckonT f x).1 := by
  obtain ⟨e1, hr, hf1⟩ := rOwn hf hl
  have hf1' := hf1
  obtain ⟨g0, rfl, hg0, _⟩ := hf
  obtain ⟨y, rfl, hy, ho'⟩ := hf1
  have hans := rAnswer (hy.frz (S := RW1) fun _ _ h => h.frz) hx
  have hx' := hx
  obtain ⟨z, rfl, hz, hxo⟩ := hx
  have hfit := fit_frame (a := f.f) (b := f.block) (c := f.at_) (d := f.fly) hy.isSl
  have hown : isOwnL [TV.agg [I f.f, I f.block, I f.at_, y, W f.fly], B false] = true := by simp [isOwn, isOwnL, RWords.isOwn hy]
  cases hT : answerT f.regs x with
  | none =>
    rw [hT] at hans
    have hR : reckonT f x = (f, false) := by simp [reckonT, hT]
    rw [hR]
    refine ⟨_, ?_, hf1'⟩
    refine Runs.of (f26_MR _ _) ?_
    unfold f26_M
    exact Goes.chk rfl (Goes.chk rfl (Goes.call hr (Goes.chk hfit (Goes.call hans (Goes.chk rfl (Goes.chk rfl (Goes.chk rfl (Goes.tv rfl (Goes.ite rfl (fun _ => Goes.chk hown Goes.ret) fun h => nomatch h)))))))))
  | some v =>
    rw [hT] at hans
    have hv := answer_in hy hx' hT
    by_cases hD : within x.dst f.regs.length
    · have hD' : 0 ≤ x.dst ∧ x.dst < f.regs.length := hD
      have hR : reckonT f x = ({ f with regs := f.regs.set x.dst.toNat v, at_ := IntKind.i64.wrap (f.at_ + 1) }, true) := by simp [reckonT, hT, hD']
      have hlt : x.dst.toNat < f.regs.length := by omega
      obtain ⟨a, v', hp, hs, hrl⟩ := RWords.put hy hlt hv
      have hbl : Nat.blt x.dst.toNat f.regs.length = true := by simpa using hlt
      rw [hR]
      refine ⟨[I f.f, I f.block, I (IntKind.i64.wrap (f.at_ + 1)), v', W f.fly], ?_, ⟨_, rfl, hrl, ho'.1, ho'.2.1, wrap_i64 _, ho'.2.2.2⟩⟩
      refine Runs.of (f26_MR _ _) ?_
      unfold f26_M
      refine Goes.chk rfl (Goes.chk rfl (Goes.call hr (Goes.chk hfit (Goes.call hans (Goes.chk rfl (Goes.chk rfl (Goes.chk rfl (Goes.tv rfl (Goes.ite rfl (fun h => nomatch h) fun _ => ?_)))))))))
      refine Goes.tv hy.len (Goes.call (rOneOf _ _) (Goes.chk rfl (Goes.tv rfl (Goes.ite rfl (fun h => ?_) fun _ => ?_))))
      · exact absurd hD (tt_iff0.1 (by simpa using h))
      · have hdn : asNat (I x.dst) = some x.dst.toNat := by
          have := hxo.2.1.2
          simp [asNat, hD.1]; omega
        refine Goes.nat hy.slLen (Goes.nat hdn (Goes.chk ?_ (Goes.tvs hp (Goes.chk rfl (Goes.tv hs (Goes.tv rfl (Goes.chk ?_ Goes.ret)))))))
        · rw [hbl]; exact (Bool.and_true _).trans hy.slSize
        · simp [isOwn, isOwnL, RWords.isOwn hrl, TV.cell, nth]
    · have hD' : ¬ (0 ≤ x.dst ∧ x.dst < f.regs.length) := hD
      have hR : reckonT f x = (f, false) := by simp only [reckonT, hT]; rw [if_neg hD']
      rw [hR]
      refine ⟨_, ?_, hf1'⟩
      refine Runs.of (f26_MR _ _) ?_
      unfold f26_M
      refine Goes.chk rfl (Goes.chk rfl (Goes.call hr (Goes.chk hfit (Goes.call hans (Goes.chk rfl (Goes.chk rfl (Goes.chk rfl (Goes.tv rfl (Goes.ite rfl (fun h => nomatch h) fun _ => ?_)))))))))
      refine Goes.tv hy.len (Goes.call (rOneOf _ _) (Goes.chk rfl (Goes.tv rfl (Goes.ite rfl (fun _ => Goes.chk hown Goes.ret) fun h => ?_))))
      exact absurd (tt_iff.1 (by simpa using h)) hD
/-- frame.Catches -/
theorem rCatches {q : Option Bool} {e : List TV} {p : DPad} {w : Int} (he : RPad q e p) : Runs prog 28 [.agg e, W w] (B (tt (p.all = true ∨ w ∈ p.catches))) := by
  obtain ⟨x, rfl, hx, _⟩ := he
  have h56 := r56 (w := w) hx
  refine Runs.of (f28_MR _ _) ?_
  unfold f28_M
  repeat' (first
    | refine Goes.chk rfl ?_
    | refine Goes.tv rfl ?_
    | refine Goes.tv (RL.len (by assumption)) ?_
    | refine Goes.nat rfl ?_
    | refine Goes.ite rfl (fun _ => ?_) (fun _ => ?_)
    | refine Goes.call (by assumption) ?_
    | refine Goes.tvs (by assumption) ?_)
  · rename_i h
    have h : p.all = true := by simpa [TV.cell, nth] using h
    exact ret_yes (.inl h)
  · rename_i h
    have h : p.all = false := by simpa [TV.cell, nth] using h
    apply ret_tt
    simp [tt_iff, h]
end Go.Ab.H6

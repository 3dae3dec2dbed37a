
/- What the document's New, Reckon and Catches of layer 5 answer. No condition. -/
import Derived.Test.YtpoidnkgadhdmaaH6F34
set_option linter.unusedVariables false
set_option maxRecDepth 10000
namespace Go.Ab
theorem reckon_no {f : DFrame} {x : DIns} (h : ¬ within x.dst f.regs.length) : reckonT f x = (f, false) := by
  have h' : ¬ (0 ≤ x.dst ∧ x.dst < (f.regs.length : Int)) := h
  unfold reckonT
  cases answerT f.regs x with
  | none => rfl
  | some v => simp only [if_neg h']
theorem reckon_none {f : DFrame} {x : DIns} (h : answerT f.regs x = none) : reckonT f x = (f, false) := by simp [reckonT, h]
theorem reckon_some {f : DFrame} {x : DIns} {v : Int} (hD : within x.dst f.regs.length) (h : answerT f.regs x = some v) :
    reckonT f x = ({ f with regs := f.regs.set x.dst.toNat v, at_ := IntKind.i64.wrap (f.at_ + 1) }, true) := by
  have h' : 0 ≤ x.dst ∧ x.dst < (f.regs.length : Int) := hD
  simp only [reckonT, h, if_pos h']
theorem doW_none {op a b : Int} (h : ¬ (2 ≤ op ∧ op ≤ 8)) : doW op a b = none := by
  unfold doW
  rw [if_neg (by omega), if_neg (by omega), if_neg (by omega), if_neg (by omega), if_neg (by omega), if_neg (by omega), if_neg (by omega)]
theorem answer_op {l : List Int} {x : DIns} (h : ¬ (1 ≤ x.op ∧ x.op ≤ 8)) : answerT l x = none := by
  unfold answerT
  rw [if_neg (by omega)]
  cases regAt l x.a with
  | none => rfl
  | some u =>
    simp only [Option.bind_some]
    rw [if_neg (by omega)]
    exact doW_none (by omega)
theorem answer_two {l : List Int} {x : DIns} {u : Int} (h : x.op = 2) (ha : regAt l x.a = some u) : answerT l x = doW x.op u 0 := by
  unfold answerT
  rw [if_neg (by omega), ha]
  simp only [Option.bind_some]
  rw [if_neg (by omega)]
theorem answer_more {l : List Int} {x : DIns} {u v : Int} (h : 3 ≤ x.op ∧ x.op ≤ 8) (ha : regAt l x.a = some u) (hb : regAt l x.b = some v) : answerT l x = doW x.op u v := by
  unfold answerT
  rw [if_neg (by omega), ha]
  simp only [Option.bind_some]
  rw [if_pos h, hb]
  rfl
theorem answer_noA {l : List Int} {x : DIns} (h : ¬ x.op = 1) (ha : ¬ within x.a l.length) : answerT l x = none := by
  unfold answerT
  rw [if_neg h, regAt_none ha]
  rfl
theorem answer_noB {l : List Int} {x : DIns} {u : Int} (h : 3 ≤ x.op ∧ x.op ≤ 8) (ha : regAt l x.a = some u) (hb : ¬ within x.b l.length) : answerT l x = none := by
  unfold answerT
  rw [if_neg (by omega), ha]
  simp only [Option.bind_some]
  rw [if_pos h, regAt_none hb]
  rfl
/-- So many places, the first being the arguments. -/
def partRegs (args : List Int) (k : Nat) : List Int := args.take k ++ List.replicate (k - args.length) 0
theorem part_lt {args : List Int} {k : Nat} {a : Int} (h : args[k]? = some a) : partRegs args (k + 1) = partRegs args k ++ [a] := by
  have hk := (List.getElem?_eq_some_iff.1 h).1
  unfold partRegs
  rw [List.take_add_one, h, show k + 1 - args.length = 0 by omega, show k - args.length = 0 by omega]
  simp
theorem part_ge {args : List Int} {k : Nat} (h : args.length ≤ k) : partRegs args (k + 1) = partRegs args k ++ [0] := by
  unfold partRegs
  rw [List.take_of_length_le (by omega), List.take_of_length_le (by omega), show k + 1 - args.length = (k - args.length) + 1 by omega, List.replicate_succ', List.append_assoc]
theorem part_len {args : List Int} {k : Nat} : (partRegs args k).length = k := by
  unfold partRegs
  simp; omega
end Go.Ab
namespace Go.Ab.H6
open Go Go.Ab Go.Proofs
/-- davitref05.Reckon -/
theorem rReckon' {q q' : Option Bool} {e e' : List TV} {f : DFrame} {x : DIns} (hf : RFrame q e f) (hx : RIns q' e' x) (hl : f.regs.length ≤ 4294967296) :
    ∃ e2, Runs prog 27 [.agg e, .agg e'] (.tup [.agg e2, B (reckonT f x).2]) ∧ RFrame none e2 (reckonT f x).1 := by
  have hf' := hf
  have hD' := rThere hf x.dst
  have hA' := rThere hf x.a
  have hB' := rThere hf x.b
  obtain ⟨g, rfl, hg, ho⟩ := hf
  obtain ⟨z, rfl, hz, hxo⟩ := hx
  have no : reckonT f x = (f, false) → Runs prog 27 [.agg [I f.f, I f.block, I f.at_, g, W f.fly], .agg [I x.op, I x.dst, I x.a, I x.b, W x.k, I x.f, z]] (.tup [.agg [I f.f, I f.block, I f.at_, g, W f.fly], B false]) → ∃ e2, Runs prog 27 [.agg [I f.f, I f.block, I f.at_, g, W f.fly], .agg [I x.op, I x.dst, I x.a, I x.b, W x.k, I x.f, z]] (.tup [.agg e2, B (reckonT f x).2]) ∧ RFrame none e2 (reckonT f x).1 := by
    intro h hr
    rw [h]
    exact ⟨_, hr, hf'.weak⟩
  by_cases hD : within x.dst f.regs.length
  rotate_left
  · refine no (reckon_no hD) ?_
    rw [tt_false hD] at hD'
    refine Runs.of (f27_MR _ _) ?_
    unfold f27_M
    exact Goes.chk rfl (Goes.chk rfl (Goes.call hD' (Goes.chk rfl (Goes.tv rfl (Goes.ite rfl (fun _ => Goes.ret) fun h => nomatch h)))))
  rw [tt_true hD] at hD'
  by_cases h1 : x.op < 1
  · refine no (reckon_none (answer_op (by omega))) ?_
    refine Runs.of (f27_MR _ _) ?_
    unfold f27_M
    refine Goes.chk rfl (Goes.chk rfl (Goes.call hD' (Goes.chk rfl (Goes.tv rfl (Goes.ite rfl (fun h => nomatch h) fun _ => ?_)))))
    refine Goes.tv rfl (Goes.ite rfl (fun _ => Goes.ret) fun h => ?_)
    simp at h; omega
  by_cases h8 : 8 < x.op
  · refine no (reckon_none (answer_op (by omega))) ?_
    refine Runs.of (f27_MR _ _) ?_
    unfold f27_M
    refine Goes.chk rfl (Goes.chk rfl (Goes.call hD' (Goes.chk rfl (Goes.tv rfl (Goes.ite rfl (fun h => nomatch h) fun _ => ?_)))))
    refine Goes.tv rfl (Goes.ite rfl (fun _ => Goes.ret) fun _ => ?_)
    refine Goes.tv rfl (Goes.ite rfl (fun _ => Goes.ret) fun h => ?_)
    simp at h; omega
  -- what is set
  have fin : ∀ v, inW v → answerT f.regs x = some v → ∃ e2, Goes prog 27 (f27_1 (W v) (I f.f) (I f.block) (I f.at_) g (W f.fly) (I x.op) (I x.dst) (I x.a) (I x.b) (W x.k) (I x.f) z) (.tup [.agg e2, B (reckonT f x).2]) ∧ RFrame none e2 (reckonT f x).1 := by
    intro v hv hT
    rw [reckon_some hD hT]
    obtain ⟨e2, hr2, hf2⟩ := rWith (w := v) hf' hl hD hxo.2.1 hv
    obtain ⟨y, rfl, hy, hoy⟩ := hf2
    refine ⟨_, ?_, ⟨y, rfl, hy.weak fun _ _ h => h, hoy.1, hoy.2.1, wrap_i64 _, hoy.2.2.2⟩⟩
    unfold f27_1
    exact Goes.call hr2 (Goes.chk (fit_frame hy.isSl) (Goes.tv rfl Goes.ret))
  have start : ∀ r, Goes prog 27 (.tv (pbin (Kd.int IntKind.i64) BinOp.gtr (I x.op) (I 1)) fun v4 => .ite (asBool v4) (
      Prg.call 56 [TV.agg [I f.f, I f.block, I f.at_, g, W f.fly], I x.a] fun v5 =>
          Prg.chk (fitsAt zBool [v5] 0) (
          Prg.tv (pun UnOp.not v5) fun v6 =>
          Prg.ite (asBool v6) (
            Prg.ret (TV.tup [TV.agg [I f.f, I f.block, I f.at_, g, W f.fly], B false])) (
            Prg.tv (pbin (Kd.int IntKind.i64) BinOp.gtr (I x.op) (I 2)) fun v7 =>
            Prg.ite (asBool v7) (
              Prg.call 56 [TV.agg [I f.f, I f.block, I f.at_, g, W f.fly], I x.b] fun v8 =>
              Prg.chk (fitsAt zBool [v8] 0) (
              Prg.tv (pun UnOp.not v8) fun v9 =>
              Prg.ite (asBool v9) (
                Prg.ret (TV.tup [TV.agg [I f.f, I f.block, I f.at_, g, W f.fly], B false])) (
                Prg.tv (pbin (Kd.int IntKind.i64) BinOp.gtr (I x.op) (I 2)) fun v10 =>
                Prg.jmp [1, 0, 1, 1, 0, 1, 0, 1, 1, 1] (f27_0_S (W 0) v10 (I f.f) (I f.block) (I f.at_) g (W f.fly) (I x.op) (I x.dst) (I x.a) (I x.b) (W x.k) (I x.f) z)))) (
              Prg.tv (pbin (Kd.int IntKind.i64) BinOp.gtr (I x.op) (I 2)) fun v11 =>
              Prg.jmp [1, 0, 1, 1, 0, 1, 0, 1, 1, 1] (f27_0_S (W 0) v11 (I f.f) (I f.block) (I f.at_) g (W f.fly) (I x.op) (I x.dst) (I x.a) (I x.b) (W x.k) (I x.f) z)))))
      (Prg.jmp [1, 1, 1, 1] (f27_1_S (W x.k) (I f.f) (I f.block) (I f.at_) g (W f.fly) (I x.op) (I x.dst) (I x.a) (I x.b) (W x.k) (I x.f) z))) r → Runs prog 27 [.agg [I f.f, I f.block, I f.at_, g, W f.fly], .agg [I x.op, I x.dst, I x.a, I x.b, W x.k, I x.f, z]] r := by
    intro r hr
    refine Runs.of (f27_MR _ _) ?_
    unfold f27_M
    refine Goes.chk rfl (Goes.chk rfl (Goes.call hD' (Goes.chk rfl (Goes.tv rfl (Goes.ite rfl (fun h => nomatch h) fun _ => ?_)))))
    refine Goes.tv rfl (Goes.ite rfl (fun h => ?_) fun _ => ?_)
    · simp at h; omega
    refine Goes.tv rfl (Goes.ite rfl (fun h => ?_) fun _ => hr)
    simp at h; omega
  by_cases he1 : x.op = 1
  · obtain ⟨e2, hg2, hf2⟩ := fin x.k hxo.2.2.2.2.1 (by simp [answerT, he1])
    refine ⟨e2, start _ ?_, hf2⟩
    refine Goes.tv rfl (Goes.ite rfl (fun h => ?_) fun _ => f27_1_J hg2)
    simp at h; omega
  by_cases hA : within x.a f.regs.length
  rotate_left
  · refine no (reckon_none (answer_noA he1 hA)) (start _ ?_)
    rw [tt_false hA] at hA'
    refine Goes.tv rfl (Goes.ite rfl (fun _ => ?_) fun h => ?_)
    · exact Goes.call hA' (Goes.chk rfl (Goes.tv rfl (Goes.ite rfl (fun _ => Goes.ret) fun h => nomatch h)))
    · simp at h; omega
  rw [tt_true hA] at hA'
  obtain ⟨u, hu, hul⟩ := within_at hA
  obtain ⟨hi, hui⟩ := RWords.at_ hg (k := .i64) hA.1 hu
  have hRA := regAt_some hA.1 hu
  have last : ∀ v, inW v → answerT f.regs x = doW x.op u v → ∃ e2, Goes prog 27 (f27_2 (W v) (I f.f) (I f.block) (I f.at_) g (W f.fly) (I x.op) (I x.dst) (I x.a) (I x.b) (W x.k) (I x.f) z) (.tup [.agg e2, B (reckonT f x).2]) ∧ RFrame none e2 (reckonT f x).1 := by
    intro v hv hT
    have hd := rDo' x.op hui hv
    cases hdo : doW x.op u v with
    | none =>
      rw [hdo] at hd hT
      rw [reckon_none hT]
      refine ⟨_, ?_, hf'.weak⟩
      unfold f27_2
      exact Goes.tvs hi (Goes.chk rfl (Goes.call hd (Goes.chk rfl (Goes.chk rfl (Goes.chk rfl (Goes.tv rfl (Goes.ite rfl (fun _ => Goes.ret) fun h => nomatch h)))))))
    | some w =>
      rw [hdo] at hd hT
      obtain ⟨e2, hg2, hf2⟩ := fin w (doW_in hui hdo) hT
      refine ⟨e2, ?_, hf2⟩
      unfold f27_2
      exact Goes.tvs hi (Goes.chk rfl (Goes.call hd (Goes.chk rfl (Goes.chk rfl (Goes.chk rfl (Goes.tv rfl (Goes.ite rfl (fun h => nomatch h) fun _ => f27_1_J hg2)))))))
  by_cases he2 : x.op = 2
  · obtain ⟨e2, hg2, hf2⟩ := last 0 inW0 (answer_two he2 hRA)
    refine ⟨e2, start _ ?_, hf2⟩
    refine Goes.tv rfl (Goes.ite rfl (fun _ => ?_) fun h => ?_)
    · refine Goes.call hA' (Goes.chk rfl (Goes.tv rfl (Goes.ite rfl (fun h => nomatch h) fun _ => ?_)))
      refine Goes.tv rfl (Goes.ite rfl (fun h => ?_) fun _ => ?_)
      · simp at h; omega
      refine Goes.tv rfl (f27_0_J ?_)
      unfold f27_0
      refine Goes.ite rfl (fun h => ?_) fun _ => f27_2_J hg2
      simp at h; omega
    · simp at h; omega
  have h3 : 3 ≤ x.op ∧ x.op ≤ 8 := by omega
  by_cases hB : within x.b f.regs.length
  rotate_left
  · refine no (reckon_none (answer_noB h3 hRA hB)) (start _ ?_)
    rw [tt_false hB] at hB'
    refine Goes.tv rfl (Goes.ite rfl (fun _ => ?_) fun h => ?_)
    · refine Goes.call hA' (Goes.chk rfl (Goes.tv rfl (Goes.ite rfl (fun h => nomatch h) fun _ => ?_)))
      refine Goes.tv rfl (Goes.ite rfl (fun _ => ?_) fun h => ?_)
      · exact Goes.call hB' (Goes.chk rfl (Goes.tv rfl (Goes.ite rfl (fun _ => Goes.ret) fun h => nomatch h)))
      · simp at h; omega
    · simp at h; omega
  rw [tt_true hB] at hB'
  obtain ⟨v, hv, hvl⟩ := within_at hB
  obtain ⟨hi', hvi⟩ := RWords.at_ hg (k := .i64) hB.1 hv
  obtain ⟨e2, hg2, hf2⟩ := last v hvi (answer_more h3 hRA (regAt_some hB.1 hv))
  refine ⟨e2, start _ ?_, hf2⟩
  refine Goes.tv rfl (Goes.ite rfl (fun _ => ?_) fun h => ?_)
  · refine Goes.call hA' (Goes.chk rfl (Goes.tv rfl (Goes.ite rfl (fun h => nomatch h) fun _ => ?_)))
    refine Goes.tv rfl (Goes.ite rfl (fun _ => ?_) fun h => ?_)
    · refine Goes.call hB' (Goes.chk rfl (Goes.tv rfl (Goes.ite rfl (fun h => nomatch h) fun _ => ?_)))
      refine Goes.tv rfl (f27_0_J ?_)
      unfold f27_0
      refine Goes.ite rfl (fun _ => ?_) fun h => ?_
      · exact Goes.tvs hi' (Goes.chk rfl (f27_2_J hg2))
      · simp at h; omega
    · simp at h; omega
  · simp at h; omega
/-- davitref05.Catches -/
theorem rCatches' {q : Option Bool} {e : List TV} {p : DPad} {w : Int} (he : RPad q e p) : Runs prog 29 [.agg e, W w] (B (tt (p.all = true ∨ w ∈ p.catches))) := by
  obtain ⟨x, rfl, hx, _⟩ := he
  have loop : ∀ d k, k + d = p.catches.length → Goes prog 29 (f29_0 (W w) (I k) (I p.dst) x (B p.all) (B p.cleanup)) (B (tt (p.all = true ∨ ∃ i, k ≤ i ∧ p.catches[i]? = some w))) := by
    intro d
    induction d with
    | zero =>
      intro k hk
      have hk : k = p.catches.length := by omega
      subst hk
      unfold f29_0
      refine Goes.tv (RL.len (by assumption)) (Goes.tv rfl (Goes.ite asB_end (fun h => nomatch h) fun _ => ?_))
      apply ret_tt
      constructor
      · intro h; exact .inl h
      · rintro (h | ⟨i, hi, h⟩)
        · exact h
        · rw [List.getElem?_eq_none hi] at h; cases h
    | succ d ih =>
      intro k hk
      have hk' : k < p.catches.length := by omega
      have ha : p.catches[k]? = some p.catches[k] := List.getElem?_eq_getElem hk'
      obtain ⟨e, he, rfl, _⟩ := hx.idx (k := .i64) ha
      unfold f29_0
      refine Goes.tv (RL.len (by assumption)) (Goes.tv rfl (Goes.ite (asB_lt hk') (fun _ => ?_) fun h => nomatch h))
      refine Goes.tvs he (Goes.chk rfl (Goes.tv rfl (Goes.ite rfl (fun h => ?_) fun h => ?_)))
      · have h : p.catches[k] = w := by simpa [nth] using h
        exact ret_yes (.inr ⟨k, Nat.le_refl _, by rw [ha, h]⟩)
      · have h : ¬ p.catches[k] = w := by simpa [nth] using h
        refine Goes.tv (inc hk' hx.bnd) (f29_0_J ?_)
        rw [show tt (p.all = true ∨ ∃ i, k ≤ i ∧ p.catches[i]? = some w) = tt (p.all = true ∨ ∃ i, k + 1 ≤ i ∧ p.catches[i]? = some w) from tt_congr ⟨by
          rintro (h' | ⟨i, hi, h'⟩)
          · exact .inl h'
          · by_cases hik : i = k
            · subst hik; rw [ha] at h'; cases h'; exact absurd rfl h
            · exact .inr ⟨i, by omega, h'⟩, by
          rintro (h' | ⟨i, hi, h'⟩)
          · exact .inl h'
          · exact .inr ⟨i, by omega, h'⟩⟩]
        exact ih (k + 1) (by omega)
  refine Runs.of (f29_MR _ _) ?_
  unfold f29_M
  refine Goes.chk rfl (f29_0_J ?_)
  rw [show tt (p.all = true ∨ w ∈ p.catches) = tt (p.all = true ∨ ∃ i, 0 ≤ i ∧ p.catches[i]? = some w) from tt_congr (by rw [List.mem_iff_getElem?]; simp)]
  exact loop p.catches.length 0 (by omega)
/-- davitref05.New -/
theorem rNew' {q q' : Option Bool} {e : List TV} {x : TV} {m : DMod} {n : Int} {args : List Int} (hm : RMod q e m) (hn : inI n) (hx : RWords q' x args) (hM : modP m) : ∃ e', Runs prog 23 [.agg e, I n, x] (.tup [.agg e', I (errOf (newT m n args))]) ∧ RFrame (some true) e' ((newT m n args).getD noFrame) := by
  obtain ⟨y, rfl, hy⟩ := hm
  have no : newT m n args = none → Runs prog 23 [.agg [y], I n, x] (.tup [.agg [I 0, I 0, I 0, .lit nilV, W 0], I 1]) → ∃ e', Runs prog 23 [.agg [y], I n, x] (.tup [.agg e', I (errOf (newT m n args))]) ∧ RFrame (some true) e' ((newT m n args).getD noFrame) := by
    intro h hr
    rw [h]
    exact ⟨_, hr, RNo⟩
  by_cases h0 : 0 ≤ n
  rotate_left
  · refine no (by simp [newT, h0]) ?_
    refine Runs.of (f23_MR _ _ _) ?_
    unfold f23_M
    refine Goes.chk rfl (Goes.tv rfl (Goes.ite rfl (fun _ => Goes.chk rfl Goes.ret) fun h => ?_))
    simp at h; omega
  by_cases h1 : n < (m.funcs.length : Int)
  rotate_left
  · refine no (by simp [newT, h0, within_none h0 h1]) ?_
    refine Runs.of (f23_MR _ _ _) ?_
    unfold f23_M
    refine Goes.chk rfl (Goes.tv rfl (Goes.ite rfl (fun h => ?_) fun _ => ?_))
    · simp at h; omega
    refine Goes.tv hy.len (Goes.tv rfl (Goes.ite rfl (fun _ => Goes.chk rfl Goes.ret) fun h => ?_))
    simp at h; omega
  have hlt : n.toNat < m.funcs.length := by omega
  have hu : m.funcs[n.toNat]? = some m.funcs[n.toNat] := List.getElem?_eq_getElem hlt
  obtain ⟨e, he, hr⟩ := hy.idxI (k := .i64) h0 hu
  generalize m.funcs[n.toNat] = u at hu hr
  obtain ⟨hr0, hr1⟩ := mod_regs hM hu
  obtain ⟨b, rfl, hb, _⟩ := hr
  have hT : newT m n args = if (args.length : Int) = u.params then some ⟨n, 0, 0, partRegs args u.regs.toNat, 0⟩ else none := by simp [newT, h0, hu, partRegs]
  by_cases hP : (args.length : Int) = u.params
  rotate_left
  · refine no (by rw [hT, if_neg hP]) ?_
    refine Runs.of (f23_MR _ _ _) ?_
    unfold f23_M
    refine Goes.chk rfl (Goes.tv rfl (Goes.ite rfl (fun h => ?_) fun _ => ?_))
    · simp at h; omega
    refine Goes.tv hy.len (Goes.tv rfl (Goes.ite rfl (fun h => ?_) fun _ => ?_))
    · simp at h; omega
    refine Goes.tv hx.len (Goes.tvs he (Goes.chk rfl (Goes.tv rfl (Goes.ite rfl (fun _ => Goes.chk rfl Goes.ret) fun h => ?_))))
    simp at h
    exact absurd h hP
  rw [hT, if_pos hP]
  obtain ⟨K, hK⟩ : ∃ K : Nat, u.regs = (K : Int) := ⟨u.regs.toNat, by omega⟩
  rw [hK] at he hr1 ⊢
  simp only [Int.toNat_natCast]
  have loop : ∀ d k w, k + d = K → RWords (some true) w (partRegs args k) → ∃ w', Goes prog 23 (f23_0 (I n) x (I (k : Int)) y (I n) (I 0) (I 0) (W 0) w) (.tup [.agg [I n, I 0, I 0, w', W 0], I 0]) ∧ RWords (some true) w' (partRegs args K) := by
    intro d
    induction d with
    | zero =>
      intro k w hk hw
      have hk : k = K := by omega
      subst hk
      refine ⟨w, ?_, hw⟩
      unfold f23_0
      exact Goes.tvs he (Goes.chk rfl (Goes.tv rfl (Goes.ite asB_end (fun h => nomatch h) fun _ => Goes.chk (own_tup (RWords.isOwn hw)) Goes.ret)))
    | succ d ih =>
      intro k w hk hw
      have hk' : k < K := by omega
      have hbd : (partRegs args k).length + 1 ≤ 4294967296 := by rw [part_len]; omega
      by_cases hka : k < args.length
      · have ha : args[k]? = some args[k] := List.getElem?_eq_getElem hka
        obtain ⟨ea, hea, hra⟩ := hx.idx (k := .i64) ha
        obtain ⟨w2, hw2, hr2⟩ := hw.app1 hra hbd
        rw [← part_lt ha] at hr2
        obtain ⟨w', hw', hr'⟩ := ih (k + 1) w2 (by omega) hr2
        obtain ⟨rfl, _⟩ := hra
        refine ⟨w', ?_, hr'⟩
        unfold f23_0
        refine Goes.tvs he (Goes.chk rfl (Goes.tv rfl (Goes.ite (asB_lt hk') (fun _ => ?_) fun h => nomatch h)))
        refine Goes.tv hx.len (Goes.tv rfl (Goes.ite (asB_lt hka) (fun _ => ?_) fun h => nomatch h))
        exact Goes.tvs hea (Goes.chk rfl (Goes.rws rfl (Goes.tv hw2 (Goes.tv (inc hk' (by omega)) (f23_0_J hw')))))
      · obtain ⟨w2, hw2, hr2⟩ := hw.app1 RW0 hbd
        rw [← part_ge (by omega)] at hr2
        obtain ⟨w', hw', hr'⟩ := ih (k + 1) w2 (by omega) hr2
        refine ⟨w', ?_, hr'⟩
        unfold f23_0
        refine Goes.tvs he (Goes.chk rfl (Goes.tv rfl (Goes.ite (asB_lt hk') (fun _ => ?_) fun h => nomatch h)))
        refine Goes.tv hx.len (Goes.tv rfl (Goes.ite rfl (fun h => ?_) fun _ => ?_))
        · simp at h; omega
        exact Goes.rws rfl (Goes.tv hw2 (Goes.tv (inc hk' (by omega)) (f23_0_J hw')))
  obtain ⟨w', hw', hr'⟩ := loop K 0 (.lit nilV) (by omega) (by simp [partRegs]; exact .nil)
  refine ⟨_, ?_, ⟨w', rfl, hr', hn, in0, in0, inW0⟩⟩
  refine Runs.of (f23_MR _ _ _) ?_
  unfold f23_M
  refine Goes.chk rfl (Goes.tv rfl (Goes.ite rfl (fun h => ?_) fun _ => ?_))
  · simp at h; omega
  refine Goes.tv hy.len (Goes.tv rfl (Goes.ite rfl (fun h => ?_) fun _ => ?_))
  · simp at h; omega
  refine Goes.tv hx.len (Goes.tvs he (Goes.chk rfl (Goes.tv rfl (Goes.ite rfl (fun h => ?_) fun _ => ?_))))
  · simp at h
    exact absurd hP h
  exact Goes.chk rfl (Goes.chk rfl (f23_0_J hw'))
end Go.Ab.H6

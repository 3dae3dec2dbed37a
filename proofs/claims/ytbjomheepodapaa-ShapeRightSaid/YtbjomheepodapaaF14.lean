
/- The law ShapeRight over closed values. No condition. -/
import Derived.Test.YtbjomheepodapaaF13
set_option linter.unusedVariables false
set_option maxRecDepth 10000
namespace Go.Ab.S2
open Go Go.Ab Go.Proofs
theorem asNat_int {g : Int} (h0 : 0 ≤ g) (h : g ≤ 9223372036854775807) : asNat (I g) = some g.toNat := by
  simp [asNat, h0]; omega
theorem r23_3 {q : Option Bool} {y : TV} {bs : List DBlock} {p regs : TV} {k i : Nat} (hy : RL q 14 (RBlock q) y bs) {M : List Bool} {w : TV} (hw : RBools (some true) w M) (hML : M.length = bs.length) (hi : i < bs.length) {Q : TV → Prop}
    (hk : ∀ w', RBools (some true) w' (stepM bs M i) → ∃ z, Goes prog 23 (f23_3 (I k) (I ((i + 1 : Nat) : Int)) p regs y w') z ∧ Q z) : ∃ z, Goes prog 23 (f23_3 (I k) (I i) p regs y w) z ∧ Q z := by
  have hb : bs[i]? = some bs[i] := List.getElem?_eq_getElem hi
  obtain ⟨e, he, hr⟩ := hy.idx (k := .i64) hb
  generalize bs[i] = b at hb hr
  obtain ⟨c, is, g, rfl, hc, hd, his, hg, ho⟩ := hr
  obtain ⟨o1, o2, o3, o4, o5, o6, o7⟩ := ho
  have hbd := hy.bnd
  have hiM : i < M.length := by omega
  have hMi : M[i]? = some M[i] := List.getElem?_eq_getElem hiM
  obtain ⟨em, hem, hrm⟩ := hw.pel hMi
  cases hrm
  have hlt : Nat.blt i M.length = true := by simpa using hiM
  have hchk : (slSize w 1 && Nat.blt i M.length) = true := by rw [hlt]; exact (Bool.and_true _).trans hw.slSize
  cases hv : M[i] with
  | false =>
    rw [hv] at hem hMi
    have hst : stepM bs M i = M := by unfold stepM; rw [hMi]; simp
    rw [hst] at hk
    obtain ⟨z, hz, hq⟩ := hk w hw
    refine ⟨z, ?_, hq⟩
    unfold f23_3
    refine Goes.tv (RL.len (by assumption)) (Goes.tv rfl (Goes.ite (asB_lt hi) (fun _ => ?_) fun h => nomatch h))
    refine Goes.tvs he (Goes.chk rfl (Goes.nat hw.slLen (Goes.nat (asNat_nat (by omega)) (Goes.chk hchk (Goes.tvs hem (Goes.chk rfl (Goes.ite rfl (fun h => nomatch h) fun _ => ?_)))))))
    refine Goes.jmp (f23_4_R _ _ _ _ _ _ _ _ _ _ _ _ _ _ _) ?_
    unfold f23_4
    refine Goes.ite rfl (fun h => nomatch h) fun _ => Goes.jmp (f23_5_R _ _ _ _ _ _ _ _ _ _ _ _ _ _) ?_
    unfold f23_5
    exact Goes.nat hw.slLen (Goes.nat (asNat_nat (by omega)) (Goes.chk hchk (Goes.tvs hem (Goes.chk rfl (Goes.ite rfl (fun h => nomatch h) fun _ => Goes.tv (inc hi hbd) (Goes.jmp (f23_3_R _ _ _ _ _ _) hz))))))
  | true =>
    rw [hv] at hem hMi
    have hst : stepM bs M i = (gl b).foldl (markTo bs.length) M := by unfold stepM; rw [hMi]; simp [hb]
    -- the second half
    have half2 : ∀ (M1 : List Bool) (w1 : TV), RBools (some true) w1 M1 → M1.length = bs.length → M1[i]? = some true → stepM bs M i = (if b.fin.kind = 3 then [b.fin.els] else []).foldl (markTo bs.length) M1 →
        ∃ z, Goes prog 23 (f23_5 (I k) (I i) p regs y w1 (I b.fin.kind) (I b.fin.a) (I b.fin.dst) (I b.fin.f) g (I b.fin.to) (I b.fin.els) (I b.fin.pad)) z ∧ Q z := by
      intro M1 w1 hw1 hM1 hMi1 hst
      obtain ⟨em1, hem1, hrm1⟩ := hw1.pel hMi1
      cases hrm1
      have hlt1 : Nat.blt i M1.length = true := by simp; omega
      have hchk1 : (slSize w1 1 && Nat.blt i M1.length) = true := by rw [hlt1]; exact (Bool.and_true _).trans hw1.slSize
      by_cases h3 : b.fin.kind = 3
      · simp [h3] at hst
        by_cases hwi : within b.fin.els M1.length
        · obtain ⟨h0, hn⟩ := hwi
          have hgl : b.fin.els.toNat < M1.length := by omega
          have hMg : M1[b.fin.els.toNat]? = some M1[b.fin.els.toNat] := List.getElem?_eq_getElem hgl
          obtain ⟨eg, heg, hrg⟩ := hw1.pel hMg
          cases hrg
          obtain ⟨w2, hw2, hr2⟩ := hw1.setAt heg (d := 0) (ys := [B true]) (a := true) rfl
          have hst2 : stepM bs M i = M1.set b.fin.els.toNat true := by rw [hst]; unfold markTo; rw [if_pos ⟨h0, by omega⟩]
          rw [hst2] at hk
          obtain ⟨z, hz, hq⟩ := hk w2 hr2
          refine ⟨z, ?_, hq⟩
          have hlt2 : Nat.blt b.fin.els.toNat M1.length = true := by simpa using hgl
          have hchk2 : (slSize w1 1 && Nat.blt b.fin.els.toNat M1.length) = true := by rw [hlt2]; exact (Bool.and_true _).trans hw1.slSize
          have h35 := r35 b.fin.els M1.length
          rw [tt_true ⟨h0, hn⟩] at h35
          unfold f23_5
          refine Goes.nat hw1.slLen (Goes.nat (asNat_nat (by omega)) (Goes.chk hchk1 (Goes.tvs hem1 (Goes.chk rfl (Goes.ite rfl (fun _ => ?_) fun h => nomatch h)))))
          refine Goes.tv rfl (Goes.ite (v := true) (by simp [asBool, h3]) (fun _ => ?_) fun h => nomatch h)
          refine Goes.tv hw1.len (Goes.call h35 (Goes.chk rfl (Goes.ite rfl (fun _ => ?_) fun h => nomatch h)))
          exact Goes.nat hw1.slLen (Goes.nat (asNat_int h0 o6.2) (Goes.chk hchk2 (Goes.tvs heg (Goes.chk rfl (Goes.tv hw2 (Goes.tv (inc hi hbd) (Goes.jmp (f23_3_R _ _ _ _ _ _) hz)))))))
        · have hst2 : stepM bs M i = M1 := by rw [hst]; unfold markTo; rw [if_neg (fun h => hwi ⟨h.1, by omega⟩)]
          rw [hst2] at hk
          obtain ⟨z, hz, hq⟩ := hk w1 hw1
          refine ⟨z, ?_, hq⟩
          have h35 := r35 b.fin.els M1.length
          rw [tt_false hwi] at h35
          unfold f23_5
          refine Goes.nat hw1.slLen (Goes.nat (asNat_nat (by omega)) (Goes.chk hchk1 (Goes.tvs hem1 (Goes.chk rfl (Goes.ite rfl (fun _ => ?_) fun h => nomatch h)))))
          refine Goes.tv rfl (Goes.ite (v := true) (by simp [asBool, h3]) (fun _ => ?_) fun h => nomatch h)
          exact Goes.tv hw1.len (Goes.call h35 (Goes.chk rfl (Goes.ite rfl (fun h => nomatch h) fun _ => Goes.tv (inc hi hbd) (Goes.jmp (f23_3_R _ _ _ _ _ _) hz))))
      · simp [h3] at hst
        rw [hst] at hk
        obtain ⟨z, hz, hq⟩ := hk w1 hw1
        refine ⟨z, ?_, hq⟩
        unfold f23_5
        refine Goes.nat hw1.slLen (Goes.nat (asNat_nat (by omega)) (Goes.chk hchk1 (Goes.tvs hem1 (Goes.chk rfl (Goes.ite rfl (fun _ => ?_) fun h => nomatch h)))))
        exact Goes.tv rfl (Goes.ite (v := false) (by simp [asBool, h3]) (fun h => nomatch h) fun _ => Goes.tv (inc hi hbd) (Goes.jmp (f23_3_R _ _ _ _ _ _) hz))
    -- the first half
    have half1 : ∀ (x : Bool), (x = true ↔ (b.fin.kind = 2 ∨ b.fin.kind = 3 ∨ b.fin.kind = 4) ∧ within b.fin.to M.length) → ∃ z, Goes prog 23 (f23_4 (I k) (I i) (B x) p regs y w (I b.fin.kind) (I b.fin.a) (I b.fin.dst) (I b.fin.f) g (I b.fin.to) (I b.fin.els) (I b.fin.pad)) z ∧ Q z := by
      intro x hx
      cases x with
      | false =>
        have hno : ¬ ((b.fin.kind = 2 ∨ b.fin.kind = 3 ∨ b.fin.kind = 4) ∧ within b.fin.to M.length) := fun h => by have := hx.2 h; cases this
        obtain ⟨z, hz, hq⟩ := half2 M w hw hML hMi (by
          rw [hst]
          unfold gl
          rw [List.foldl_append]
          by_cases hkd : b.fin.kind = 2 ∨ b.fin.kind = 3 ∨ b.fin.kind = 4
          · rw [if_pos hkd]
            have : markTo bs.length M b.fin.to = M := by unfold markTo; rw [if_neg (fun h => hno ⟨hkd, h.1, by omega⟩)]
            simp only [List.foldl_cons, List.foldl_nil, this]
          · rw [if_neg hkd]; rfl)
        refine ⟨z, ?_, hq⟩
        unfold f23_4
        exact Goes.ite rfl (fun h => nomatch h) fun _ => Goes.jmp (f23_5_R _ _ _ _ _ _ _ _ _ _ _ _ _ _) hz
      | true =>
        obtain ⟨hkd, h0, hn⟩ := hx.1 rfl
        have hgl : b.fin.to.toNat < M.length := by omega
        have hMg : M[b.fin.to.toNat]? = some M[b.fin.to.toNat] := List.getElem?_eq_getElem hgl
        obtain ⟨eg, heg, hrg⟩ := hw.pel hMg
        cases hrg
        obtain ⟨w2, hw2, hr2⟩ := hw.setAt heg (d := 0) (ys := [B true]) (a := true) rfl
        have hlt2 : Nat.blt b.fin.to.toNat M.length = true := by simpa using hgl
        have hchk2 : (slSize w 1 && Nat.blt b.fin.to.toNat M.length) = true := by rw [hlt2]; exact (Bool.and_true _).trans hw.slSize
        obtain ⟨z, hz, hq⟩ := half2 (M.set b.fin.to.toNat true) w2 hr2 (by simpa using hML) ((set_get hgl).2 (.inr hMi)) (by
          rw [hst]
          unfold gl
          rw [List.foldl_append, if_pos hkd]
          have : markTo bs.length M b.fin.to = M.set b.fin.to.toNat true := by unfold markTo; rw [if_pos ⟨h0, by omega⟩]
          simp only [List.foldl_cons, List.foldl_nil, this])
        refine ⟨z, ?_, hq⟩
        unfold f23_4
        exact Goes.ite rfl (fun _ => Goes.nat hw.slLen (Goes.nat (asNat_int h0 o5.2) (Goes.chk hchk2 (Goes.tvs heg (Goes.chk rfl (Goes.tv hw2 (Goes.jmp (f23_5_R _ _ _ _ _ _ _ _ _ _ _ _ _ _) hz))))))) fun h => nomatch h
    have h35 := r35 b.fin.to M.length
    by_cases k2 : b.fin.kind = 2
    · obtain ⟨z, hz, hq⟩ := half1 (tt (within b.fin.to M.length)) (by rw [tt_iff]; simp [k2])
      refine ⟨z, ?_, hq⟩
      unfold f23_3
      refine Goes.tv (RL.len (by assumption)) (Goes.tv rfl (Goes.ite (asB_lt hi) (fun _ => ?_) fun h => nomatch h))
      refine Goes.tvs he (Goes.chk rfl (Goes.nat hw.slLen (Goes.nat (asNat_nat (by omega)) (Goes.chk hchk (Goes.tvs hem (Goes.chk rfl (Goes.ite rfl (fun _ => ?_) fun h => nomatch h)))))))
      exact Goes.tv rfl (Goes.ite (v := true) (by simp [asBool, k2]) (fun _ => Goes.tv hw.len (Goes.call h35 (Goes.chk rfl (Goes.jmp (f23_4_R _ _ _ _ _ _ _ _ _ _ _ _ _ _ _) hz)))) fun h => nomatch h)
    by_cases k3 : b.fin.kind = 3
    · obtain ⟨z, hz, hq⟩ := half1 (tt (within b.fin.to M.length)) (by rw [tt_iff]; simp [k3])
      refine ⟨z, ?_, hq⟩
      unfold f23_3
      refine Goes.tv (RL.len (by assumption)) (Goes.tv rfl (Goes.ite (asB_lt hi) (fun _ => ?_) fun h => nomatch h))
      refine Goes.tvs he (Goes.chk rfl (Goes.nat hw.slLen (Goes.nat (asNat_nat (by omega)) (Goes.chk hchk (Goes.tvs hem (Goes.chk rfl (Goes.ite rfl (fun _ => ?_) fun h => nomatch h)))))))
      exact Goes.tv rfl (Goes.ite (v := false) (by simp [asBool, k2]) (fun h => nomatch h) fun _ => Goes.tv rfl (Goes.ite (v := true) (by simp [asBool, k3]) (fun _ => Goes.tv hw.len (Goes.call h35 (Goes.chk rfl (Goes.jmp (f23_4_R _ _ _ _ _ _ _ _ _ _ _ _ _ _ _) hz)))) fun h => nomatch h))
    by_cases k4 : b.fin.kind = 4
    · obtain ⟨z, hz, hq⟩ := half1 (tt (within b.fin.to M.length)) (by rw [tt_iff]; simp [k4])
      refine ⟨z, ?_, hq⟩
      unfold f23_3
      refine Goes.tv (RL.len (by assumption)) (Goes.tv rfl (Goes.ite (asB_lt hi) (fun _ => ?_) fun h => nomatch h))
      refine Goes.tvs he (Goes.chk rfl (Goes.nat hw.slLen (Goes.nat (asNat_nat (by omega)) (Goes.chk hchk (Goes.tvs hem (Goes.chk rfl (Goes.ite rfl (fun _ => ?_) fun h => nomatch h)))))))
      exact Goes.tv rfl (Goes.ite (v := false) (by simp [asBool, k2]) (fun h => nomatch h) fun _ => Goes.tv rfl (Goes.ite (v := false) (by simp [asBool, k3]) (fun h => nomatch h) fun _ => Goes.tv rfl (Goes.ite (v := true) (by simp [asBool, k4]) (fun _ => Goes.tv hw.len (Goes.call h35 (Goes.chk rfl (Goes.jmp (f23_4_R _ _ _ _ _ _ _ _ _ _ _ _ _ _ _) hz)))) fun h => nomatch h)))
    · obtain ⟨z, hz, hq⟩ := half1 false (by simp [k2, k3, k4])
      refine ⟨z, ?_, hq⟩
      unfold f23_3
      refine Goes.tv (RL.len (by assumption)) (Goes.tv rfl (Goes.ite (asB_lt hi) (fun _ => ?_) fun h => nomatch h))
      refine Goes.tvs he (Goes.chk rfl (Goes.nat hw.slLen (Goes.nat (asNat_nat (by omega)) (Goes.chk hchk (Goes.tvs hem (Goes.chk rfl (Goes.ite rfl (fun _ => ?_) fun h => nomatch h)))))))
      exact Goes.tv rfl (Goes.ite (v := false) (by simp [asBool, k2]) (fun h => nomatch h) fun _ => Goes.tv rfl (Goes.ite (v := false) (by simp [asBool, k3]) (fun h => nomatch h) fun _ => Goes.tv rfl (Goes.ite (v := false) (by simp [asBool, k4]) (fun h => nomatch h) fun _ => Goes.jmp (f23_4_R _ _ _ _ _ _ _ _ _ _ _ _ _ _ _) hz)))
theorem repeat_round_sound {bs : List DBlock} : ∀ (k : Nat) {M : List Bool}, M.length = bs.length → Sound bs M → Starts bs M → (Nat.repeat (roundM bs) k M).length = bs.length ∧ Sound bs (Nat.repeat (roundM bs) k M) ∧ Starts bs (Nat.repeat (roundM bs) k M)
  | 0, _, h1, h2, h3 => ⟨h1, h2, h3⟩
  | k + 1, M, h1, h2, h3 => by
    obtain ⟨g1, g2, g3⟩ := repeat_round_sound k h1 h2 h3
    simp only [Nat.repeat]
    exact ⟨by unfold roundM; rw [steps_len]; exact g1, steps_sound _ g1 g2, fun i b h4 h5 h6 => steps_mono _ g1 (g3 i b h4 h5 h6)⟩
/-- davitref02.Cleans -/
theorem r13 {q : Option Bool} {e : List TV} {f : DFunc} (he : RFunc q e f) (hn : f.blocks.length ≤ 70) : ∃ z M, Runs prog 13 [.agg e] z ∧ RBools (some true) z M ∧ Full f.blocks M := by
  obtain ⟨y, rfl, hy, _⟩ := he
  have hbd := hy.bnd
  suffices h : ∃ z, Runs prog 23 [.agg [I f.params, I f.regs, y]] z ∧ ∃ M, RBools (some true) z M ∧ Full f.blocks M by
    obtain ⟨z, hz, M, h1, h2⟩ := h
    refine ⟨z, M, ?_, h1, h2⟩
    refine Runs.of (f13_MR _) ?_
    unfold f13_M
    exact Goes.chk rfl (Goes.call hz (Goes.chk (by simp [fitsAt, z22, isSlV, h1.isSl]) (Goes.chk (h1.own fun _ _ h => h.own) Goes.ret)))
  -- the rounds
  have rounds : ∀ d k (M0 M : List Bool) (w : TV), k + d = f.blocks.length → M0.length = f.blocks.length → Sound f.blocks M0 → Starts f.blocks M0 → M = Nat.repeat (roundM f.blocks) k M0 → RBools (some true) w M → ∃ z, Goes prog 23 (f23_2 (I k) (I f.params) (I f.regs) y w) z ∧ ∃ M, RBools (some true) z M ∧ Full f.blocks M := by
    intro d
    induction d with
    | zero =>
      intro k M0 M w hk hl hsd hst hM hw
      have hk : k = f.blocks.length := by omega
      subst hk
      subst hM
      obtain ⟨h1, h2, h3⟩ := repeat_round_sound f.blocks.length hl hsd hst
      obtain ⟨h4, _⟩ := rounds_closed (bs := f.blocks) hl
      refine ⟨w, ?_, _, hw, full_of h1 h2 h3 h4⟩
      unfold f23_2
      refine Goes.tv (RL.len (by assumption)) (Goes.tv rfl (Goes.ite asB_end (fun h => nomatch h) fun _ => ?_))
      exact Goes.chk (hw.own fun _ _ h => h.own) Goes.ret
    | succ d ih =>
      intro k M0 M w hk hl hsd hst hM hw
      have hkl : k < f.blocks.length := by omega
      have hML : M.length = f.blocks.length := by rw [hM]; exact (repeat_round_sound k hl hsd hst).1
      have inner : ∀ d i (w : TV), i + d = f.blocks.length → RBools (some true) w ((List.range i).foldl (stepM f.blocks) M) → ∃ z, Goes prog 23 (f23_3 (I k) (I i) (I f.params) (I f.regs) y w) z ∧ ∃ M, RBools (some true) z M ∧ Full f.blocks M := by
        intro d
        induction d with
        | zero =>
          intro i w hi hw
          have hi : i = f.blocks.length := by omega
          subst hi
          obtain ⟨z, hz, hq⟩ := ih (k + 1) M0 (roundM f.blocks M) w (by omega) hl hsd hst (by simp only [Nat.repeat]; rw [hM]) hw
          refine ⟨z, ?_, hq⟩
          unfold f23_3
          refine Goes.tv (RL.len (by assumption)) (Goes.tv rfl (Goes.ite asB_end (fun h => nomatch h) fun _ => ?_))
          exact Goes.tv (inc hkl hbd) (Goes.jmp (f23_2_R _ _ _ _ _) hz)
        | succ d ihd =>
          intro i w hi hw
          have hil : i < f.blocks.length := by omega
          refine r23_3 hy hw (by rw [steps_len]; exact hML) hil fun w' hw' => ?_
          refine ihd (i + 1) w' (by omega) ?_
          rw [List.range_succ, List.foldl_append]
          exact hw'
      obtain ⟨z, hz, hq⟩ := inner f.blocks.length 0 w (by omega) (by simpa using hw)
      refine ⟨z, ?_, hq⟩
      unfold f23_2
      refine Goes.tv (RL.len (by assumption)) (Goes.tv rfl (Goes.ite (asB_lt hkl) (fun _ => ?_) fun h => nomatch h))
      exact Goes.jmp (f23_3_R _ _ _ _ _ _) hz
  -- the beginning
  have start : ∀ d i (M : List Bool) (w : TV), i + d = f.blocks.length → M.length = f.blocks.length → RBools (some true) w M → (∀ j b, j < i → f.blocks[j]? = some b → M[j]? = some (b.landing && b.pad.cleanup)) → ∃ z, Goes prog 23 (f23_0 (I i) (I f.params) (I f.regs) y w) z ∧ ∃ M, RBools (some true) z M ∧ Full f.blocks M := by
    intro d
    induction d with
    | zero =>
      intro i M w hi hML hw hM
      have hi : i = f.blocks.length := by omega
      subst hi
      have hsd : Sound f.blocks M := by
        intro j hj
        have hjl : j < f.blocks.length := by have := (List.getElem?_eq_some_iff.1 hj).1; omega
        have hb : f.blocks[j]? = some f.blocks[j] := List.getElem?_eq_getElem hjl
        have := hM j _ hjl hb
        rw [hj] at this
        simp at this
        exact .start hb this.1 this.2
      have hst : Starts f.blocks M := by
        intro j b hb h1 h2
        rw [hM j b (List.getElem?_eq_some_iff.1 hb).1 hb, h1, h2]; rfl
      obtain ⟨z, hz, hq⟩ := rounds f.blocks.length 0 M M w (by omega) hML hsd hst rfl hw
      refine ⟨z, ?_, hq⟩
      unfold f23_0
      refine Goes.tv (RL.len (by assumption)) (Goes.tv rfl (Goes.ite asB_end (fun h => nomatch h) fun _ => ?_))
      refine Goes.jmp (f23_1_R _ _ _ _) ?_
      unfold f23_1
      exact Goes.jmp (f23_2_R _ _ _ _ _) hz
    | succ d ih =>
      intro i M w hi hML hw hM
      have hil : i < f.blocks.length := by omega
      have hb : f.blocks[i]? = some f.blocks[i] := List.getElem?_eq_getElem hil
      obtain ⟨e, he, hr⟩ := hy.idx (k := .i64) hb
      generalize f.blocks[i] = b at hb hr
      obtain ⟨c, is, g, rfl, hc, hd, his, hg, ho⟩ := hr
      have hiM : i < M.length := by omega
      have hMi : M[i]? = some M[i] := List.getElem?_eq_getElem hiM
      obtain ⟨em, hem, hrm⟩ := hw.pel hMi
      cases hrm
      have hlt : Nat.blt i M.length = true := by simpa using hiM
      have hchk : (slSize w 1 && Nat.blt i M.length) = true := by rw [hlt]; exact (Bool.and_true _).trans hw.slSize
      have next : ∀ (x : Bool), x = (b.landing && b.pad.cleanup) → ∃ w', setC [] w i 0 [B x] = some w' ∧ ∃ z, Goes prog 23 (f23_0 (I ((i + 1 : Nat) : Int)) (I f.params) (I f.regs) y w') z ∧ ∃ M, RBools (some true) z M ∧ Full f.blocks M := by
        intro x hx
        obtain ⟨w2, hw2, hr2⟩ := hw.setAt hem (d := 0) (ys := [B x]) (a := x) rfl
        refine ⟨w2, hw2, ih (i + 1) _ w2 (by omega) (by simpa using hML) hr2 fun j b' hj hb' => ?_⟩
        rw [List.getElem?_set]
        by_cases hji : i = j
        · subst hji; rw [hb] at hb'; cases hb'; simp [hiM, hx]
        · rw [if_neg hji]; exact hM j b' (by omega) hb'
      cases hl : b.landing with
      | true =>
        obtain ⟨w', hw', z, hz, hq⟩ := next b.pad.cleanup (by rw [hl]; rfl)
        refine ⟨z, ?_, hq⟩
        unfold f23_0
        refine Goes.tv (RL.len (by assumption)) (Goes.tv rfl (Goes.ite (asB_lt hil) (fun _ => ?_) fun h => nomatch h))
        exact Goes.tvs he (Goes.chk rfl (Goes.ite (v := true) (by rw [hl]; rfl) (fun _ => Goes.tvs he (Goes.chk rfl (Goes.nat hw.slLen (Goes.nat (asNat_nat (by omega)) (Goes.chk hchk (Goes.tvs hem (Goes.chk rfl (Goes.tv hw' (Goes.tv (inc hil hbd) (Goes.jmp (f23_0_R _ _ _ _ _) hz)))))))))) fun h => nomatch h))
      | false =>
        obtain ⟨w', hw', z, hz, hq⟩ := next false (by rw [hl]; rfl)
        refine ⟨z, ?_, hq⟩
        unfold f23_0
        refine Goes.tv (RL.len (by assumption)) (Goes.tv rfl (Goes.ite (asB_lt hil) (fun _ => ?_) fun h => nomatch h))
        exact Goes.tvs he (Goes.chk rfl (Goes.ite (v := false) (by rw [hl]; rfl) (fun h => nomatch h) fun _ => Goes.nat hw.slLen (Goes.nat (asNat_nat (by omega)) (Goes.chk hchk (Goes.tvs hem (Goes.chk rfl (Goes.tv hw' (Goes.tv (inc hil hbd) (Goes.jmp (f23_0_R _ _ _ _ _) hz)))))))))
  obtain ⟨z, hz, hq⟩ := start f.blocks.length 0 (List.replicate f.blocks.length false) (.sl true 1 (List.replicate f.blocks.length [B false])) (by omega) (by simp) (rep_bools (by omega)) (fun j b h => by omega)
  refine ⟨z, ?_, hq⟩
  refine Runs.of (f23_MR _) ?_
  unfold f23_M
  have hle : Nat.ble f.blocks.length 4294967296 = true := by simp; omega
  have hle' : Nat.ble f.blocks.length f.blocks.length = true := by simp
  exact Goes.chk rfl (Goes.tv hy.len (Goes.nat (asNat_nat (by omega)) (Goes.nat (asNat_nat (by omega)) (Goes.chk (by rw [hle, hle']; rfl) (Goes.jmp (f23_0_R _ _ _ _ _) hz)))))

theorem r3 {e e' : List TV} {m : DMod} {f : DFunc} (hm : RMod (some false) e m) (hf : RFunc (some false) e' f) : Runs prog 3 [.agg e, .agg e'] (B true) := by
  obtain ⟨bs, hs, _⟩ := r7 hm
  have h8 := r8 hm
  have h9 := r9 hm
  have h10 := r10 hm hf
  have h11 := r11 hm hf
  have hf' := hf
  obtain ⟨x, rfl, hx⟩ := hm
  obtain ⟨y, rfl, hy, hok⟩ := hf
  have hone : RMod (some false) [frz (.sl true 3 [[I f.params, I f.regs, y]])] ⟨[f]⟩ := ⟨_, rfl, RL.frz (q := some true) (s := 3) (R := RFunc (some false)) (.sl (by simp) (.cons ⟨y, rfl, hy, hok⟩ .nil) (by simp)) fun _ _ h => h.frz⟩
  obtain ⟨bs2, hs2, himp2⟩ := r7 hone
  refine Runs.of (f3_MR _ _) ?_
  unfold f3_M
  refine Goes.chk rfl (Goes.chk rfl (Goes.call r6 (Goes.chk rfl (Goes.tv rfl (Goes.ite rfl (fun h => nomatch h) fun _ => Goes.call hs (Goes.chk rfl (Goes.tv rfl (Goes.ite rfl (fun _ => Goes.ret) fun _ => ?_))))))))
  refine Goes.call hs2 (Goes.chk rfl (Goes.tv rfl (Goes.ite rfl (fun _ => Goes.ret) fun hb => ?_)))
  have hb : bs2 = true := by simpa using hb
  have hshort := himp2 hb
  have hl70 : f.blocks.length ≤ 70 := (hshort.2 0 (by simp) f rfl).1
  refine Goes.call h8 (Goes.chk rfl (Goes.call h9 (Goes.chk rfl (Goes.tv rfl (Goes.ite rfl (fun h => ?_) fun _ => ?_)))))
  · simp at h
  refine Goes.call h10 (Goes.chk rfl (Goes.call h11 (Goes.chk rfl (Goes.tv rfl (Goes.ite rfl (fun h => ?_) fun _ => ?_)))))
  · simp at h
  obtain ⟨z, M, h12, hz, hM⟩ := r12 hf' hl70
  obtain ⟨z2, M2, h13, hz2, hM2⟩ := r13 hf' hl70
  have hMM : M2 = M := full_eq hM2 hM
  subst hMM
  have hML := hM.1
  refine Goes.call h12 (Goes.chk (by simp [fitsAt, z22, isSlV, hz.isSl]) (Goes.call h13 (Goes.chk (by simp [fitsAt, z22, isSlV, hz2.isSl]) (Goes.tv hz.len (Goes.tv hz2.len (Goes.tv rfl (Goes.ite rfl (fun h => ?_) fun _ => ?_)))))))
  · simp at h
  refine Goes.jmp (f3_0_R _ _ _ _ _ _) ?_
  have loop : ∀ d i, i + d = f.blocks.length → Goes prog 3 (f3_0 (I (i : Int)) (I f.params) (I f.regs) y z z2) (B true) := by
    intro d
    induction d with
    | zero =>
      intro i hi
      have hi : i = M2.length := by omega
      subst hi
      unfold f3_0
      refine Goes.tv (RL.len (by assumption)) (Goes.tv rfl (Goes.ite asB_end (fun h => nomatch h) fun _ => ?_))
      exact Goes.ret
    | succ d ih =>
      intro i hi
      have hil : i < f.blocks.length := by omega
      have hiM : i < M2.length := by omega
      have hb : f.blocks[i]? = some f.blocks[i] := List.getElem?_eq_getElem hil
      obtain ⟨e, he, hr⟩ := hy.idx (k := .i64) hb
      generalize f.blocks[i] = b at hb hr
      obtain ⟨gv, h15, hgv⟩ := r15 hr
      have hMi : M2[i]? = some M2[i] := List.getElem?_eq_getElem hiM
      obtain ⟨em, hem, hrm⟩ := hz.pel hMi
      cases hrm
      obtain ⟨em2, hem2, hrm2⟩ := hz2.pel hMi
      cases hrm2
      have hlt : Nat.blt i M2.length = true := by simpa using hiM
      have hchk : (slSize z 1 && Nat.blt i M2.length) = true := by rw [hlt]; exact (Bool.and_true _).trans hz.slSize
      have hchk2 : (slSize z2 1 && Nat.blt i M2.length) = true := by rw [hlt]; exact (Bool.and_true _).trans hz2.slSize
      have hnext := ih (i + 1) (by omega)
      have hbd := hy.bnd
      obtain ⟨c, is, g, rfl, hc, hd, his, hg, ho⟩ := hr
      obtain ⟨o1, o2, o3, o4, o5, o6, o7⟩ := ho
      -- what was laid out beside is held against what is told
      have last : ∀ (w : TV), RInts (some true) w (gl b) → Goes prog 3 (f3_3 (I (i : Int)) (I f.params) (I f.regs) y z z2 w) (B true) := by
        intro w hw
        have h14 := r14 (hgv.frz (S := RI1) fun _ _ h => h.frz) (hw.frz (S := RI1) fun _ _ h => h.frz)
        rw [tt_true rfl] at h14
        unfold f3_3
        exact Goes.tvs he (Goes.chk rfl (Goes.call h15 (Goes.chk (by simp [fitsAt, z22, isSlV, hgv.isSl]) (Goes.call h14 (Goes.chk rfl (Goes.tv rfl (Goes.ite rfl (fun h => nomatch h) fun _ => Goes.tv (inc hil hbd) (Goes.jmp (f3_0_R _ _ _ _ _ _) hnext))))))))
      have second : ∀ (w : TV) (l : List Int) (u : Bool), RInts (some true) w l → l.length ≤ 1 → (u = true ↔ b.fin.kind = 3) → l ++ (if b.fin.kind = 3 then [b.fin.els] else []) = gl b → Goes prog 3 (f3_2 (I (i : Int)) (B u) (I f.params) (I f.regs) y z z2 (I b.fin.kind) (I b.fin.a) (I b.fin.dst) (I b.fin.f) g (I b.fin.to) (I b.fin.els) (I b.fin.pad) w) (B true) := by
        intro w l u hw hl hu hlg
        unfold f3_2
        cases u with
        | true =>
          have h3 := hu.1 rfl
          obtain ⟨w', hw', hr⟩ := hw.app (e := [I b.fin.els]) (a := b.fin.els) ⟨rfl, o6⟩ (by omega)
          rw [if_pos h3] at hlg
          rw [hlg] at hr
          exact Goes.ite rfl (fun _ => Goes.rws rfl (Goes.tv hw' (Goes.jmp (f3_3_R _ _ _ _ _ _ _) (last w' hr)))) fun h => nomatch h
        | false =>
          have h3 : ¬ b.fin.kind = 3 := fun h => by have := hu.2 h; cases this
          rw [if_neg h3, List.append_nil] at hlg
          rw [hlg] at hw
          exact Goes.ite rfl (fun h => nomatch h) fun _ => Goes.jmp (f3_3_R _ _ _ _ _ _ _) (last w hw)
      have first : ∀ (u : Bool), (u = true ↔ b.fin.kind = 2 ∨ b.fin.kind = 3 ∨ b.fin.kind = 4) → Goes prog 3 (f3_1 (I (i : Int)) (B u) (I f.params) (I f.regs) y z z2 (I b.fin.kind) (I b.fin.a) (I b.fin.dst) (I b.fin.f) g (I b.fin.to) (I b.fin.els) (I b.fin.pad) (.lit nilV)) (B true) := by
        intro u hu
        unfold f3_1
        cases u with
        | true =>
          have hk := hu.1 rfl
          refine Goes.ite rfl (fun _ => Goes.rws rfl (Goes.tv (v := .sl true 1 [[I b.fin.to]]) rfl (Goes.tv rfl (Goes.jmp (f3_2_R _ _ _ _ _ _ _ _ _ _ _ _ _ _ _ _) ?_)))) fun h => nomatch h
          exact second _ [b.fin.to] _ (.sl (by simp) (.cons ⟨rfl, o5⟩ .nil) (by simp)) (by simp) (by simp) (by simp [gl, hk])
        | false =>
          have hk : ¬ (b.fin.kind = 2 ∨ b.fin.kind = 3 ∨ b.fin.kind = 4) := fun h => by have := hu.2 h; cases this
          refine Goes.ite rfl (fun h => nomatch h) fun _ => Goes.tv rfl (Goes.jmp (f3_2_R _ _ _ _ _ _ _ _ _ _ _ _ _ _ _ _) ?_)
          exact second _ [] _ .nil (by simp) (by simp) (by simp [gl, hk])
      unfold f3_0
      refine Goes.tv hz.len (Goes.tv rfl (Goes.ite (asB_lt hiM) (fun _ => ?_) fun h => nomatch h))
      refine Goes.nat hz.slLen (Goes.nat (asNat_nat (by omega)) (Goes.chk hchk (Goes.tvs hem (Goes.chk rfl (Goes.nat hz2.slLen (Goes.nat (asNat_nat (by omega)) (Goes.chk hchk2 (Goes.tvs hem2 (Goes.chk rfl (Goes.tv rfl (Goes.ite rfl (fun h => ?_) fun _ => ?_)))))))))))
      · simp at h
      refine Goes.tvs he (Goes.chk rfl (Goes.tv rfl (Goes.ite rfl (fun h => ?_) fun k2 => ?_)))
      · exact Goes.chk rfl (Goes.jmp (f3_1_R _ _ _ _ _ _ _ _ _ _ _ _ _ _ _ _) (first true (by simp at h; simp [h])))
      · refine Goes.tv rfl (Goes.ite rfl (fun h => ?_) fun k3 => ?_)
        · exact Goes.chk rfl (Goes.jmp (f3_1_R _ _ _ _ _ _ _ _ _ _ _ _ _ _ _ _) (first true (by simp at h; simp [h])))
        · refine Goes.tv rfl (Goes.chk rfl (Goes.jmp (f3_1_R _ _ _ _ _ _ _ _ _ _ _ _ _ _ _ _) (first _ (by simp at k2 k3; simp [k2, k3]))))
  exact loop f.blocks.length 0 (by omega)
end Go.Ab.S2


/- What the functions of layer 2 answer: to which blocks a cleanup leads, the program's and the document's. No condition. -/
import Derived.Test.YtbjomheepodapaaF12
set_option linter.unusedVariables false
set_option maxRecDepth 10000
namespace Go.Ab
/-- What is so while some blocks are still to be looked at. -/
structure Inv (bs : List DBlock) (M : List Bool) (O : List Int) : Prop where
  len : M.length = bs.length
  sound : Sound bs M
  mem : ∀ o, o ∈ O → 0 ≤ o ∧ M[o.toNat]? = some true
  closed : ∀ (i : Nat) (b : DBlock) (g : Int), M[i]? = some true → (i : Int) ∉ O → bs[i]? = some b → g ∈ gl b → 0 ≤ g → g.toNat < bs.length → M[g.toNat]? = some true
  few : O.length ≤ M.count true
theorem rep_bools {n : Nat} (h : n ≤ 9223372036854775807) : RBools (some true) (.sl true 1 (List.replicate n [B false])) (List.replicate n false) := by
  refine .sl (by simp) ?_ (by simpa using h)
  induction n with
  | zero => exact .nil
  | succ n ih => exact .cons rfl (ih (by omega))
end Go.Ab
namespace Go.Ab.S2
open Go Go.Ab Go.Proofs
theorem r12_2 {q : Option Bool} {y : TV} {bs : List DBlock} {p regs : TV} (hy : RL q 14 (RBlock q) y bs) (hn : bs.length ≤ 70) :
    ∀ (μ : Nat) (M : List Bool) (O : List Int) (w v : TV), RBools (some true) w M → RInts (some true) v O → Starts bs M → Inv bs M O → 2 * (bs.length - M.count true) + O.length ≤ μ → ∃ z M', Goes prog 12 (f12_2 p regs y w v) z ∧ RBools (some true) z M' ∧ Full bs M' := by
  intro μ
  induction μ with
  | zero =>
    intro M O w v hw hv hs hI hμ
    have hO : O = [] := List.length_eq_zero_iff.1 (by omega)
    subst hO
    refine ⟨w, M, ?_, hw, full_of hI.len hI.sound hs fun i b g hi hb hg h0 hn => hI.closed i b g hi (by simp) hb hg h0 hn⟩
    unfold f12_2
    exact Goes.tv hv.len (Goes.tv rfl (Goes.ite rfl (fun h => nomatch h) fun _ => Goes.chk (hw.own fun _ _ h => h.own) Goes.ret))
  | succ μ ih =>
    intro M O w v hw hv hs hI hμ
    by_cases hO : O = []
    · subst hO
      refine ⟨w, M, ?_, hw, full_of hI.len hI.sound hs fun i b g hi hb hg h0 hn => hI.closed i b g hi (by simp) hb hg h0 hn⟩
      unfold f12_2
      exact Goes.tv hv.len (Goes.tv rfl (Goes.ite rfl (fun h => nomatch h) fun _ => Goes.chk (hw.own fun _ _ h => h.own) Goes.ret))
    · have hpos : 0 < O.length := List.length_pos_iff.2 hO
      have hlast : O[O.length - 1]? = some O[O.length - 1] := List.getElem?_eq_getElem (by omega)
      obtain ⟨e, he, hr⟩ := hv.pel hlast
      generalize ho : O[O.length - 1] = o at *
      obtain ⟨rfl, hin⟩ := hr
      have hmem : o ∈ O := List.mem_of_getElem? hlast
      obtain ⟨h0, hM⟩ := hI.mem o hmem
      have hlt : o.toNat < bs.length := by have := (List.getElem?_eq_some_iff.1 hM).1; rw [hI.len] at this; exact this
      have hb : bs[o.toNat]? = some bs[o.toNat] := List.getElem?_eq_getElem hlt
      obtain ⟨eb, heb, hrb⟩ := hy.idxI (k := .i64) h0 hb
      generalize bs[o.toNat] = b at hb hrb
      obtain ⟨gv, h15, hgv⟩ := r15 hrb
      obtain ⟨v', hv', hrv⟩ := hv.win (k := O.length - 1) (by omega)
      have hcnt := count_le M
      have hfew := hI.few
      have hML := hI.len
      -- the goals, one by one
      have inner : ∀ d t (M : List Bool) (O' : List Int) (w v : TV), t + d = (gl b).length → RBools (some true) w M → RInts (some true) v O' → Starts bs M → M.length = bs.length → Sound bs M → (∀ o, o ∈ O' → 0 ≤ o ∧ M[o.toNat]? = some true) → M[o.toNat]? = some true →
          (∀ (i : Nat) (b : DBlock) (g : Int), M[i]? = some true → (i : Int) ∉ O' → i ≠ o.toNat → bs[i]? = some b → g ∈ gl b → 0 ≤ g → g.toNat < bs.length → M[g.toNat]? = some true) →
          (∀ j g, j < t → (gl b)[j]? = some g → 0 ≤ g → g.toNat < bs.length → M[g.toNat]? = some true) → O'.length + 1 ≤ M.count true → 2 * (bs.length - M.count true) + O'.length ≤ μ →
          ∃ z M', Goes prog 12 (f12_3 (I (gl b).length) (I t) p regs y w v gv) z ∧ RBools (some true) z M' ∧ Full bs M' := by
        intro d
        induction d with
        | zero =>
          intro t M O' w v ht hw hv hs hML hsd hmem hMo hcl hdone hfew hμ
          have ht : t = (gl b).length := by omega
          subst ht
          obtain ⟨z, M', hz, h1, h2⟩ := ih M O' w v hw hv hs ⟨hML, hsd, hmem, fun i b' g hi hio hb' hg h0' hn' => by
            by_cases hio2 : i = o.toNat
            · subst hio2
              rw [hb] at hb'
              cases hb'
              obtain ⟨j, hj⟩ := List.mem_iff_getElem?.1 hg
              exact hdone j g (List.getElem?_eq_some_iff.1 hj).1 hj h0' hn'
            · exact hcl i b' g hi hio hio2 hb' hg h0' hn', by omega⟩ hμ
          refine ⟨z, M', ?_, h1, h2⟩
          unfold f12_3
          refine Goes.tv rfl (Goes.ite asB_end (fun h => nomatch h) fun _ => ?_)
          exact Goes.jmp (f12_2_R _ _ _ _ _) hz
        | succ d ihd =>
          intro t M O' w v ht hw hv hs hML hsd hmem hMo hcl hdone hfew hμ
          have htl : t < (gl b).length := by omega
          have hg : (gl b)[t]? = some (gl b)[t] := List.getElem?_eq_getElem htl
          obtain ⟨eg, heg, hrg⟩ := hgv.pel hg
          have hgm : (gl b)[t] ∈ gl b := List.getElem_mem htl
          generalize (gl b)[t] = g at hg hrg hgm
          obtain ⟨rfl, hing⟩ := hrg
          have hb2 := hgv.bnd
          have hltg : Nat.blt t (gl b).length = true := by simpa using htl
          have hcnt := count_le M
          -- nothing to do
          have skip : (0 ≤ g → g.toNat < bs.length → M[g.toNat]? = some true) → ∃ z M', Goes prog 12 (f12_3 (I (gl b).length) (I ((t + 1 : Nat) : Int)) p regs y w v gv) z ∧ RBools (some true) z M' ∧ Full bs M' := fun hgg =>
            ihd (t + 1) M O' w v (by omega) hw hv hs hML hsd hmem hMo hcl (fun j g' hj hg' h0' hn' => by
              by_cases hjt : j = t
              · subst hjt; rw [hg] at hg'; cases hg'; exact hgg h0' hn'
              · exact hdone j g' (by omega) hg' h0' hn') hfew hμ
          have head : ∀ z, Goes prog 12 (.ite (asBool (.lit (.bool (decide (0 ≤ g))))) (
              .tv (plen (.slice 4) w) fun v35 => .tv (pbin (.int .i64) .lss (I g) v35) fun v36 => .ite (asBool v36) (
                .nat (slLen w) fun n37 => .nat (asNat (I g)) fun n38 => .chk (Bool.and (slSize w 1) (Nat.blt n38 n37)) (
                .tvs (pel w n38) fun e39 => .chk (fitsAt z4 e39 0) (
                .tv (pun .not (nth .hole e39 0)) fun v40 => .ite (asBool v40) (
                  .nat (slLen w) fun n41 => .nat (asNat (I g)) fun n42 => .chk (Bool.and (slSize w 1) (Nat.blt n42 n41)) (
                  .tvs (pel w n42) fun e43 => .chk (fitsAt z4 e43 0) (
                  .tv (setC [] w n42 0 [.lit (.bool true)]) fun v44 => .rws (pelems 1 (.sl true 1 (chunks 1 1 [I g]))) fun r45 => .tv (papp 1 v (lfLL r45)) fun v46 =>
                  .tv (pbin (.int .i64) .add (I (t : Int)) (I (1 : Int))) fun v47 => .jmp [0, 0, 1, 1, 1, 0, 1, 0, 0, 0, 1, 1, 1, 1] (f12_3_S (I (gl b).length) v47 p regs y v44 v46 gv)))) (
                  .tv (pbin (.int .i64) .add (I (t : Int)) (I (1 : Int))) fun v48 => .jmp [0, 0, 1, 1, 1, 0, 1, 0, 0, 0, 1, 1, 1, 1] (f12_3_S (I (gl b).length) v48 p regs y w v gv))))) (
                .tv (pbin (.int .i64) .add (I (t : Int)) (I (1 : Int))) fun v49 => .jmp [0, 0, 1, 1, 1, 0, 1, 0, 0, 0, 1, 1, 1, 1] (f12_3_S (I (gl b).length) v49 p regs y w v gv))) (
              .tv (pbin (.int .i64) .add (I (t : Int)) (I (1 : Int))) fun v50 => .jmp [0, 0, 1, 1, 1, 0, 1, 0, 0, 0, 1, 1, 1, 1] (f12_3_S (I (gl b).length) v50 p regs y w v gv))) z →
              Goes prog 12 (f12_3 (I (gl b).length) (I (t : Int)) p regs y w v gv) z := by
            intro z hz
            unfold f12_3
            refine Goes.tv rfl (Goes.ite (asB_lt htl) (fun _ => ?_) fun h => nomatch h)
            exact Goes.nat hgv.slLen (Goes.nat (asNat_nat (by omega)) (Goes.chk (by rw [hltg]; exact (Bool.and_true _).trans hgv.slSize) (Goes.tvs heg (Goes.chk rfl (Goes.tv rfl hz)))))
          by_cases hg0 : 0 ≤ g
          · by_cases hgn : g.toNat < bs.length
            · have hgl : g.toNat < M.length := by omega
              have hMg : M[g.toNat]? = some (M[g.toNat]) := List.getElem?_eq_getElem hgl
              obtain ⟨em, hem, hrm⟩ := hw.pel hMg
              cases hrm
              have hgN : asNat (I g) = some g.toNat := by have := hing.2; simp [asNat, hg0]; omega
              have hlt2 : Nat.blt g.toNat M.length = true := by simpa using hgl
              have hchk : (slSize w 1 && Nat.blt g.toNat M.length) = true := by rw [hlt2]; exact (Bool.and_true _).trans hw.slSize
              cases hv2 : M[g.toNat] with
              | true =>
                rw [hv2] at hem hMg
                obtain ⟨z, M', hz, h1, h2⟩ := skip fun _ _ => hMg
                refine ⟨z, M', head z ?_, h1, h2⟩
                exact Goes.ite (v := true) (by simp [asBool, hg0]) (fun _ => Goes.tv hw.len (Goes.tv rfl (Goes.ite (v := true) (by simp [asBool]; omega) (fun _ => Goes.nat hw.slLen (Goes.nat hgN (Goes.chk hchk (Goes.tvs hem (Goes.chk rfl (Goes.tv rfl (Goes.ite rfl (fun h => nomatch h) fun _ => Goes.tv (inc htl hb2) (Goes.jmp (f12_3_R _ _ _ _ _ _ _ _) hz)))))))) fun h => nomatch h))) fun h => nomatch h
              | false =>
                rw [hv2] at hem hMg
                obtain ⟨w', hw', hrw⟩ := hw.setAt hem (d := 0) (ys := [B true]) (a := true) rfl
                obtain ⟨v', hv', hrv⟩ := hv.app (e := [I g]) (a := g) ⟨rfl, hing⟩ (by omega)
                have hcs := set_count hMg
                have mono : ∀ i, M[i]? = some true → (M.set g.toNat true)[i]? = some true := fun i h => (set_get hgl).2 (.inr h)
                obtain ⟨z, M', hz, h1, h2⟩ := ihd (t + 1) (M.set g.toNat true) (O' ++ [g]) w' v' (by omega) hrw hrv (fun i b' h1 h2 h3 => mono _ (hs i b' h1 h2 h3)) (by simpa using hML)
                  (fun i hi => by
                    rcases (set_get hgl).1 hi with rfl | hi
                    · exact .next (hsd _ hMo) hb hgm hg0 hgn
                    · exact hsd i hi)
                  (fun o' ho' => by
                    rcases List.mem_append.1 ho' with ho' | ho'
                    · exact ⟨(hmem o' ho').1, mono _ (hmem o' ho').2⟩
                    · simp at ho'; subst ho'; exact ⟨hg0, (set_get hgl).2 (.inl rfl)⟩)
                  (mono _ hMo)
                  (fun i b' g' hi hio hio2 hb' hg' h0' hn' => by
                    have hig : i ≠ g.toNat := fun h => hio (List.mem_append_right _ (by simp [h]; omega))
                    rcases (set_get hgl).1 hi with hi | hi
                    · exact absurd hi hig
                    · exact mono _ (hcl i b' g' hi (fun h => hio (List.mem_append_left _ h)) hio2 hb' hg' h0' hn'))
                  (fun j g' hj hg' h0' hn' => by
                    by_cases hjt : j = t
                    · subst hjt; rw [hg] at hg'; cases hg'; exact (set_get hgl).2 (.inl rfl)
                    · exact mono _ (hdone j g' (by omega) hg' h0' hn'))
                  (by rw [hcs]; simp; omega)
                  (by have := count_le (M.set g.toNat true); rw [hcs] at this ⊢; simp at this ⊢; omega)
                refine ⟨z, M', head z ?_, h1, h2⟩
                refine Goes.ite (v := true) (by simp [asBool, hg0]) (fun _ => Goes.tv hw.len (Goes.tv rfl (Goes.ite (v := true) (by simp [asBool]; omega) (fun _ => Goes.nat hw.slLen (Goes.nat hgN (Goes.chk hchk (Goes.tvs hem (Goes.chk rfl (Goes.tv rfl (Goes.ite rfl (fun _ => ?_) fun h => nomatch h))))))) fun h => nomatch h))) fun h => nomatch h
                exact Goes.nat hw.slLen (Goes.nat hgN (Goes.chk hchk (Goes.tvs hem (Goes.chk rfl (Goes.tv hw' (Goes.rws rfl (Goes.tv hv' (Goes.tv (inc htl hb2) (Goes.jmp (f12_3_R _ _ _ _ _ _ _ _) hz)))))))))
            · obtain ⟨z, M', hz, h1, h2⟩ := skip fun _ h => absurd h hgn
              refine ⟨z, M', head z ?_, h1, h2⟩
              exact Goes.ite (v := true) (by simp [asBool, hg0]) (fun _ => Goes.tv hw.len (Goes.tv rfl (Goes.ite (v := false) (by simp [asBool]; omega) (fun h => nomatch h) fun _ => Goes.tv (inc htl hb2) (Goes.jmp (f12_3_R _ _ _ _ _ _ _ _) hz)))) fun h => nomatch h
          · obtain ⟨z, M', hz, h1, h2⟩ := skip fun h => absurd h hg0
            refine ⟨z, M', head z ?_, h1, h2⟩
            exact Goes.ite (v := false) (by simp [asBool]; omega) (fun h => nomatch h) fun _ => Goes.tv (inc htl hb2) (Goes.jmp (f12_3_R _ _ _ _ _ _ _ _) hz)
      obtain ⟨z, M', hz, h1, h2⟩ := inner (gl b).length 0 M (O.take (O.length - 1)) w v' (by omega) hw hrv hs hML hI.sound (fun o' ho' => hI.mem o' (List.mem_of_mem_take ho')) hM
        (fun i b' g hi hio hio2 hb' hg h0' hn' => hI.closed i b' g hi (fun h => by
          obtain ⟨j, hj⟩ := List.mem_iff_getElem?.1 h
          have hjl := (List.getElem?_eq_some_iff.1 hj).1
          by_cases hjj : j = O.length - 1
          · subst hjj; rw [hlast] at hj; cases hj; exact hio2 (by simp)
          · exact hio (List.mem_iff_getElem?.2 ⟨j, by rw [List.getElem?_take, if_pos (by omega)]; exact hj⟩)) hb' hg h0' hn')
        (fun j g hj => by omega) (by simp; omega) (by simp; omega)
      refine ⟨z, M', ?_, h1, h2⟩
      have hsub : pbin (.int .i64) .sub (I (O.length : Int)) (I (1 : Int)) = some (I ((O.length - 1 : Nat) : Int)) := by
        rw [psub (by have := hv.bnd; constructor <;> omega)]
        congr 3; omega
      have hlt3 : Nat.blt (O.length - 1) O.length = true := by simp; omega
      have hle3 : Nat.ble (O.length - 1) O.length = true := by simp
      have hbO := hv.bnd
      obtain ⟨_, _, _, rfl, _⟩ := hrb
      unfold f12_2
      refine Goes.tv hv.len (Goes.tv rfl (Goes.ite (v := true) (by simp [asBool]; omega) (fun _ => ?_) fun h => nomatch h))
      refine Goes.tv hv.len (Goes.tv hsub (Goes.nat hv.slLen (Goes.nat (asNat_nat (by omega)) (Goes.chk (by rw [hlt3]; exact (Bool.and_true _).trans hv.slSize) (Goes.tvs he (Goes.chk rfl ?_))))))
      refine Goes.tv hv.len (Goes.tv hsub (Goes.nat hv.slLen (Goes.nat (asNat_nat (by omega)) (Goes.chk (by rw [show Option.getD (some (O.length - 1)) O.length = O.length - 1 from rfl, hle3, hv.slSize]; rfl) (Goes.tvs heb (Goes.chk rfl (Goes.call h15 (Goes.chk (by simp [fitsAt, z22, isSlV, hgv.isSl]) (Goes.tv hgv.len (Goes.tv hv' (Goes.jmp (f12_3_R _ _ _ _ _ _ _ _) hz)))))))))))

/-- shape.Cleans -/
theorem r12 {q : Option Bool} {e : List TV} {f : DFunc} (he : RFunc q e f) (hn : f.blocks.length ≤ 70) : ∃ z M, Runs prog 12 [.agg e] z ∧ RBools (some true) z M ∧ Full f.blocks M := by
  obtain ⟨y, rfl, hy, _⟩ := he
  have loop : ∀ d i (M : List Bool) (O : List Int) (w v : TV), i + d = f.blocks.length → RBools (some true) w M → RInts (some true) v O → M.length = f.blocks.length → Sound f.blocks M → (∀ o, o ∈ O → 0 ≤ o ∧ M[o.toNat]? = some true) → (∀ j : Nat, M[j]? = some true → (j : Int) ∈ O) → O.length ≤ M.count true → (∀ j, i ≤ j → M[j]? ≠ some true) →
      (∀ j b, j < i → f.blocks[j]? = some b → b.landing = true → b.pad.cleanup = true → M[j]? = some true) → ∃ z M', Goes prog 12 (f12_0 y (I f.blocks.length) (I i) (I f.params) (I f.regs) y w v) z ∧ RBools (some true) z M' ∧ Full f.blocks M' := by
    intro d
    induction d with
    | zero =>
      intro i M O w v hi hw hv hML hsd hmem hall hfew hnot hst
      have hi : i = f.blocks.length := by omega
      subst hi
      obtain ⟨z, M', hz, h1, h2⟩ := r12_2 hy hn (p := I f.params) (regs := I f.regs) _ M O w v hw hv (fun j b hb hl hc => hst j b (List.getElem?_eq_some_iff.1 hb).1 hb hl hc) ⟨hML, hsd, hmem, fun i b g hi hio => absurd (hall i hi) hio, hfew⟩ (Nat.le_refl _)
      refine ⟨z, M', ?_, h1, h2⟩
      unfold f12_0
      refine Goes.tv rfl (Goes.ite asB_end (fun h => nomatch h) fun _ => ?_)
      refine Goes.jmp (f12_1_R _ _ _ _ _) ?_
      unfold f12_1
      exact Goes.jmp (f12_2_R _ _ _ _ _) hz
    | succ d ih =>
      intro i M O w v hi hw hv hML hsd hmem hall hfew hnot hst
      have hil : i < f.blocks.length := by omega
      have hb : f.blocks[i]? = some f.blocks[i] := List.getElem?_eq_getElem hil
      obtain ⟨e, he, hr⟩ := hy.idx (k := .i64) hb
      generalize f.blocks[i] = b at hb hr
      obtain ⟨c, is, g, rfl, hc, hd, his, hg, ho⟩ := hr
      have skip : ¬ (b.landing = true ∧ b.pad.cleanup = true) → ∃ z M', Goes prog 12 (f12_0 y (I f.blocks.length) (I ((i + 1 : Nat) : Int)) (I f.params) (I f.regs) y w v) z ∧ RBools (some true) z M' ∧ Full f.blocks M' := fun hno =>
        ih (i + 1) M O w v (by omega) hw hv hML hsd hmem hall hfew (fun j hj => hnot j (by omega)) (fun j b' hj hb' hl hc' => by
          by_cases hji : j = i
          · subst hji; rw [hb] at hb'; cases hb'; exact absurd ⟨hl, hc'⟩ hno
          · exact hst j b' (by omega) hb' hl hc')
      cases hl : b.landing with
      | false =>
        obtain ⟨z, M', hz, h1, h2⟩ := skip (by simp [hl])
        refine ⟨z, M', ?_, h1, h2⟩
        unfold f12_0
        refine Goes.tv rfl (Goes.ite (asB_lt hil) (fun _ => ?_) fun h => nomatch h)
        refine Goes.tvs he (Goes.chk rfl (Goes.ite (v := false) (by rw [hl]; rfl) (fun h => nomatch h) fun _ => Goes.tv (inc hil hy.bnd) (Goes.jmp (f12_0_R _ _ _ _ _ _ _ _) hz)))
      | true =>
        cases hcl : b.pad.cleanup with
        | false =>
          obtain ⟨z, M', hz, h1, h2⟩ := skip (by simp [hcl])
          refine ⟨z, M', ?_, h1, h2⟩
          unfold f12_0
          refine Goes.tv rfl (Goes.ite (asB_lt hil) (fun _ => ?_) fun h => nomatch h)
          refine Goes.tvs he (Goes.chk rfl (Goes.ite (v := true) (by rw [hl]; rfl) (fun _ => Goes.ite (v := false) (by rw [hcl]; rfl) (fun h => nomatch h) fun _ => Goes.tv (inc hil hy.bnd) (Goes.jmp (f12_0_R _ _ _ _ _ _ _ _) hz)) fun h => nomatch h))
        | true =>
          have hiM : i < M.length := by omega
          have hMi : M[i]? = some M[i] := List.getElem?_eq_getElem hiM
          obtain ⟨em, hem, hrm⟩ := hw.pel hMi
          cases hrm
          have hMf : M[i]? = some false := by
            cases hv2 : M[i] with
            | false => rw [hMi, hv2]
            | true => exact absurd (by rw [hMi, hv2]) (hnot i (Nat.le_refl _))
          obtain ⟨w', hw', hrw⟩ := hw.setAt hem (d := 0) (ys := [B true]) (a := true) rfl
          have hcnt := count_le M
          obtain ⟨v', hv', hrv⟩ := hv.app (e := [I (i : Int)]) (a := (i : Int)) ⟨rfl, by constructor <;> omega⟩ (by omega)
          have hcs := set_count hMf
          have mono : ∀ j, M[j]? = some true → (M.set i true)[j]? = some true := fun j h => (set_get hiM).2 (.inr h)
          obtain ⟨z, M', hz, h1, h2⟩ := ih (i + 1) (M.set i true) (O ++ [(i : Int)]) w' v' (by omega) hrw hrv (by simpa using hML)
            (fun j hj => by
              rcases (set_get hiM).1 hj with rfl | hj
              · exact .start hb hl hcl
              · exact hsd j hj)
            (fun o ho' => by
              rcases List.mem_append.1 ho' with ho' | ho'
              · exact ⟨(hmem o ho').1, mono _ (hmem o ho').2⟩
              · simp at ho'; subst ho'; exact ⟨by omega, (set_get hiM).2 (.inl (by simp))⟩)
            (fun j hj => by
              rcases (set_get hiM).1 hj with rfl | hj
              · exact List.mem_append_right _ (by simp)
              · exact List.mem_append_left _ (hall j hj))
            (by rw [hcs]; simp; omega)
            (fun j hj h => by
              rcases (set_get hiM).1 h with rfl | h
              · omega
              · exact hnot j (by omega) h)
            (fun j b' hj hb' hl' hc' => by
              by_cases hji : j = i
              · subst hji; exact (set_get hiM).2 (.inl rfl)
              · exact mono _ (hst j b' (by omega) hb' hl' hc'))
          refine ⟨z, M', ?_, h1, h2⟩
          have hlt2 : Nat.blt i M.length = true := by simpa using hiM
          unfold f12_0
          refine Goes.tv rfl (Goes.ite (asB_lt hil) (fun _ => ?_) fun h => nomatch h)
          refine Goes.tvs he (Goes.chk rfl (Goes.ite (v := true) (by rw [hl]; rfl) (fun _ => Goes.ite (v := true) (by rw [hcl]; rfl) (fun _ => ?_) fun h => nomatch h) fun h => nomatch h))
          exact Goes.nat hw.slLen (Goes.nat (asNat_nat (by omega)) (Goes.chk (by rw [hlt2]; exact (Bool.and_true _).trans hw.slSize) (Goes.tvs hem (Goes.chk rfl (Goes.tv hw' (Goes.chk rfl (Goes.rws rfl (Goes.tv hv' (Goes.tv (inc hil hy.bnd) (Goes.jmp (f12_0_R _ _ _ _ _ _ _ _) hz))))))))))
  have hz0 : ∀ j : Nat, (List.replicate f.blocks.length false)[j]? ≠ some true := by
    intro j
    rw [List.getElem?_replicate]
    split <;> simp
  obtain ⟨z, M', hz, h1, h2⟩ := loop f.blocks.length 0 (List.replicate f.blocks.length false) [] (.sl true 1 (List.replicate f.blocks.length [B false])) (.lit nilV) (by omega) (rep_bools (by omega)) .nil (by simp) (fun i h => absurd h (hz0 i)) (fun o h => by simp at h) (fun j h => absurd h (hz0 j)) (by simp) (fun j _ => hz0 j) (fun j b h => by omega)
  refine ⟨z, M', ?_, h1, h2⟩
  refine Runs.of (f12_MR _) ?_
  unfold f12_M
  have hle : Nat.ble f.blocks.length 4294967296 = true := by simp; omega
  have hle' : Nat.ble f.blocks.length f.blocks.length = true := by simp
  exact Goes.chk rfl (Goes.tv hy.len (Goes.nat (asNat_nat (by omega)) (Goes.nat (asNat_nat (by omega)) (Goes.chk (by rw [hle, hle']; rfl) (Goes.tv hy.len (Goes.chk rfl (Goes.jmp (f12_0_R _ _ _ _ _ _ _ _) hz)))))))

/-! ### the document's: by rounds -/
/-- One block's goals are marked, where it is. -/
def markTo (n : Nat) (M : List Bool) (g : Int) : List Bool := if 0 ≤ g ∧ g < n then M.set g.toNat true else M
def stepM (bs : List DBlock) (M : List Bool) (i : Nat) : List Bool :=
  if M[i]? = some true then (match bs[i]? with
    | some b => (gl b).foldl (markTo bs.length) M
    | none => M) else M
theorem markTo_len (n : Nat) (M : List Bool) (g : Int) : (markTo n M g).length = M.length := by unfold markTo; split <;> simp
theorem markTo_mono {n : Nat} {M : List Bool} {g : Int} (hl : M.length = n) {i : Nat} (h : M[i]? = some true) : (markTo n M g)[i]? = some true := by
  unfold markTo
  split
  · rename_i hg
    exact (set_get (by omega)).2 (.inr h)
  · exact h
theorem marks_len (n : Nat) : ∀ (l : List Int) (M : List Bool), (l.foldl (markTo n) M).length = M.length
  | [], _ => rfl
  | g :: l, M => by simp [marks_len n l, markTo_len]
theorem marks_mono {n : Nat} : ∀ (l : List Int) {M : List Bool}, M.length = n → ∀ {i : Nat}, M[i]? = some true → (l.foldl (markTo n) M)[i]? = some true
  | [], _, _, _, h => h
  | g :: l, M, hl, i, h => marks_mono l (by rw [markTo_len]; exact hl) (markTo_mono hl h)
theorem marks_of {n : Nat} : ∀ (l : List Int) {M : List Bool}, M.length = n → ∀ {i : Nat}, (l.foldl (markTo n) M)[i]? = some true → M[i]? = some true ∨ ∃ g, g ∈ l ∧ 0 ≤ g ∧ g.toNat < n ∧ g.toNat = i
  | [], _, _, _, h => .inl h
  | g :: l, M, hl, i, h => by
    rcases marks_of l (by rw [markTo_len]; exact hl) h with h | ⟨g', h1, h2⟩
    · unfold markTo at h
      split at h
      · rename_i hg
        rcases (set_get (by omega)).1 h with rfl | h
        · exact .inr ⟨g, List.mem_cons_self, hg.1, by omega, rfl⟩
        · exact .inl h
      · exact .inl h
    · exact .inr ⟨g', List.mem_cons_of_mem _ h1, h2⟩
theorem marks_in {n : Nat} : ∀ (l : List Int) {M : List Bool}, M.length = n → ∀ {g : Int}, g ∈ l → 0 ≤ g → g.toNat < n → (l.foldl (markTo n) M)[g.toNat]? = some true
  | [], _, _, _, h, _, _ => by simp at h
  | g :: l, M, hl, g', h, h0, hn => by
    rcases List.mem_cons.1 h with rfl | h
    · refine marks_mono l (by rw [markTo_len]; exact hl) ?_
      unfold markTo
      rw [if_pos ⟨h0, by omega⟩]
      exact (set_get (by omega)).2 (.inl rfl)
    · exact marks_in l (by rw [markTo_len]; exact hl) h h0 hn
theorem stepM_len (bs : List DBlock) (M : List Bool) (i : Nat) : (stepM bs M i).length = M.length := by
  unfold stepM
  split
  · split
    · exact marks_len _ _ _
    · rfl
  · rfl
theorem stepM_mono {bs : List DBlock} {M : List Bool} (hl : M.length = bs.length) (i : Nat) {j : Nat} (h : M[j]? = some true) : (stepM bs M i)[j]? = some true := by
  unfold stepM
  split
  · split
    · exact marks_mono _ hl h
    · exact h
  · exact h
theorem stepM_sound {bs : List DBlock} {M : List Bool} (hl : M.length = bs.length) (hs : Sound bs M) (i : Nat) : Sound bs (stepM bs M i) := by
  intro j hj
  unfold stepM at hj
  split at hj
  · rename_i hi
    split at hj
    · rename_i b hb
      rcases marks_of _ hl hj with h | ⟨g, h1, h2, h3, rfl⟩
      · exact hs j h
      · exact .next (hs i hi) hb h1 h2 h3
    · exact hs j hj
  · exact hs j hj
theorem steps_len (bs : List DBlock) : ∀ (l : List Nat) (M : List Bool), (l.foldl (stepM bs) M).length = M.length
  | [], _ => rfl
  | g :: l, M => by simp [steps_len bs l, stepM_len]
theorem steps_mono {bs : List DBlock} : ∀ (l : List Nat) {M : List Bool}, M.length = bs.length → ∀ {j : Nat}, M[j]? = some true → (l.foldl (stepM bs) M)[j]? = some true
  | [], _, _, _, h => h
  | g :: l, M, hl, j, h => steps_mono l (by rw [stepM_len]; exact hl) (stepM_mono hl g h)
theorem steps_sound {bs : List DBlock} : ∀ (l : List Nat) {M : List Bool}, M.length = bs.length → Sound bs M → Sound bs (l.foldl (stepM bs) M)
  | [], _, _, h => h
  | g :: l, M, hl, h => steps_sound l (by rw [stepM_len]; exact hl) (stepM_sound hl h g)
/-- Where a row of steps changes nothing, each step would have. -/
theorem steps_same {bs : List DBlock} : ∀ (l : List Nat) {M : List Bool}, M.length = bs.length → (∀ j : Nat, (l.foldl (stepM bs) M)[j]? = some true → M[j]? = some true) → ∀ i, i ∈ l → ∀ b g, M[i]? = some true → bs[i]? = some b → g ∈ gl b → 0 ≤ g → g.toNat < bs.length → M[g.toNat]? = some true
  | [], _, _, _, _, h, _, _, _, _, _, _, _ => by simp at h
  | k :: l, M, hl, h, i, hi, b, g, hM, hb, hg, h0, hn => by
    by_cases hik : i = k
    · subst hik
      refine h _ (steps_mono l (by rw [stepM_len]; exact hl) ?_)
      unfold stepM
      rw [if_pos hM, hb]
      exact marks_in _ hl hg h0 hn
    · have hi : i ∈ l := by rcases List.mem_cons.1 hi with h | h; exact absurd h hik; exact h
      refine h _ (steps_mono l (by rw [stepM_len]; exact hl) ?_)
      exact steps_same l (by rw [stepM_len]; exact hl) (fun j hj => stepM_mono hl k (h j hj)) i hi b g (stepM_mono hl k hM) hb hg h0 hn
def roundM (bs : List DBlock) (M : List Bool) : List Bool := (List.range bs.length).foldl (stepM bs) M
/-- More are marked, or nothing is. -/
theorem count_lt {M M' : List Bool} (hl : M.length = M'.length) (hm : ∀ j : Nat, M[j]? = some true → M'[j]? = some true) : M.count true ≤ M'.count true ∧ ((∃ j : Nat, M'[j]? = some true ∧ M[j]? ≠ some true) → M.count true < M'.count true) := by
  induction M generalizing M' with
  | nil =>
    cases M' with
    | nil => simp
    | cons _ _ => simp at hl
  | cons a M ih =>
    cases M' with
    | nil => simp at hl
    | cons a' M' =>
      obtain ⟨h1, h2⟩ := ih (M' := M') (by simpa using hl) (fun j hj => by have := hm (j + 1) (by simpa using hj); simpa using this)
      have h0 := hm 0
      simp only [List.getElem?_cons_zero, Option.some.injEq] at h0
      simp only [List.count_cons]
      refine ⟨?_, ?_⟩
      · cases a <;> cases a' <;> simp_all <;> omega
      · rintro ⟨j, hj1, hj2⟩
        cases j with
        | zero =>
          simp at hj1 hj2
          subst hj1
          simp [hj2]
          omega
        | succ j =>
          have := h2 ⟨j, by simpa using hj1, by simpa using hj2⟩
          cases a <;> cases a' <;> simp_all <;> omega
/-- Behind as many rounds as there are blocks no more is marked. -/
theorem rounds_closed {bs : List DBlock} {M : List Bool} (hl : M.length = bs.length) : Closed bs (Nat.repeat (roundM bs) bs.length M) ∧ (Nat.repeat (roundM bs) bs.length M).length = bs.length := by
  have key : ∀ k, (Nat.repeat (roundM bs) k M).length = bs.length ∧ (Closed bs (Nat.repeat (roundM bs) k M) ∨ k ≤ (Nat.repeat (roundM bs) k M).count true) := by
    intro k
    induction k with
    | zero => exact ⟨hl, .inr (Nat.zero_le _)⟩
    | succ k ih =>
      obtain ⟨h1, h2⟩ := ih
      simp only [Nat.repeat]
      generalize Nat.repeat (roundM bs) k M = M1 at h1 h2
      have hl2 : (roundM bs M1).length = bs.length := by unfold roundM; rw [steps_len, h1]
      refine ⟨hl2, ?_⟩
      have hm : ∀ j : Nat, M1[j]? = some true → (roundM bs M1)[j]? = some true := fun j h => steps_mono _ h1 h
      obtain ⟨c1, c2⟩ := count_lt (by rw [h1, hl2]) hm
      by_cases hex : ∃ j : Nat, (roundM bs M1)[j]? = some true ∧ M1[j]? ≠ some true
      · rcases h2 with h2 | h2
        · -- closed already: nothing is marked
          exfalso
          obtain ⟨j, hj1, hj2⟩ := hex
          have stay : ∀ (l : List Nat), (l.foldl (stepM bs) M1) = M1 → True := fun _ _ => trivial
          have : ∀ (l : List Nat) (j : Nat), (l.foldl (stepM bs) M1)[j]? = some true → M1[j]? = some true := by
            intro l
            have gen : ∀ (l : List Nat) (M' : List Bool), M'.length = bs.length → (∀ j : Nat, M'[j]? = some true → M1[j]? = some true) → ∀ j : Nat, (l.foldl (stepM bs) M')[j]? = some true → M1[j]? = some true := by
              intro l
              induction l with
              | nil => intro M' _ h j hj; exact h j hj
              | cons k l ih =>
                intro M' hl' h j hj
                refine ih (stepM bs M' k) (by rw [stepM_len]; exact hl') (fun j hj => ?_) j hj
                unfold stepM at hj
                split at hj
                · rename_i hk
                  split at hj
                  · rename_i b hb
                    rcases marks_of _ hl' hj with h' | ⟨g, g1, g2, g3, rfl⟩
                    · exact h j h'
                    · exact h2 k b g (h k hk) hb g1 g2 g3
                  · exact h j hj
                · exact h j hj
            exact gen l M1 h1 fun j h => h
          exact hj2 (this _ j hj1)
        · exact .inr (by have := c2 hex; omega)
      · refine .inl ?_
        have hsame : ∀ j : Nat, (roundM bs M1)[j]? = some true → M1[j]? = some true := fun j hj => Classical.byContradiction fun h => hex ⟨j, hj, h⟩
        intro i b g hi hb hg h0 hn
        have hi1 := hsame i hi
        have := steps_same (List.range bs.length) h1 hsame i (List.mem_range.2 (List.getElem?_eq_some_iff.1 hb).1) b g hi1 hb hg h0 hn
        exact hm _ this
  obtain ⟨h1, h2⟩ := key bs.length
  refine ⟨?_, h1⟩
  rcases h2 with h2 | h2
  · exact h2
  · -- all are marked
    intro i b g hi hb hg h0 hn
    generalize Nat.repeat (roundM bs) bs.length M = M1 at h1 h2
    have hall : ∀ a ∈ M1, true = a := by
      have : M1.count true = M1.length := Nat.le_antisymm (count_le _) (by omega)
      exact List.count_eq_length.1 this
    have hx : M1[g.toNat]? = some (M1[g.toNat]'(by omega)) := List.getElem?_eq_getElem _
    rw [hx, ← hall _ (List.getElem_mem _)]
end Go.Ab.S2

/- Stores. No condition but that the table of types is the program's. -/
import Derived.Test.YtpoidnkgadhdmaaM9b
namespace Go.Ab
open Go.RowKit
set_option linter.unusedVariables false
section
variable {P : Program} {E : Env} {C : Cal} {w0 : Bs} {w w' : World} {I0 I R : Nat → Prop} {g g' : Gh} {st st' : ASt} {a : Act} {ov : List Value} {look : Look} {Q : Exit → Act → World → Prop} {id : Nat}
variable {dst : Option Tmp} {type : TypeId} {pos : String} {after : Array Edge} {guard : Option (Nat × Bool)}

theorem cells_size {v : Value} {cs : List CA} (h : CR w g look cs v.cells.toList) : v.cells.size = cs.length := by simpa using h.1

theorem freeB_spec {i : Nat} : ∀ {l : List (Nat × Nat)}, freeB i l = true → ∀ r, memP i r l = false
  | [], _, r => rfl
  | (a, b) :: l, h, r => by
    simp only [freeB] at h
    cases hb : a.beq i with
    | true => simp [hb] at h
    | false => simp only [hb, cond_false] at h; simp only [memP, hb, Bool.false_and, cond_false]; exact freeB_spec h r

theorem hasSl_false : ∀ {zs : List Value}, hasSl zs = false → ∀ (m : Nat) (z : Value), zs[m]? = some z → isSlV z = false
  | [], _, m, z, hz => by simp at hz
  | z0 :: zs, h, m, z, hz => by
    simp only [hasSl] at h
    cases h0 : isSlV z0 with
    | true => simp [h0] at h
    | false =>
      simp only [h0, cond_false] at h
      cases m with
      | zero => simp at hz; subst hz; exact h0
      | succ m => simp at hz; exact hasSl_false h m z hz

theorem qs_nil {ds : List Gd} (h : ds.flatMap Gd.qs = []) : ds.flatMap Gd.ts = [] := by
  induction ds with
  | nil => rfl
  | cons d ds ih =>
    cases d with
    | fr y => simp only [List.flatMap_cons, Gd.qs, Gd.ts, List.nil_append] at h ⊢; exact ih h
    | tk i r x y => simp [Gd.qs] at h

theorem op_store (hE : ∀ t d, E.T t = some d → TyOk P t d) (hlk : ∀ i b, look i = some b → st.look i = some b) (hs : SimI w0 I0 NoR g st a ov w) {t : TypeId} {x y : Operand} {e : Eff}
    (hh : (opL E id look (.store t x y) [st.ev x, st.ev y]).hits C e) (ha : e.app st dst = some st') : Good P w0 I0 ov ⟨dst, .store t x y, type, pos, after, guard⟩ st' a w Q := by
  simp only [opL] at hh
  cases hT : E.T t with
  | none => simp [hT, Prg.hits] at hh
  | some d =>
    simp only [hT] at hh
    have ht := hE t d hT
    unfold storeO at hh
    have hx := hs.ev x
    have hy := hs.ev y
    split at hh
    · rename_i i off len n hxi
      rw [hxi] at hx
      cases hk : d.kd.isAgg with
      | true => rw [hk] at hh; exact hh.elim
      | false =>
        rw [hk] at hh
        simp only [cond_false] at hh
        split at hh
        · rename_i cs xs hrow
          obtain ⟨hl, hxl, hfit, hget⟩ := rowOfC_spec hrow
          obtain ⟨ps, hh, hcr, hps⟩ := cellsO_hits hy hh
          clear hps
          split at hh
          · rename_i yv
            cases hh
            have hl2 := hlk i _ hl
            obtain ⟨cs', hl', hn, hv⟩ := hx
            rw [hl2] at hl'
            cases hl'
            simp only [Eff.app, Option.some.injEq] at ha
            subst ha
            obtain ⟨vs, ty, h4, hcr2⟩ := hs.cells i _ hl2
            have hd1 : d.size = 1 := ht.one hk
            have hul : (a.eval y).cells.toList.length = 1 := hcr.1
            obtain ⟨u, hu⟩ : ∃ u, (a.eval y).cells.toList = [u] := List.length_eq_one_iff.1 hul
            obtain ⟨⟨hur, _⟩, hu1⟩ := hcr.2 0 (.t yv) u rfl (by rw [hu]; rfl)
            have hvs : vs.toList.length = cs.length := hcr2.1
            have hfit' : off + len ≤ cs.length := by rcases hfit with h | h <;> omega
            have hone : ∀ v ∈ (a.eval y).cells.toList, v.oneCell' = true := fun v hv => by
              rw [hu] at hv
              simp only [List.mem_singleton] at hv
              subst hv
              exact hu1
            have hst := run_storeCells_at P (g.β i) (off + n) ty (a.eval y).cells.toList 0 vs w h4 (by simp only [Array.length_toList] at hvs; omega) hone
            simp only [Nat.add_zero] at hst
            obtain ⟨W, hW⟩ : ∃ W, W = w.setRow (g.β i) (vs.toList.take (off + n) ++ (a.eval y).cells.toList ++ vs.toList.drop (off + n + (a.eval y).cells.toList.length)).toArray := ⟨_, rfl⟩
            rw [← hW] at hst
            have hfi : Foot g st.look i (g.β i) := .inl ⟨cs, hl2, rfl⟩
            refine wp_skip_ (w' := W) (by simp [execOp, Instr.storeAt, hv, Instr.sureAddr, storeVar, run_size ht, cells_size hcr, hd1, hst]) ⟨g, ?_⟩
            refine SimI.put ?_ dst (v := .one .undef) rfl
            subst hW
            have hsl : (selAll n yv 0 xs).length = len := by rw [selAll_len]; exact hxl
            have hsp : CR w g st.look (setCells cs off (selAll n yv 0 xs)) (spl vs.toList (off + n) (a.eval y).cells.toList) := by
              have hf1 : off + (selAll n yv 0 xs).length ≤ cs.length := by omega
              have hf2 : off + n + (a.eval y).cells.toList.length ≤ vs.toList.length := by omega
              rw [setCells_eq _ _ _ hf1]
              refine ⟨by rw [spl_len hf1, spl_len hf2]; exact hcr2.1, fun j c v hc hv' => ?_⟩
              rw [spl_get hf1] at hc
              rw [spl_get hf2] at hv'
              by_cases hj : off ≤ j ∧ j < off + (selAll n yv 0 xs).length
              · rw [if_pos hj, selAll_get] at hc
                cases hxj : xs[j - off]? with
                | none => rw [hxj] at hc; cases hc
                | some x =>
                  rw [hxj] at hc
                  simp only [Option.map_some, Option.some.injEq, Nat.zero_add] at hc
                  subst hc
                  have hcx := hget _ _ hxj
                  rw [show off + (j - off) = j by omega] at hcx
                  by_cases hjn : j - off = n
                  · rw [if_pos (by rw [hu]; simp; omega), hu, show j - (off + n) = 0 by omega] at hv'
                    simp only [List.getElem?_cons_zero, Option.some.injEq] at hv'
                    subst hv'
                    simp only [selT, hjn, show Nat.beq n n = true by simp, cond_true]
                    exact ⟨⟨hur, hu1⟩, hu1⟩
                  · rw [if_neg (by rw [hu]; simp; omega)] at hv'
                    simp only [selT, show Nat.beq n (j - off) = false from (by cases hbq : Nat.beq n (j - off) with | false => rfl | true => exact absurd (Nat.eq_of_beq_eq_true hbq).symm hjn), cond_false]
                    exact hcr2.2 j _ v hcx hv'
              · rw [if_neg hj] at hc
                rw [if_neg (by rw [hu]; simp; omega)] at hv'
                exact hcr2.2 j c v hc hv'
            exact hs.updCells hl2 (vs' := (vs.toList.take (off + n) ++ (a.eval y).cells.toList ++ vs.toList.drop (off + n + (a.eval y).cells.toList.length)).toArray) (ty := ty) (hs.below.setRow (hs.foot i _ hfi).1 _) (by simp)
              (fun b hb => setRow_other w (g.β i) b _ hb) (setRow_heap w (g.β i) vs _ ty (0, 0) h4) ⟨_, _, h4⟩ (by simpa [spl] using hsp)
          · exact hh.elim
        · exact hh.elim
    · rename_i i off hxi
      rw [hxi] at hx
      obtain ⟨ps, hh, hcr, _⟩ := cellsO_hits hy hh
      split at hh
      · rename_i cs hl
        have hl2 := hlk i _ hl
        obtain ⟨cs', hl', hv⟩ := hx
        rw [hl2] at hl'
        cases hl'
        cases hc : (off + ps.length).ble cs.length && ps.length.beq d.size with
        | false => simp [hc, Prg.hits] at hh
        | true =>
          simp only [hc, cond_true] at hh
          cases hh
          simp only [Bool.and_eq_true] at hc
          have hc1 : off + ps.length ≤ cs.length := by simpa using hc.1
          have hc2 : ps.length = d.size := by simpa using hc.2
          simp only [Eff.app, Option.some.injEq] at ha
          subst ha
          obtain ⟨vs, ty, h4, hcr2⟩ := hs.cells i _ hl2
          have hvl : (a.eval y).cells.toList.length = ps.length := hcr.1
          have hvs : vs.toList.length = cs.length := hcr2.1
          have hone : ∀ u ∈ (a.eval y).cells.toList, u.oneCell' = true := fun u hu => by
            obtain ⟨j, hj, rfl⟩ := List.mem_iff_getElem.1 hu
            exact (hcr.2 j (ps[j]'(by omega)) _ (List.getElem?_eq_getElem (by omega)) (List.getElem?_eq_getElem hj)).2
          have hst := run_storeCells_at P (g.β i) off ty (a.eval y).cells.toList 0 vs w h4 (by simp only [Array.length_toList] at hvs; omega) hone
          simp only [Nat.add_zero] at hst
          obtain ⟨W, hW⟩ : ∃ W, W = w.setRow (g.β i) (vs.toList.take off ++ (a.eval y).cells.toList ++ vs.toList.drop (off + (a.eval y).cells.toList.length)).toArray := ⟨_, rfl⟩
          rw [← hW] at hst
          have hfi : Foot g st.look i (g.β i) := .inl ⟨cs, hl2, rfl⟩
          refine wp_skip_ (w' := W) (by simp [execOp, Instr.storeAt, hv, Instr.sureAddr, storeVar, run_size ht, cells_size hcr, hc2, hst]) ⟨g, ?_⟩
          refine SimI.put ?_ dst (v := .one .undef) rfl
          have hsp := hcr2.spl hcr off
          rw [← setCells_eq ps cs off hc1] at hsp
          subst hW
          exact hs.updCells hl2 (vs' := (vs.toList.take off ++ (a.eval y).cells.toList ++ vs.toList.drop (off + (a.eval y).cells.toList.length)).toArray) (ty := ty) (hs.below.setRow (hs.foot i _ hfi).1 _) (by simp)
            (fun b hb => setRow_other w (g.β i) b _ hb) (setRow_heap w (g.β i) vs _ ty (0, 0) h4) ⟨_, _, h4⟩ (by simpa [spl] using hsp)
      · exact hh.elim
    · rename_i i r p k j hxi
      rw [hxi] at hx
      obtain ⟨ps, hh, hcr, _⟩ := cellsO_hits hy hh
      split at hh
      · rename_i x0 hx0
        obtain ⟨xs, hl, hxr⟩ := rootOf_some hx0
        have hl2 := hlk i _ hl
        obtain ⟨xs', x', ad, l, cap, s, n, hl', hx', hnode, hk, hv⟩ := hx
        rw [hl2] at hl'
        cases hl'
        rw [hxr] at hx'
        cases hx'
        cases hd0 : Nat.blt 0 d.size with
        | false => simp [hd0, Prg.hits] at hh
        | true =>
          have hd0 : 0 < d.size := by simpa using hd0
          simp only [show Nat.blt 0 d.size = true by simpa using hd0, Bool.not_true, cond_false] at hh
          have hzl := ht.zlen
          cases hsl : hasSl d.zero with
          | true =>
            simp only [hsl, cond_true] at hh
            obtain ⟨ds, hh, hdl, hok⟩ := gather_hits hlk hs hcr hh
            cases hc : nodupP (ds.flatMap Gd.ts) && freeB i (ds.flatMap Gd.ts) && (ds.map Gd.y).length.beq d.size with
            | false => simp only [hc, cond_false] at hh; exact hh.elim
            | true =>
              simp only [hc, cond_true] at hh
              simp only [Bool.and_eq_true] at hc
              obtain ⟨⟨hc1, hc2⟩, hc3⟩ := hc
              have hc3 : ds.length = d.size := by simpa using hc3
              obtain ⟨sl, hg, hh⟩ := getO_hits hh
              obtain ⟨el, hel, hfit, x1, hset, hh⟩ := hh
              cases hh
              simp only [Bool.and_eq_true] at hfit
              have hul : (a.eval y).cells.toList.length = ds.length := by rw [hcr.1, hdl]
              obtain ⟨st2, g2, R2, F, q1, q2, q3, q4, q5, q6, q7, q8⟩ := gather_state (dst := dst) ds hs hul hok hc1
              obtain ⟨t1, t2, t3⟩ := q4.tree i xs (freeB_spec hc2) hl2
              obtain ⟨f, f1, f0, f2⟩ := drops_app (dst := dst) i r (wayJs p) d.zero j st2
              obtain ⟨w', g', hst, hsim⟩ := tree_write (P := P) q2 t1 hxr (by rw [t2]; exact hnode) hg hel (zs := d.zero) (by omega) hfit.1 (ys := ds.map Gd.y) (us := (a.eval y).cells.toList) (by simp; omega) (by simpa using hul) hset (F := F)
                (fun m y' u hy' hu => by
                  rw [List.getElem?_map] at hy'
                  cases hdm : ds[m]? with
                  | none => simp [hdm] at hy'
                  | some dd =>
                    simp only [hdm, Option.map_some, Option.some.injEq] at hy'
                    subst hy'
                    rw [q3]
                    exact q6 m dd u hdm hu)
                (fun m b hb => (q7 m b hb).1) q8 f f2
              have happ : primsApp dst (ds.flatMap Gd.qs ++ dropsAt i r (wayJs p) d.zero j ++ [.root i r x1]) st = some ((st2.mapS f).setBox i (some (.tree (setNth xs r x1)))) := by
                rw [List.append_assoc, prims_append, q1, Option.bind_some, prims_append, f1, Option.bind_some]
                have hlm : (st2.mapS f).look i = some (.tree xs) := by rw [look_mapS, t1]; rfl
                simp only [primsApp, Prim.app, setRoot_tree hlm]
              simp only [Eff.app, happ, Option.some.injEq] at ha
              subst ha
              refine wp_skip_ (w' := w') ?_ ⟨g', hsim.put dst (v := .one .undef) rfl⟩
              simp [execOp, Instr.storeAt, hv, Instr.sureAddr, storeVar, run_size ht, cells_size hcr, ← hdl, hc3, hst]
          | false =>
            simp only [hsl, cond_false] at hh
            obtain ⟨ds, hh, hdl, hok⟩ := gather_hits hlk hs hcr hh
            split at hh
            · rename_i hqs
              have hts := qs_nil hqs
              cases hc : (ds.map Gd.y).length.beq d.size with
              | false => simp only [hc, cond_false] at hh; exact hh.elim
              | true =>
                simp only [hc, cond_true] at hh
                have hc3 : ds.length = d.size := by simpa using hc
                obtain ⟨sl, hg, hh⟩ := getO_hits hh
                obtain ⟨el, hel, hfit, x1, hset, hh⟩ := hh
                simp only [setRoot_tree hl] at hh
                cases hh
                have hul : (a.eval y).cells.toList.length = ds.length := by rw [hcr.1, hdl]
                obtain ⟨st2, g2, R2, F, q1, q2, q3, q4, q5, q6, q7, q8⟩ := gather_state (dst := dst) ds hs hul hok (by rw [hts]; rfl)
                rw [hqs] at q1
                simp only [primsApp, Option.some.injEq] at q1
                subst q1
                obtain ⟨t1, t2, t3⟩ := q4.tree i xs (fun r => by rw [hts]; rfl) hl2
                obtain ⟨w', g', hst, hsim⟩ := tree_write (P := P) q2 t1 hxr (by rw [t2]; exact hnode) hg hel (zs := d.zero) (by omega) hfit (ys := ds.map Gd.y) (us := (a.eval y).cells.toList) (by simp; omega) (by simpa using hul) hset (F := F)
                  (fun m y' u hy' hu => by
                    rw [List.getElem?_map] at hy'
                    cases hdm : ds[m]? with
                    | none => simp [hdm] at hy'
                    | some dd =>
                      simp only [hdm, Option.map_some, Option.some.injEq] at hy'
                      subst hy'
                      rw [q3]
                      exact q6 m dd u hdm hu)
                  (fun m b hb => (q7 m b hb).1) q8 _root_.id (fun c => .inl ⟨rfl, by
                    have key : ∀ (q : Way), ∀ m z, d.zero[m]? = some z → isSlV z = true → leads false (wayJs p ++ [j + m]) q = false := fun q m z hz hs' => by
                      rw [hasSl_false hsl m z hz] at hs'; cases hs'
                    cases c <;> first | trivial | exact fun _ _ => key _⟩)
                simp only [Eff.app, Option.some.injEq] at ha
                subst ha
                rw [mapS_id] at hsim
                refine wp_skip_ (w' := w') ?_ ⟨g', hsim.put dst (v := .one .undef) rfl⟩
                simp [execOp, Instr.storeAt, hv, Instr.sureAddr, storeVar, run_size ht, cells_size hcr, ← hdl, hc3, hst]
            · exact hh.elim
      · exact hh.elim
    · exact hh.elim
end
end Go.Ab

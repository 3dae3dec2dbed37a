/- The operations that look into slices, cut them, and make them. No condition but that the table of types is the program's. -/
import Derived.Test.YtpoidnkgadhdmaaM7
namespace Go.Ab
open Go.RowKit
set_option linter.unusedVariables false
section
variable {P : Program} {E : Env} {C : Cal} {w0 : Bs} {w w' : World} {I0 I R : Nat → Prop} {g g' : Gh} {st st' : ASt} {a : Act} {ov : List Value} {look : Look} {Q : Exit → Act → World → Prop} {id : Nat}
variable {dst : Option Tmp} {type : TypeId} {pos : String} {after : Array Edge} {guard : Option (Nat × Bool)}

theorem elemOf_spec {T : Tab} {t e : TypeId} {d : TyD} (h : elemOf T t = some (e, d)) : ∃ dt, T t = some dt ∧ dt.kd = .slice e ∧ T e = some d := by
  unfold elemOf at h
  split at h
  · rename_i s b e' z f hT
    split at h
    · rename_i d' hd
      simp only [Option.some.injEq, Prod.mk.injEq] at h
      obtain ⟨rfl, rfl⟩ := h
      exact ⟨_, hT, rfl, hd⟩
    · cases h
  · cases h

theorem asNat_spec {x : TV} {n : Nat} {v : Value} (h : asNat x = some n) (hx : Rep w I x v) : n ≤ 9223372036854775807 ∧ ∃ k, v = .int k (n : Int) := by
  unfold asNat at h
  split at h
  · rename_i k m
    split at h
    · rename_i hm
      simp only [Option.some.injEq] at h
      subst h
      have := rep_lit hx
      subst this
      exact ⟨by omega, k, by rw [Int.toNat_of_nonneg hm.1]⟩
    · cases h
  · cases h

theorem slLen_spec {x : TV} {n : Nat} {v : Value} {S : Nat → Prop} (h : slLen x = some n) (hr : RepO w I x v S) : (∃ o s xs a cap, x = .sl o s xs ∧ n = xs.length ∧ v = .slice (some a) n cap ∧ n ≤ cap) ∨ (x = .lit nilV ∧ n = 0 ∧ v = nilV) := by
  unfold slLen at h
  split at h
  · rename_i o s xs
    simp only [Option.some.injEq] at h
    subst h
    left
    cases hr with
    | fr hr =>
      cases hr with
      | sl cell hI hc => exact ⟨_, s, xs, _, _, rfl, rfl, rfl, hc⟩
    | sl us vs ty F hS row => exact ⟨_, s, xs, _, _, rfl, rfl, rfl, row.le⟩
  · simp only [Option.some.injEq] at h
    subst h
    exact .inr ⟨rfl, rfl, repO_lit hr⟩
  · cases h

/-- The place that a name of a slice leads to. -/
theorem ref_at (hlk : ∀ i b, look i = some b → st.look i = some b) {i r : Nat} {p : Way} {S : Type} {k : TV → Prg S} {e : S} (h : (resT look (.sref i r p) k).hits C e) : ∃ xs x y, st.look i = some (.tree xs) ∧ xs[r]? = some x ∧ getP p x = some y ∧ (k y).hits C e := by
  simp only [resT] at h
  split at h
  · rename_i x hx
    obtain ⟨xs, h1, h2⟩ := rootOf_some hx
    obtain ⟨y, h3, h4⟩ := getO_hits h
    exact ⟨xs, x, y, hlk _ _ h1, h2, h3, h4⟩
  · exact h.elim

theorem op_indexAddr (hE : ∀ t d, E.T t = some d → TyOk P t d) (hlk : ∀ i b, look i = some b → st.look i = some b) (hs : SimI w0 I0 NoR g st a ov w) {t : TypeId} {x y : Operand} {e : Eff}
    (hh : (opL E id look (.indexAddr t x y) [st.ev x, st.ev y]).hits C e) (ha : e.app st dst = some st') : Good P w0 I0 ov ⟨dst, .indexAddr t x y, type, pos, after, guard⟩ st' a w Q := by
  simp only [opL] at hh
  split at hh
  · rename_i et d hel
    obtain ⟨dt, hT, hk, hTe⟩ := elemOf_spec hel
    have ht := hE _ _ hT
    have hte := hE _ _ hTe
    have hu := kd_slice ht hk
    have run : ∀ (ad : Addr) (len cap : Nat) (k : IntKind) (n : Nat), a.eval x = .slice (some ad) len cap → a.eval y = .int k (n : Int) → n < len →
        (execOp a.eval ⟨dst, .indexAddr t x y, type, pos, after, guard⟩).run P w = .ok (.value (.pointer (some (ad.add (n * d.size))))) w := fun ad len cap k n hx hy hn => by
      have h1 : (0 : Int) ≤ n ∧ (n : Int) < len := ⟨by omega, by omega⟩
      simp [execOp, Instr.indexAt, hx, hy, asIntOf, run_und hu, h1, run_size hte]
      omega
    unfold indexO at hh
    have hx := hs.ev x
    have hy := hs.ev y
    split at hh
    · rename_i ti hti
      have hyr := tv_rep hy hti
      split at hh
      · rename_i tx htx
        have hxr := tv_rep hx htx
        obtain ⟨el, hp, hh⟩ := hh
        cases hh
        unfold pidx at hp
        split at hp
        · rename_i o s xs k n
          split at hp
          · rename_i hc
            obtain ⟨rfl, hn0⟩ := hc
            have hyv := rep_lit hyr
            generalize hxv : a.eval x = u at hxr
            cases hxr with
            | @sl _ _ ad cap cell hI hcap hm hl hcell h1 hr =>
              have hlt := (List.getElem?_eq_some_iff.1 hp).1
              refine fin_val hs (v := .one (.ref el 0)) (run ad _ cap k n.toNat hxv (by rw [hyv, Int.toNat_of_nonneg hn0]) hlt) ?_ ha
              refine ⟨ad.add (n.toNat * d.size), fun j => cell (n.toNat * d.size + j), by simp [Addr.add], by rw [add_block]; exact hI (by omega), fun j c hj => ?_⟩
              have hel' : el.length = d.size := hl el (List.mem_of_getElem? hp)
              have hj' : j < d.size := by have := (List.getElem?_eq_some_iff.1 hj).1; omega
              have hlt2 : n.toNat * d.size + j < xs.length * d.size := by
                have : (n.toNat + 1) * d.size ≤ xs.length * d.size := Nat.mul_le_mul_right _ hlt
                rw [Nat.add_mul] at this
                omega
              rw [add_add]
              exact ⟨hcell _ hlt2, h1 _ hlt2, hr n.toNat el hp j c hj⟩
          · cases hp
        · cases hp
      · split at hh
        · rename_i b r p hxi
          rw [hxi] at hx
          obtain ⟨xs, x0, s0, hl, hx0, hg0, hh⟩ := ref_at hlk hh
          obtain ⟨n, hn, k, hk', hc, hh⟩ := hh
          cases hh
          simp only [Bool.and_eq_true] at hc
          have hc2 : k < n := by simpa using hc.2
          obtain ⟨_, kd, hyv⟩ := asNat_spec hk' hyr
          obtain ⟨xs', x', nd, hl', hx', hnode, hsl⟩ := hx
          rw [hl] at hl'
          cases hl'
          rw [hx0] at hx'
          cases hx'
          obtain ⟨hnd, S', hrep, _⟩ := hs.at hl hx0 hnode hg0
          rcases slLen_spec hn hrep with ⟨o, s, ys, ad, cap, rfl, rfl, hv, hle⟩ | ⟨_, h0, _⟩
          · have hsz : s = d.size := by simpa [slSize] using hc.1
            subst hsz
            rw [hnd] at hnode
            refine fin_val hs (v := .one (.tptr b r p k 0)) (run ad _ cap kd k hv hyv hc2) ⟨xs, x0, ad, _, cap, d.size, ys.length, hl, hx0, by rw [hv] at hnode; exact hnode, hc2, by simp⟩ ha
          · omega
        · rename_i b r p lo n hxi
          rw [hxi] at hx
          obtain ⟨xs, x0, s0, hl, hx0, hg0, hh⟩ := ref_at hlk hh
          obtain ⟨k, hk', hc, hh⟩ := hh
          cases hh
          simp only [Bool.and_eq_true] at hc
          have hc2 : k < n := by simpa using hc.2
          obtain ⟨_, kd, hyv⟩ := asNat_spec hk' hyr
          obtain ⟨xs', x', u, nd, hl', hx', hnode, hsl, hwin⟩ := hx
          rw [hl] at hl'
          cases hl'
          rw [hx0] at hx'
          cases hx'
          obtain ⟨hnd, S', hrep, _⟩ := hs.at hl hx0 hnode hg0
          subst hnd
          cases hq : s0.nd with
          | none =>
            rw [hq] at hwin
            have := hwin.2.1
            omega
          | some sn =>
            obtain ⟨s, m⟩ := sn
            rw [hq] at hwin hnode
            obtain ⟨o, ys, rfl, rfl⟩ := nd_some hq
            obtain ⟨hle, hv⟩ := hwin
            have hsz : s = d.size := by simpa [slSize] using hc.1
            subst hsz
            rcases slLen_spec (n := ys.length) rfl hrep with ⟨o', s', ys', ad, cap, e1, e2, hu', hcap⟩ | ⟨h0, _⟩
            · subst hu'
              simp only [cut] at hv
              have hne : cap ≠ lo := by omega
              rw [if_neg hne] at hv
              refine fin_val hs (v := .one (.tptr b r p (lo + k) 0)) (run _ _ _ kd k hv hyv hc2) ⟨xs, x0, ad, _, cap, d.size, ys.length, hl, hx0, hnode, by omega, ?_⟩ ha
              rw [add_add, Nat.add_mul, Nat.add_zero]
            · cases h0
        · exact hh.elim
    · exact hh.elim
  · unfold arrIdxO at hh
    split at hh
    · rename_i len e z fl hT
      split at hh
      · rename_i d b off ti hTe hxi hti
        cases hc : (!d.kd.isAgg && d.size.beq 1) with
        | false => rw [hc] at hh; exact hh.elim
        | true =>
          rw [hc] at hh
          simp only [cond_true] at hh
          simp only [Bool.and_eq_true] at hc
          obtain ⟨k, hk, hlt, hh⟩ := hh
          cases hh
          have ht := hE _ _ hT
          have hte := hE _ _ hTe
          have hu := kd_arr ht rfl
          have hx := hs.ev x
          rw [hxi] at hx
          obtain ⟨cs, hl, hv⟩ := hx
          have hyr := tv_rep (hs.ev y) hti
          obtain ⟨_, kd, hyv⟩ := asNat_spec hk hyr
          have hlt : k < len := by simpa using hlt
          have hsz : d.size = 1 := by simpa using hc.2
          have h1 : (0 : Int) ≤ k ∧ (k : Int) < len := ⟨by omega, by omega⟩
          refine fin_val hs (v := .one (.aptr b off len k)) (u := .pointer (some ⟨g.β b, off + k, none⟩)) ?_ ⟨cs, hl, hlt, rfl⟩ ha
          simp [execOp, Instr.indexAt, hv, hyv, asIntOf, run_und hu, h1, run_size hte, hsz, Instr.sureAddr, add_lit]
          omega
      · exact hh.elim
    · exact hh.elim

theorem op_index (hE : ∀ t d, E.T t = some d → TyOk P t d) (hs : SimI w0 I0 NoR g st a ov w) {t : TypeId} {x y : Operand} {e : Eff}
    (hh : (opL E id look (.index t x y) [st.ev x, st.ev y]).hits C e) (ha : e.app st dst = some st') : Good P w0 I0 ov ⟨dst, .index t x y, type, pos, after, guard⟩ st' a w Q := by
  simp only [opL] at hh
  split at hh
  · rename_i s b z f tx ti hT hx hi
    have ht := hE _ _ hT
    have hxr := tv_rep (hs.ev x) hx
    have hyr := tv_rep (hs.ev y) hi
    obtain ⟨v, hv, hh⟩ := hh
    unfold pstr at hv
    split at hv
    · rename_i s k n
      split at hv
      · rename_i hn
        have hxv := rep_lit hxr
        have hyv := rep_lit hyr
        cases hb : s[n.toNat]? with
        | none => simp [hb] at hv
        | some b =>
          simp only [hb, Option.map_some, Option.some.injEq] at hv
          subst hv
          exact fin_vt hs (u := .int .u8 b.toNat) (by simp [execOp, Instr.index, hxv, hyv, asIntOf, run_und (kd_str ht rfl), hn, hb]) (.lit _) rfl hh ha
      · cases hv
    · cases hv
  · exact hh.elim

/-! ### cutting -/
theorem optNat_hits {S : Type} {v : Option AV} {k : Option Nat → Prg S} {e : S} {ov : Option Value} (hv : match v, ov with | none, none => True | some x, some u => RepA w g look x u | _, _ => False) (h : (optNat v k).hits C e) :
    ∃ n, (k n).hits C e ∧ ((n = none ∧ ov = none) ∨ ∃ m kd, n = some m ∧ m ≤ 9223372036854775807 ∧ ov = some (.int kd (m : Int))) := by
  unfold optNat at h
  split at h
  · cases ov with
    | none => exact ⟨none, h, .inl ⟨rfl, rfl⟩⟩
    | some u => exact hv.elim
  · rename_i x
    split at h
    · rename_i tx htx
      obtain ⟨m, hm, h⟩ := h
      cases ov with
      | none => exact hv.elim
      | some u =>
        obtain ⟨hle, kd, hu⟩ := asNat_spec hm (tv_rep hv htx)
        exact ⟨some m, h, .inr ⟨m, kd, rfl, hle, by rw [hu]⟩⟩
    · exact h.elim

theorem run_bounds (isS : Bool) {len cap : Nat} {lo hi : Option Value} {l h : Option Nat} (hlo : (l = none ∧ lo = none) ∨ ∃ m kd, l = some m ∧ m ≤ 9223372036854775807 ∧ lo = some (.int kd (m : Int)))
    (hhi : (h = none ∧ hi = none) ∨ ∃ m kd, h = some m ∧ m ≤ 9223372036854775807 ∧ hi = some (.int kd (m : Int))) (h1 : l.getD 0 ≤ h.getD len) (h2 : h.getD len ≤ cap) :
    (Instr.sliceBounds isS len cap lo hi none).run P w = .ok (l.getD 0, h.getD len, cap) w := by
  rcases hlo with ⟨rfl, rfl⟩ | ⟨ml, kl, rfl, hml, rfl⟩ <;> rcases hhi with ⟨rfl, rfl⟩ | ⟨mh, kh, rfl, hmh, rfl⟩
  · simp [Instr.sliceBounds]
  · simp only [Option.getD_some] at h1 h2
    simp [Instr.sliceBounds, Instr.sliceBound, asIntOf, h2]
  · simp only [Option.getD_some, Option.getD_none] at h1 h2
    simp [Instr.sliceBounds, Instr.sliceBound, asIntOf, h1]
  · simp only [Option.getD_some] at h1 h2
    simp [Instr.sliceBounds, Instr.sliceBound, asIntOf, h1, h2]

theorem sliceO_sound (hE : ∀ t d, E.T t = some d → TyOk P t d) (hlk : ∀ i b, look i = some b → st.look i = some b) (hs : SimI w0 I0 NoR g st a ov w) {t : TypeId} {d : TyD} (ht : TyOk P t d) {sz : Nat} (hTe : sliceSz E.T d.kd = some sz)
    {x : Operand} {lo hi : Option Operand} {e : Eff}
    (hh : (sliceO look d.kd sz (st.ev x) (lo.map st.ev) (hi.map st.ev)).hits C e) (ha : e.app st dst = some st') : Good P w0 I0 ov ⟨dst, .slice t x lo hi none, type, pos, after, guard⟩ st' a w Q := by
  have hrep : ∀ o : Option Operand, (match o.map st.ev, o.map a.eval with | none, none => True | some x, some u => RepA w g st.look x u | _, _ => False) := fun o => by
    cases o with
    | none => trivial
    | some x => exact hs.ev x
  have hx := hs.ev x
  have hel : ∀ e1, d.kd = .slice e1 → ∃ ed, TyOk P e1 ed ∧ ed.size = sz := fun e1 hk => by
    rw [hk] at hTe
    simp only [sliceSz] at hTe
    cases hd : E.T e1 with
    | none => simp [hd] at hTe
    | some ed => simp only [hd, Option.some.injEq] at hTe; exact ⟨ed, hE _ _ hd, hTe⟩
  -- a slice of so many is cut
  have cutS : ∀ (e1 : TypeId) (hk : d.kd = .slice e1) (ad : Addr) (n cap : Nat) (l h : Option Nat), a.eval x = .slice (some ad) n cap → n ≤ cap → ((l = none ∧ lo.map a.eval = none) ∨ ∃ m kd, l = some m ∧ m ≤ 9223372036854775807 ∧ lo.map a.eval = some (.int kd (m : Int))) →
      ((h = none ∧ hi.map a.eval = none) ∨ ∃ m kd, h = some m ∧ m ≤ 9223372036854775807 ∧ hi.map a.eval = some (.int kd (m : Int))) → l.getD 0 ≤ h.getD n → h.getD n ≤ n →
      (execOp a.eval ⟨dst, .slice t x lo hi none, type, pos, after, guard⟩).run P w = .ok (.value (cut sz (l.getD 0) (h.getD n - l.getD 0) (.slice (some ad) n cap))) w := by
    intro e1 hk ad n cap l h hv hnc hl hh h1 h2
    obtain ⟨ed, hte, hes⟩ := hel e1 hk
    have hu := kd_slice ht hk
    have hb := run_bounds (P := P) (w := w) true (len := n) (cap := cap) hl hh h1 (by omega)
    have hrun : (execOp a.eval ⟨dst, .slice t x lo hi none, type, pos, after, guard⟩).run P w = .ok (.value (.slice (if cap = l.getD 0 then some ad else (some ad).map (·.add (l.getD 0 * sz))) (h.getD n - l.getD 0) (cap - l.getD 0))) w := by
      simp [execOp, Instr.sliceAt, Instr.slice, run_und hu, hv, hb, run_size hte, hes]
    rw [hrun]
    simp only [cut]
    split <;> rfl
  have cutN : ∀ (e1 : TypeId) (hk : d.kd = .slice e1) (l h : Option Nat), a.eval x = nilV → ((l = none ∧ lo.map a.eval = none) ∨ ∃ m kd, l = some m ∧ m ≤ 9223372036854775807 ∧ lo.map a.eval = some (.int kd (m : Int))) →
      ((h = none ∧ hi.map a.eval = none) ∨ ∃ m kd, h = some m ∧ m ≤ 9223372036854775807 ∧ hi.map a.eval = some (.int kd (m : Int))) → l.getD 0 = 0 → h.getD 0 = 0 →
      (execOp a.eval ⟨dst, .slice t x lo hi none, type, pos, after, guard⟩).run P w = .ok (.value nilV) w := by
    intro e1 hk l h hv hl hh h1 h2
    obtain ⟨ed, hte, hes⟩ := hel e1 hk
    have hu := kd_slice ht hk
    have hb := run_bounds (P := P) (w := w) true (len := 0) (cap := 0) hl hh (by omega) (by omega)
    rw [h1, h2] at hb
    simp [execOp, Instr.sliceAt, Instr.slice, run_und hu, hv, hb, run_size hte, nilV]
  unfold sliceO at hh
  split at hh
  · rename_i tx htx
    have hxr := tv_rep hx htx
    replace hh := optNat_hits (hrep lo) hh
    obtain ⟨l, hh, hl⟩ := hh
    replace hh := optNat_hits (hrep hi) hh
    obtain ⟨h, hh, hhi⟩ := hh
    obtain ⟨v, hv, hh⟩ := hh
    unfold pslice at hv
    split at hv
    · rename_i e1 o s xs hk
      split at hv
      · rename_i hc
        simp only [Option.some.injEq] at hv
        subst hv
        obtain ⟨rfl, hc⟩ := hc
        obtain ⟨ad, cap, hxv⟩ := repO_sl (S := NoR) (.fr hxr)
        have hcap : xs.length ≤ cap := by
          rw [hxv] at hxr
          cases hxr with
          | sl cell hI hc => exact hc
        have hw := (RepO.fr (S := NoR) hxr).win (lo := l.getD 0) (len := h.getD xs.length - l.getD 0) (y := .sl o s ((xs.drop (l.getD 0)).take (h.getD xs.length - l.getD 0))) (by simp only [winP]; rw [if_pos (by omega)])
        rw [hxv] at hw
        exact fin_vt hs (cutS e1 hk ad _ cap l h hxv hcap hl hhi hc.1 hc.2) (hw.empty (fun _ h => h)) rfl hh ha
      · cases hv
    · rename_i e1 hk
      split at hv
      · rename_i hc
        simp only [Option.some.injEq] at hv
        subst hv
        exact fin_vt hs (cutN e1 hk l h (rep_lit hxr) hl hhi hc.1 hc.2) (.lit _) rfl hh ha
      · cases hv
    · rename_i str hk
      split at hv
      · rename_i hc
        simp only [Option.some.injEq] at hv
        subst hv
        have hu := kd_str ht hk
        have hxv := rep_lit hxr
        have hb := run_bounds (P := P) (w := w) false (len := str.size) (cap := str.size) hl hhi hc.1 hc.2
        exact fin_vt hs (u := .string (str.extract (l.getD 0) (h.getD str.size))) (by simp [execOp, Instr.sliceAt, Instr.slice, run_und hu, hxv, hb]) (.lit _) rfl hh ha
      · cases hv
    · cases hv
  · split at hh
    · rename_i e1 i r p hk hxi
      rw [hxi] at hx
      obtain ⟨xs, x0, s0, hl0, hx0, hg0, hh⟩ := ref_at hlk hh
      obtain ⟨n, hn, hh⟩ := hh
      obtain ⟨l, hh, hl⟩ := optNat_hits (hrep lo) hh
      obtain ⟨h, hh, hhi⟩ := optNat_hits (hrep hi) hh
      obtain ⟨hc, hh⟩ := hh
      cases hh
      simp only [Bool.and_eq_true] at hc
      obtain ⟨⟨hc0, hc1⟩, hc2⟩ := hc
      have hc1 : l.getD 0 ≤ h.getD n := by simpa using hc1
      have hc2 : h.getD n ≤ n := by simpa using hc2
      obtain ⟨xs', x', nd, hl', hx', hnode, hsl⟩ := hx
      rw [hl0] at hl'
      cases hl'
      rw [hx0] at hx'
      cases hx'
      obtain ⟨hnd, S', hr, _⟩ := hs.at hl0 hx0 hnode hg0
      rcases slLen_spec hn hr with ⟨o, s, ys, ad, cap, rfl, rfl, hv, hle⟩ | ⟨rfl, rfl, hv⟩
      · have hsz : s = sz := by simpa [slSize] using hc0
        subst hsz
        refine fin_val hs (v := .one (.swin i r p (l.getD 0) (h.getD ys.length - l.getD 0))) (cutS e1 hk ad _ cap l h hv hle hl hhi hc1 hc2) ⟨xs, x0, a.eval x, nd, hl0, hx0, hnode, hsl, ?_⟩ ha
        rw [hnd]
        exact ⟨by omega, by rw [hv]⟩
      · have e1' : l.getD 0 = 0 := by omega
        have e2' : h.getD 0 = 0 := by omega
        refine fin_val hs (v := .one (.swin i r p (l.getD 0) (h.getD 0 - l.getD 0))) (cutN e1 hk l h hv hl hhi e1' e2') ⟨xs, x0, a.eval x, nd, hl0, hx0, hnode, hsl, ?_⟩ ha
        rw [hnd]
        exact ⟨e1', by omega, hv, rfl⟩
    · rename_i e1 i r p lo0 n hk hxi
      rw [hxi] at hx
      split at hh
      · rename_i hlo
        have hl : ((none : Option Nat) = none ∧ lo.map a.eval = none) ∨ ∃ m kd, (none : Option Nat) = some m ∧ m ≤ 9223372036854775807 ∧ lo.map a.eval = some (.int kd (m : Int)) := by
          cases lo with
          | none => exact .inl ⟨rfl, rfl⟩
          | some o => simp at hlo
        obtain ⟨xs, x0, s0, hl0, hx0, hg0, hh⟩ := ref_at hlk hh
        obtain ⟨h, hh, hhi⟩ := optNat_hits (hrep hi) hh
        obtain ⟨hc, hh⟩ := hh
        cases hh
        simp only [Bool.and_eq_true] at hc
        obtain ⟨hc0, hc2⟩ := hc
        have hc2 : h.getD n ≤ n := by simpa using hc2
        obtain ⟨xs', x', u, nd, hl', hx', hnode, hsl, hwin⟩ := hx
        rw [hl0] at hl'
        cases hl'
        rw [hx0] at hx'
        cases hx'
        obtain ⟨hnd, S', hr, _⟩ := hs.at hl0 hx0 hnode hg0
        subst hnd
        cases hq : s0.nd with
        | none =>
          rw [hq] at hwin hnode
          obtain ⟨w1, w2, w3, w4⟩ := hwin
          have e2' : h.getD 0 = 0 := by cases h <;> simp at hc2 ⊢; omega
          have hN := cutN e1 hk none h w4 hl hhi rfl e2'
          refine fin_val hs (v := .one (.swin i r p lo0 (h.getD n))) hN ⟨xs, x0, u, none, hl0, hx0, hnode, hsl, ?_⟩ ha
          exact ⟨w1, by omega, w3, rfl⟩
        | some sn =>
          obtain ⟨s, m⟩ := sn
          rw [hq] at hwin hnode
          obtain ⟨o, ys, rfl, rfl⟩ := nd_some hq
          obtain ⟨hle, hv⟩ := hwin
          have hsz : s = sz := by simpa [slSize] using hc0
          subst hsz
          rcases slLen_spec (n := ys.length) rfl hr with ⟨o', s', ys', ad, cap, e1', e2', hu', hcap⟩ | ⟨h0, _⟩
          · subst hu'
            have hv2 : ∃ ad', a.eval x = .slice (some ad') n (cap - lo0) ∧ ad' = (if cap = lo0 then ad else ad.add (lo0 * s)) := by
              rw [hv]
              simp only [cut]
              split <;> exact ⟨_, rfl, rfl⟩
            obtain ⟨ad', hv2, had⟩ := hv2
            have hlen : n ≤ cap - lo0 := by omega
            have hrun := cutS e1 hk ad' n (cap - lo0) none h hv2 hlen hl hhi (Nat.zero_le _) hc2
            refine fin_val hs (v := .one (.swin i r p lo0 (h.getD n))) hrun ⟨xs, x0, _, _, hl0, hx0, hnode, hsl, ?_⟩ ha
            refine ⟨by omega, ?_⟩
            simp only [cut, Option.getD_none, Nat.zero_mul, Nat.sub_zero, had]
            by_cases hcl : cap = lo0
            · simp [hcl]
            · have : cap - lo0 ≠ 0 := by omega
              simp [hcl, this, Addr.add]
          · cases h0
      · exact hh.elim
    · exact hh.elim

theorem op_slice (hE : ∀ t d, E.T t = some d → TyOk P t d) (hlk : ∀ i b, look i = some b → st.look i = some b) (hs : SimI w0 I0 NoR g st a ov w) {t : TypeId} {x : Operand} {lo hi mx : Option Operand} {e : Eff}
    (hh : (opL E id look (.slice t x lo hi mx) ((Op.slice t x lo hi mx).operands.toList.map st.ev)).hits C e) (ha : e.app st dst = some st') : Good P w0 I0 ov ⟨dst, .slice t x lo hi mx, type, pos, after, guard⟩ st' a w Q := by
  cases mx with
  | some m => cases lo <;> cases hi <;> simp [opL, Prg.hits] at hh
  | none =>
    cases hT : E.T t with
    | none => cases lo <;> cases hi <;> simp [opL, Op.operands, hT, Prg.hits] at hh
    | some d =>
      cases hz : sliceSz E.T d.kd with
      | none => cases lo <;> cases hi <;> simp [opL, Op.operands, hT, hz, Prg.hits] at hh
      | some sz =>
        refine sliceO_sound hE hlk hs (hE _ _ hT) hz (e := e) (C := C) ?_ ha
        cases lo <;> cases hi <;> simpa [opL, Op.operands, hT, hz] using hh

/-! ### how many -/
theorem run_builtin {b : Builtin} {args : Array Operand} {tys : Array TypeId} {s : Sem Value} {v : Value} (hb : ∀ cs, builtin b tys type cs (args.map a.eval) = (do pure (.value (← s)))) (hr : s.run P w = .ok v w') :
    (execOp a.eval ⟨dst, .call ⟨.builtin b, args, tys⟩, type, pos, after, guard⟩).run P w = .ok (.value v) w' := by
  simp [execOp, resolve, invoke, hb, hr]

theorem list1 {α β : Type} {f : α → β} {xs : Array α} {y : β} (h : xs.toList.map f = [y]) : ∃ x, xs = #[x] ∧ f x = y := by
  obtain ⟨l⟩ := xs
  match l, h with
  | [x], h => exact ⟨x, rfl, by simpa using h⟩
theorem list2 {α β : Type} {f : α → β} {xs : Array α} {y z : β} (h : xs.toList.map f = [y, z]) : ∃ x x', xs = #[x, x'] ∧ f x = y ∧ f x' = z := by
  obtain ⟨l⟩ := xs
  match l, h with
  | [x, x'], h => exact ⟨x, x', rfl, by simpa using h⟩
theorem arr1 {xs : Array TypeId} {y : TypeId} (h : xs.toList = [y]) : xs = #[y] := by obtain ⟨l⟩ := xs; simp at h; rw [h]
theorem arr2 {xs : Array TypeId} {y z : TypeId} (h : xs.toList = [y, z]) : xs = #[y, z] := by obtain ⟨l⟩ := xs; simp at h; rw [h]

theorem lenO_sound (hlk : ∀ i b, look i = some b → st.look i = some b) (hs : SimI w0 I0 NoR g st a ov w) {t : TypeId} {d : TyD} (ht : TyOk P t d) {x : Operand} {e : Eff} (hh : (lenO look d.kd (st.ev x)).hits C e) (ha : e.app st dst = some st') :
    Good P w0 I0 ov ⟨dst, .call ⟨.builtin .len, #[x], #[t]⟩, type, pos, after, guard⟩ st' a w Q := by
  have hx := hs.ev x
  have run : ∀ {v : Value}, (Builtin.len_ #[t] type #[a.eval x]).run P w = .ok v w → (execOp a.eval ⟨dst, .call ⟨.builtin .len, #[x], #[t]⟩, type, pos, after, guard⟩).run P w = .ok (.value v) w := fun h =>
    run_builtin (fun cs => by simp [builtin]) h
  unfold lenO at hh
  split at hh
  · rename_i n e1 hk
    exact fin_vt hs (run (by simp [Builtin.len_, run_und (kd_arr ht hk)]; rfl)) (.lit _) rfl hh ha
  · obtain ⟨s, T, hh, hr⟩ := resA_hits hlk hs hx hh
    obtain ⟨v, hv, hh⟩ := hh
    unfold plen at hv
    split at hv
    · rename_i e1 c hk
      simp only [Option.some.injEq] at hv
      subst hv
      have hxv := repO_lit hr
      exact fin_vt hs (run (by simp [Builtin.len_, run_und (kd_slice ht hk), hxv]; rfl)) (.lit _) rfl hh ha
    · rename_i s hk
      simp only [Option.some.injEq] at hv
      subst hv
      have hxv := repO_lit hr
      exact fin_vt hs (run (by simp [Builtin.len_, run_und (kd_str ht hk), hxv]; rfl)) (.lit _) rfl hh ha
    · rename_i e1 o s xs hk
      simp only [Option.some.injEq] at hv
      subst hv
      obtain ⟨ad, cap, hxv⟩ := repO_sl hr
      exact fin_vt hs (run (by simp [Builtin.len_, run_und (kd_slice ht hk), hxv]; rfl)) (.lit _) rfl hh ha
    · cases hv

/-! ### making -/
/-- A tree of one root is made. -/
theorem new_tree (hs : SimI w0 I0 R g st a ov w) {x : TV} {v : Value} {o : Oper} (ho : o.dst = dst) {w' : World} {S : Nat → Prop} (hrun : (execOp a.eval o).run P w = .ok (.value v) w') (hw : w0.Bel w') (hsz : w.heap.size ≤ w'.heap.size) (hb : ∀ k, k < w.heap.size → ¬ R k → w'.heap[k]? = w.heap[k]?) (hr : RepO w' g.I x v S)
    (hS : ∀ b, S b → R b ∨ (w.heap.size ≤ b ∧ b < w'.heap.size)) (hsl : IsSl v) {d : Tmp} (hd : dst = some d) (hn : st.look (st.nid dst) = none) (hlt : st.nid dst < st.boxes.length) (hst : st' = (st.setBox (st.nid dst) (some (.tree [x]))).put (some d) (.one (.sref (st.nid dst) 0 []))) :
    Good P w0 I0 ov o st' a w Q := by
  subst hst
  obtain ⟨r1, r2⟩ := hs.newTree (xs := [x]) hlt hn hw hsz hb (fun _ => v) (fun _ => S) (fun r y hy => by
    cases r with
    | zero => simp at hy; subst hy; exact hr
    | succ r => simp at hy) (fun r b _ hb => hS b hb) (fun r r' b h1 h2 _ _ => by simp at h1 h2; omega)
  refine wp_value hrun ⟨g.setT (st.nid dst) (fun _ => v) (fun _ => S), ?_⟩
  rw [ho]
  subst hd
  refine r1.put (some d) (v := .one (.sref (st.nid (some d)) 0 [])) ⟨[x], x, x.nd, ?_, rfl, ⟨by simp [Gh.setT], rfl⟩, hsl⟩
  rw [look_setBox, if_pos ⟨rfl, hlt⟩]

theorem getD_madeCells (z : Array Value) (n k : Nat) (hk : k < n) : (madeCells z n).toList.getD k undef = z[k % z.size]! := by simp [madeCells, hk]

theorem op_makeSlice (hE : ∀ t d, E.T t = some d → TyOk P t d) (hs : SimI w0 I0 NoR g st a ov w) {t : TypeId} {x y : Operand} {e : Eff}
    (hh : (opL E (st.nid dst) look (.makeSlice t x y) [st.ev x, st.ev y]).hits C e) (ha : e.app st dst = some st') : Good P w0 I0 ov ⟨dst, .makeSlice t x y, type, pos, after, guard⟩ st' a w Q := by
  simp only [opL] at hh
  split at hh
  · rename_i et d tl tc hel hx hy
    obtain ⟨dt, hT, hk, hTe⟩ := elemOf_spec hel
    have ht := hE _ _ hT
    have hte := hE _ _ hTe
    have hu := kd_slice ht hk
    cases hb4 : d.bytes.ble 4096 with
    | false => rw [hb4] at hh; exact hh.elim
    | true =>
      rw [hb4] at hh
      replace hh : (Prg.nat (asNat tl) fun n => .nat (asNat tc) fun m => .chk (n.ble m && m.ble room) (.ret (Eff.new (.tree [.sl true d.size (List.replicate n (d.zero.map .lit))]) (.one (.sref (st.nid dst) 0 []))))).hits C e := hh
      obtain ⟨n, hn, m, hm, hc, hh⟩ := hh
      cases hh
      obtain ⟨_, kl, hxv⟩ := asNat_spec hn (tv_rep (hs.ev x) hx)
      obtain ⟨_, kc, hyv⟩ := asNat_spec hm (tv_rep (hs.ev y) hy)
      simp only [Bool.and_eq_true] at hc
      obtain ⟨hc1, hc2⟩ := hc
      have hc1 : n ≤ m := by simpa using hc1
      have hc2 : m ≤ 4294967296 := by simpa [room] using hc2
      have hc3 : d.bytes ≤ 4096 := by simpa using hb4
      obtain ⟨i, z, hi, hsz, hby, hz, hzc⟩ := hte.info
      obtain ⟨dd, h0, hl, hlt, hst⟩ := app_new ha
      have hbytes : (i.bytes : Int) * (m : Int) ≤ 281474976710656 := by
        rw [hby]
        have : d.bytes * m ≤ 4096 * 4294967296 := Nat.mul_le_mul hc3 hc2
        have h2 : ((d.bytes * m : Nat) : Int) ≤ 281474976710656 := by omega
        rwa [Int.natCast_mul] at h2
      have hrun := run_make (P := P) w t et i z hu hi hz kl kc (n : Int) (m : Int) (by omega) (by omega) hbytes (by omega)
      simp only [Int.toNat_natCast] at hrun
      have hzl : z.cells.size = d.size := by have := hte.zlen; rw [← hzc] at this; simpa using this
      have hmm : n * d.size ≤ m * d.size := Nat.mul_le_mul_right _ hc1
      have hlen : (List.replicate n (d.zero.map TV.lit)).length = n := by simp
      have hall : ∀ x ∈ List.replicate n (d.zero.map TV.lit), x.length = d.size := fun x hx => by rw [List.eq_of_mem_replicate hx]; simp [hte.zlen]
      -- what stands at each place
      have hat : ∀ k, k < n * d.size → (madeCells z.cells (m * i.size))[k]? = some (d.zero.getD (k % d.size) undef) := fun k hk' => by
        have h0 : 0 < d.size := by
          rcases Nat.eq_zero_or_pos d.size with h | h
          · rw [h] at hk'; omega
          · exact h
        have hkm : k < m * i.size := by rw [hsz]; omega
        have hr := Nat.mod_lt k h0
        simp only [madeCells, Array.getElem?_map]
        rw [Array.getElem?_eq_getElem (by simpa using hkm)]
        simp only [Array.getElem_range, Option.map_some, Option.some.injEq, hzl]
        rw [getElem!_pos z.cells _ (by omega), ← hzc, List.getD_eq_getElem?_getD, Array.getElem?_toList, Array.getElem?_eq_getElem (by omega)]
        rfl
      refine new_tree hs (x := .sl true d.size (List.replicate n (d.zero.map TV.lit))) (v := .slice (some ⟨w.heap.size, 0, none⟩) n m) rfl (w' := w.alloc (.cells (madeCells z.cells (m * i.size)) et)) (S := fun b => b = w.heap.size)
        (by simp [execOp, hxv, hyv, hrun]) (hs.below.step (below_new w _)) (below_new w _).size (fun k hk _ => (below_new w _).block k hk) ?_ (fun b hb => .inr (by subst hb; simp)) ⟨_, _, _, rfl⟩ h0 hl hlt hst
      have hflk : ∀ (k : Nat) (c : TV), (List.replicate n (d.zero.map TV.lit)).flatten[k]? = some c → k < n * d.size ∧ c = .lit (d.zero.getD (k % d.size) undef) := fun k c hc => by
        have hk' : k < n * d.size := by
          have := (List.getElem?_eq_some_iff.1 hc).1
          rwa [flat_len hall, hlen] at this
        refine ⟨hk', ?_⟩
        have h0 : 0 < d.size := by
          rcases Nat.eq_zero_or_pos d.size with h | h
          · rw [h] at hk'; omega
          · exact h
        have hkd : k / d.size < n := Nat.div_lt_of_lt_mul (by rw [Nat.mul_comm]; exact hk')
        obtain ⟨el, c', g1, g2, g3⟩ := flat_at hall (by rw [hlen]; exact hkd) (Nat.mod_lt k h0)
        rw [Nat.mul_comm, Nat.div_add_mod, hc] at g3
        cases g3
        rw [List.getElem?_replicate, if_pos hkd] at g1
        cases g1
        rw [List.getElem?_map] at g2
        cases hz2 : d.zero[k % d.size]? with
        | none => simp [hz2] at g2
        | some zz => simp only [hz2, Option.map_some, Option.some.injEq] at g2; rw [← g2, List.getD_eq_getElem?_getD, hz2]; rfl
      have key : RepO (w.alloc (.cells (madeCells z.cells (m * i.size)) et)) g.I (.sl true d.size (List.replicate n (d.zero.map TV.lit))) (.slice (some ⟨w.heap.size, 0, none⟩) (List.replicate n (d.zero.map TV.lit)).length m) (fun b => b = w.heap.size) := by
        refine .sl ((madeCells z.cells (m * i.size)).toList.take (n * d.size)) (madeCells z.cells (m * i.size)) et (fun _ _ => False) rfl ?_ hall (fun k c hc => ?_) (fun _ _ h => h.elim) (fun _ _ _ h => h.elim)
        · rw [hlen]
          refine ⟨heap_alloc_new w _, rfl, hc1, by simp only [maxLen]; omega, by rw [size_madeCells, hsz]; simp, by rw [List.length_take, Array.length_toList, size_madeCells, hsz]; omega, fun k hk' => ?_, fun u hu => ?_⟩
          · rw [Nat.zero_add, List.getElem?_take_of_lt hk', Array.getElem?_toList]
          · obtain ⟨k, hk'⟩ := List.mem_iff_getElem?.1 hu
            have hlt' : k < n * d.size := by have := (List.getElem?_eq_some_iff.1 hk').1; simp at this; omega
            rw [List.getElem?_take_of_lt hlt', Array.getElem?_toList, hat k hlt'] at hk'
            cases hk'
            have h0 : 0 < d.size := by
              rcases Nat.eq_zero_or_pos d.size with h | h
              · rw [h] at hlt'; omega
              · exact h
            have : k % d.size < d.zero.length := by rw [hte.zlen]; exact Nat.mod_lt k h0
            rw [List.getD_eq_getElem?_getD, List.getElem?_eq_getElem this]
            exact hte.zone _ (List.getElem_mem this)
        · obtain ⟨hk', rfl⟩ := hflk k c hc
          have e1 : ((madeCells z.cells (m * i.size)).toList.take (n * d.size)).getD k undef = d.zero.getD (k % d.size) undef := by
            rw [List.getD_eq_getElem?_getD, List.getElem?_take_of_lt hk', Array.getElem?_toList, hat k hk']
            rfl
          rw [e1]
          exact .fr (.lit _)
      rwa [hlen] at key
  · exact hh.elim
end
end Go.Ab

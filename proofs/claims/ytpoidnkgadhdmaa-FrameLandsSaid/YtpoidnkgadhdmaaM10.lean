/- Slices are lengthened. No condition but that the table of types is the program's. -/
import Derived.Test.YtpoidnkgadhdmaaM9c
import Derived.Test.YtpoidnkgadhdmaaM3s
namespace Go.Ab
open Go.RowKit
set_option linter.unusedVariables false
section
variable {P : Program} {E : Env} {C : Cal} {w0 : Bs} {w w' : World} {I0 I R : Nat → Prop} {g g' : Gh} {st st' : ASt} {a : Act} {ov : List Value} {look : Look} {Q : Exit → Act → World → Prop} {id : Nat}
variable {dst : Option Tmp} {type : TypeId} {pos : String} {after : Array Edge} {guard : Option (Nat × Bool)}

theorem Src.lf {s : Nat} {xs : List (List TV)} {v : Value} {us : List Value} {F : Nat → Nat → Prop} (h : Src w I s xs v us F) : Src w I s (lfLL xs) v us (fun _ _ => False) := by
  rw [lfLL_eq]
  refine ⟨by simp [h.len], fun x hx => ?_, h.one, ?_, fun k c hc => ?_, fun _ _ _ h => h.elim⟩
  · obtain ⟨y, hy, rfl⟩ := List.mem_map.1 hx
    simpa using h.all y hy
  · obtain ⟨A, c, h1, h2, h3⟩ := h.form
    exact ⟨A, c, by simpa using h1, fun hA => by simp [h2 hA], h3⟩
  · have : (xs.map fun x => x.map TV.lf).flatten = xs.flatten.map TV.lf := by rw [List.map_flatten]
    rw [this, List.getElem?_map] at hc
    cases hk : xs.flatten[k]? with
    | none => simp [hk] at hc
    | some c' =>
      simp only [hk, Option.map_some, Option.some.injEq] at hc
      subst hc
      exact .fr (repO_lf (h.rep k c' hk))

theorem srcO_sound {S : Type} (hlk : ∀ i b, look i = some b → st.look i = some b) (hs : SimI w0 I0 NoR g st a ov w) {d : TyD} {dest : Option Nat} {x : AV} {v : Value} {k : List (List TV) → List Prim → Prg S} {e : S} (hx : RepA w g st.look x v)
    (h : (srcO look d dest x k).hits C e) : ∃ news ps, (k news ps).hits C e ∧ ∃ (st1 : ASt) (g1 : Gh) (R1 : Nat → Prop) (us : List Value) (T : Nat → Nat → Prop) (ts : List (Nat × Nat)), primsApp dst ps st = some st1 ∧ SimI w0 I0 R1 g1 st1 a ov w ∧ g1.I = g.I ∧ Kept ts g st g1 st1 ∧
      (∀ j, dest = some j → ∀ r, memP j r ts = false) ∧ Src w g.I d.size news v us T ∧ ∀ k b, T k b → R1 b := by
  have plain : ∀ (y : TV) (news : List (List TV)), Rep w g.I y v → pelems d.size y = some news → (k news []).hits C e → ∃ news ps, (k news ps).hits C e ∧ ∃ (st1 : ASt) (g1 : Gh) (R1 : Nat → Prop) (us : List Value) (T : Nat → Nat → Prop) (ts : List (Nat × Nat)), primsApp dst ps st = some st1 ∧ SimI w0 I0 R1 g1 st1 a ov w ∧ g1.I = g.I ∧ Kept ts g st g1 st1 ∧
      (∀ j, dest = some j → ∀ r, memP j r ts = false) ∧ Src w g.I d.size news v us T ∧ ∀ k b, T k b → R1 b := by
    intro y news hr hp hk
    obtain ⟨us, F, h1, h2, _⟩ := Src.of (S := NoR) (.fr hr) hp
    exact ⟨news, [], hk, st, g, NoR, us, F, [], rfl, hs, rfl, Kept.refl _ _ _, fun _ _ _ => rfl, h1, h2⟩
  have taken : ∀ (i r : Nat) (xs : List TV) (x y : TV) (news : List (List TV)), st.look i = some (.tree xs) → xs[r]? = some x → RepO w g.I y v (g.φ i r) → (∀ j, dest = some j → i ≠ j) → pelems d.size y = some news → (k news [.drop i r [] false, .root i r .hole]).hits C e →
      ∃ news ps, (k news ps).hits C e ∧ ∃ (st1 : ASt) (g1 : Gh) (R1 : Nat → Prop) (us : List Value) (T : Nat → Nat → Prop) (ts : List (Nat × Nat)), primsApp dst ps st = some st1 ∧ SimI w0 I0 R1 g1 st1 a ov w ∧ g1.I = g.I ∧ Kept ts g st g1 st1 ∧
      (∀ j, dest = some j → ∀ r, memP j r ts = false) ∧ Src w g.I d.size news v us T ∧ ∀ k b, T k b → R1 b := by
    intro i r xs x y news hl hx hr hne hp hk
    obtain ⟨st1, g1, t1, t2, t3, t4, t5, t6⟩ := take_state (dst := dst) hs hl hx
    obtain ⟨us, F, h1, h2, _⟩ := Src.of hr hp
    refine ⟨news, _, hk, st1, g1, _, us, F, [(i, r)], t1, t2, t3, t4, fun j hj r' => ?_, h1, fun k b hb => .inr (h2 k b hb)⟩
    rw [memP_false]
    intro hin
    simp only [List.mem_singleton, Prod.mk.injEq] at hin
    exact hne j hj hin.1.symm
  have destNe : ∀ i, isDest i dest = false → ∀ j, dest = some j → i ≠ j := fun i hb j hj e => by
    subst hj e
    simp [isDest] at hb
  unfold srcO at h
  split at h
  · rename_i t ht
    obtain ⟨news, hp, h⟩ := h
    exact plain t news (tv_rep hx ht) hp h
  · split at h
    · rename_i c _
      cases hsl : hasSl d.zero with
      | true =>
        simp only [hsl, cond_true] at h
        cases c with
        | sref i r p =>
          simp only at h
          split at h
          · rename_i x0 hx0
            obtain ⟨xs, h1, h2⟩ := rootOf_some hx0
            obtain ⟨xs', x', nd, g1, g2, g3, g4⟩ := hx
            rw [hlk _ _ h1] at g1
            cases g1
            rw [h2] at g2
            cases g2
            split at h
            · cases hb : isDest i dest with
              | true => rw [hb] at h; exact h.elim
              | false =>
                rw [hb] at h
                obtain ⟨news, hp, h⟩ := h
                refine taken i r xs x0 x0 news (hlk _ _ h1) h2 ?_ (destNe i hb) hp h
                rw [g3.1]
                exact hs.trees i xs (hlk _ _ h1) r x0 h2
            · obtain ⟨y, hy, hf, news, hp, h⟩ := h
              obtain ⟨_, S', r1, _⟩ := hs.at (hlk _ _ h1) h2 g3 hy
              exact plain y news (isFr_rep r1 hf) hp h
          · exact h.elim
        | swin i r p lo len =>
          simp only at h
          split at h
          · rename_i x0 hx0
            obtain ⟨xs, h1, h2⟩ := rootOf_some hx0
            obtain ⟨xs', x', u, nd, g1, g2, g3, g4, g5⟩ := hx
            rw [hlk _ _ h1] at g1
            cases g1
            rw [h2] at g2
            cases g2
            split at h
            · cases hb : isDest i dest with
              | true => rw [hb] at h; exact h.elim
              | false =>
                rw [hb] at h
                obtain ⟨y, hy, news, hp, h⟩ := h
                refine taken i r xs x0 y news (hlk _ _ h1) h2 ?_ (destNe i hb) hp h
                have hr := hs.trees i xs (hlk _ _ h1) r x0 h2
                rw [← g3.1] at hr
                exact win_rep hr g3.2 g5 hy
            · obtain ⟨z, hz, y, hy, hf, news, hp, h⟩ := h
              obtain ⟨e1, S', r1, _⟩ := hs.at (hlk _ _ h1) h2 g3 hz
              exact plain y news (isFr_rep (win_rep r1 e1 g5 hy) hf) hp h
          · exact h.elim
        | _ => exact h.elim
      | false =>
        simp only [hsl, cond_false] at h
        obtain ⟨y, T, h, hr⟩ := resT_hits hlk hs hx h
        obtain ⟨xs, hp, h⟩ := h
        obtain ⟨us, F, h1, h2, _⟩ := Src.of hr hp
        exact ⟨_, [], h, st, g, NoR, us, fun _ _ => False, [], rfl, hs, rfl, Kept.refl _ _ _, fun _ _ _ => rfl, h1.lf, fun _ _ h => h.elim⟩
    · exact h.elim

theorem nid_eq {st st1 : ASt} (h : st1.out.length = st.out.length) (d : Option Tmp) : st1.nid d = st.nid d := by cases d <;> simp [ASt.nid, h]

theorem mkNew_app {ps : List Prim} {b : BC} {v : AV} {st1 : ASt} (ha : (mkNew ps b v).app st dst = some st') (h1 : primsApp dst ps st = some st1) (ho : st1.out.length = st.out.length) :
    ∃ d, dst = some d ∧ st1.look (st.nid dst) = none ∧ st.nid dst < st1.boxes.length ∧ st' = (st1.setBox (st.nid dst) (some b)).put (some d) v := by
  cases ps with
  | nil =>
    simp only [primsApp, Option.some.injEq] at h1
    subst h1
    exact app_new ha
  | cons p ps =>
    simp only [mkNew, Eff.app] at ha
    rw [prims_append, h1, Option.bind_some] at ha
    cases dst with
    | none => simp [primsApp, Prim.app] at ha
    | some d =>
      simp only [primsApp, Prim.app] at ha
      cases hb : st1.addBox (st1.nid (some d)) b with
      | none => simp [hb] at ha
      | some s2 =>
        simp only [hb, Option.some.injEq] at ha
        obtain ⟨k1, k2, k3⟩ := addBox_some hb
        rw [nid_eq ho] at k1 k2 k3
        subst k3
        exact ⟨d, rfl, k1, k2, ha.symm⟩

theorem Grown.below {s n : Nat} {v v' : Value} {us : List Value} (h : Grown w w' s v v' n us) (hw : w0.Bel w) (hb : ∀ a m c, v = .slice (some a) m c → w0.New a.block) : w0.Bel w' :=
  hw.but h.os h.tape h.output h.size (fun k hlt hk => h.block k hlt (fun a m c hv e => hk (e ▸ hb a m c hv)))

/-- The operation itself. -/
theorem append_run {t e : TypeId} {d dt : TyD} (ht : TyOk P t dt) (hk : dt.kd = .slice e) (hte : TyOk P e d) (hby : d.bytes ≤ 4096) {x y : Operand} {v : Value} {n : Nat} {us us2 : List Value} {news : List (List TV)} {T : Nat → Nat → Prop}
    (hv : a.eval x = v) (hown : Own w d.size v n us) (hsrc : Src w I d.size news (a.eval y) us2 T) (hroom : n + news.length ≤ room) :
    ∃ v' w', (execOp a.eval ⟨dst, .call ⟨.builtin .append, #[x, y], #[t, t]⟩, type, pos, after, guard⟩).run P w = .ok (.value v') w' ∧ Grown w w' d.size v v' (n + news.length) (us ++ us2) := by
  obtain ⟨i, z, hi, hsz, hb, hz, hzc⟩ := hte.info
  have hu := kd_slice ht hk
  have hzs : z.cells.size = i.size := by have := hte.zlen; rw [← hzc] at this; rw [hsz]; simpa using this
  obtain ⟨A, c, hf, hA, hcell⟩ := hsrc.form
  rw [← hsz] at hown
  have hr : n + news.length ≤ 4294967296 := hroom
  obtain ⟨v', w', h1, h2⟩ := run_append (P := P) (w := w) (v := v) t type e i z hu hi hz hzs hown (A := A) (m := news.length) (c := c) (news := us2) (by rw [hsrc.len, hsz]) (fun h => by rw [hA h]; rfl) hcell hsrc.one (by simp only [maxLen]; omega)
    (by rw [hb]; have : (n + news.length) * d.bytes ≤ 4294967296 * 4096 := Nat.mul_le_mul hr hby; omega)
  refine ⟨v', w', run_builtin (s := Builtin.append_ #[t, t] type #[a.eval x, a.eval y]) (fun cs => by simp [builtin]) (by simpa [hv, hf] using h1), by rw [← hsz]; exact h2⟩

set_option maxHeartbeats 1000000 in
theorem appendK_sound (hlk : ∀ i b, look i = some b → st.look i = some b) (hs : SimI w0 I0 NoR g st a ov w) {t tu : TypeId} {d : TyD} {x y : Operand} {e : Eff} {news : List (List TV)} {ps : List Prim} {st1 : ASt} {g1 : Gh} {R1 : Nat → Prop} {us2 : List Value} {T : Nat → Nat → Prop} {ts : List (Nat × Nat)}
    (p1 : primsApp dst ps st = some st1) (p2 : SimI w0 I0 R1 g1 st1 a ov w) (p3 : g1.I = g.I) (p4 : Kept ts g st g1 st1) (p5 : ∀ j, destOf (st.ev x) = some j → ∀ r, memP j r ts = false)
    (hl2 : us2.length = news.length * d.size) (hall : ∀ x ∈ news, x.length = d.size) (hrp : ∀ (k : Nat) (c : TV), news.flatten[k]? = some c → RepO w g1.I c (us2.getD k undef) (T k)) (hap : ∀ k k' b, T k b → T k' b → k = k') (hTR : ∀ k b, T k b → R1 b)
    (hrun : ∀ (v : Value) (n : Nat) (us : List Value), a.eval x = v → Own w d.size v n us → n + news.length ≤ room → ∃ v' w', (execOp a.eval ⟨dst, .call ⟨.builtin .append, #[x, y], #[t, tu]⟩, type, pos, after, guard⟩).run P w = .ok (.value v') w' ∧ Grown w w' d.size v v' (n + news.length) (us ++ us2))
    (hh : (appendK (st.nid dst) look d (st.ev x) news ps).hits C e) (ha : e.app st dst = some st') : Good P w0 I0 ov ⟨dst, .call ⟨.builtin .append, #[x, y], #[t, tu]⟩, type, pos, after, guard⟩ st' a w Q := by
  unfold appendK at hh
  have hx := hs.ev x
  -- what is lengthened, whosoever it was
  have core : ∀ (z y1 : TV) (v : Value) (S R2 : Nat → Prop), a.eval x = v → RepO w g1.I z v S → papp d.size z news = some y1 → (∀ b, S b → w0.New b ∧ b < w.heap.size ∧ ¬ g1.I b ∧ ¬ R1 b) →
      ∃ v' w', (execOp a.eval ⟨dst, .call ⟨.builtin .append, #[x, y], #[t, tu]⟩, type, pos, after, guard⟩).run P w = .ok (.value v') w' ∧ w0.Bel w' ∧ w.heap.size ≤ w'.heap.size ∧ (∀ b, b < w.heap.size → ¬ S b → w'.heap[b]? = w.heap[b]?) ∧
        RepO w' g1.I y1 v' (fun b => S b ∨ (w.heap.size ≤ b ∧ b < w'.heap.size) ∨ ∃ k, T k b) ∧ IsSl v' := by
    intro z y1 v S R2 hv hr hp hS
    obtain ⟨n, us, b1, b2, b3, b4, b5, b6⟩ := hr.app hp
    obtain ⟨v', w', r1, r2⟩ := hrun v n us hv b1 b2
    obtain ⟨c1, c2⟩ := b6 w' v' us2 T hl2 hall hrp hap p2.lt (fun b hb => ⟨(hS b hb).2.1, (hS b hb).2.2.1⟩) (fun k b hb => ⟨(p2.res b (hTR k b hb)).2.1, fun h => (hS b h).2.2.2 (hTR k b hb)⟩) r2
    refine ⟨v', w', r1, r2.below p2.below (fun a m c hv => (hS _ (b4 a m c hv)).1), r2.size, fun b hb hn => r2.block b hb (fun a m c hv e => hn (e ▸ b4 a m c hv)), ?_, ?_⟩
    · refine c1.mono (fun b hb => ?_)
      rcases hb with h | h | h
      · exact .inl h
      · exact .inr (.inl ⟨by omega, h.2⟩)
      · exact .inr (.inr h)
    · obtain ⟨A, c, hv'⟩ := c2; exact ⟨_, _, _, hv'⟩
  have hnid : st1.nid dst = st.nid dst := nid_eq p4.out dst
  -- a root of one's own
  have turn : ∀ (i r : Nat) (xs : List TV) (x0 z y1 : TV) (v : Value), st.look i = some (.tree xs) → xs[r]? = some x0 → (∀ r, memP i r ts = false) → a.eval x = v → (∀ (I S : Nat → Prop), RepO w I x0 (g.ρ i r) S → RepO w I z v S) → papp d.size z news = some y1 →
      (Eff.gen (ps ++ [.drop i r [] false, .root i r y1]) (.one (.sref i r []))).app st dst = some st' → Good P w0 I0 ov ⟨dst, .call ⟨.builtin .append, #[x, y], #[t, tu]⟩, type, pos, after, guard⟩ st' a w Q := by
    intro i r xs x0 z y1 v hl hx0 hts hv hz hp ha
    obtain ⟨t1, t2, t3⟩ := p4.tree i xs hts hl
    have hrl : r < xs.length := (List.getElem?_eq_some_iff.1 hx0).1
    have hfr : ∀ b, g1.φ i r b → Foot g1 st1.look i b := fun b hb => .inr ⟨xs, r, t1, hrl, hb⟩
    have hrep := hz _ _ (by rw [← t2]; exact p2.trees i xs t1 r x0 hx0)
    obtain ⟨v', w', r1, r2, r3, r4, r5, r6⟩ := core z y1 v _ NoR hv hrep hp (fun b hb => p2.foot i b (hfr b hb))
    obtain ⟨q1, q2⟩ := p2.updRoot t1 hx0 (CA.drop i r [] false) (fun p => leads false [] p = false) (drop_ok i r [] false) (R' := NoR) (I' := g1.I) r5 (fun p v nd ho _ _ => by rw [leads_all] at ho; cases ho) r2 r3 (fun b hb hn _ => r4 b hb hn)
      (fun b hb => by
        rcases hb with h | h | ⟨k, h⟩
        · exact .inl h
        · exact .inr (.inr h)
        · exact .inr (.inl (hTR k b h)))
      (fun b hb => hb.elim) (fun _ h => h) (fun _ h => .inl h) (fun b hb hS => by
        rcases hS with h | h | ⟨k, h⟩
        · exact (p2.foot i b (hfr b h)).2.2.1 hb
        · have := p2.lt b hb; omega
        · exact (p2.res b (hTR k b h)).2.2 hb)
    have hlm : (st1.mapS (CA.drop i r [] false)).look i = some (.tree xs) := by rw [look_mapS, t1]; rfl
    have happ : primsApp dst (ps ++ [.drop i r [] false, .root i r y1]) st = some ((st1.mapS (CA.drop i r [] false)).setBox i (some (.tree (setNth xs r y1)))) := by
      rw [prims_append, p1, Option.bind_some]
      simp only [primsApp, Prim.app, setRoot_tree hlm]
    simp only [Eff.app, happ, Option.some.injEq] at ha
    subst ha
    refine wp_value r1 ⟨_, q1.put dst (v := .one (.sref i r [])) ⟨setNth xs r y1, y1, y1.nd, ?_, by rw [setNth_eq, List.getElem?_set_self hrl], ⟨by simp [Gh.setR], rfl⟩, r6⟩⟩
    rw [look_setBox, if_pos ⟨rfl, by rw [mapS_boxes]; exact look_lt t1⟩]
  -- what lies deeper is taken out
  have deep : ∀ (i r : Nat) (p : Way) (xs : List TV) (x0 z0 z y1 x1 : TV) (v u : Value) (nd : Option (Nat × Nat)), st.look i = some (.tree xs) → xs[r]? = some x0 → (∀ r, memP i r ts = false) → a.eval x = v → Node w p x0 (g.ρ i r) u nd → getP p x0 = some z0 → (∀ (I S : Nat → Prop), RepO w I z0 u S → RepO w I z v S) →
      papp d.size z news = some y1 → setP p x0 .hole = some x1 →
      (Eff.gen (ps ++ [.drop i r (wayJs p) false, .root i r x1, .newB (.tree [y1])]) (.one (.sref (st.nid dst) 0 []))).app st dst = some st' → Good P w0 I0 ov ⟨dst, .call ⟨.builtin .append, #[x, y], #[t, tu]⟩, type, pos, after, guard⟩ st' a w Q := by
    intro i r p xs x0 z0 z y1 x1 v u nd hl hx0 hts hv hnode hg hz hp hset ha
    obtain ⟨t1, t2, t3⟩ := p4.tree i xs hts hl
    have hrl : r < xs.length := (List.getElem?_eq_some_iff.1 hx0).1
    have hfr : ∀ b, g1.φ i r b → Foot g1 st1.look i b := fun b hb => .inr ⟨xs, r, t1, hrl, hb⟩
    obtain ⟨u', Sy, s1, s2, s3, s4, s5⟩ := (p2.trees i xs t1 r x0 hx0).sub hg
    rw [t2] at s3
    obtain ⟨e1, e2⟩ := Node.unique hnode s3
    subst e1
    obtain ⟨m1, m2⟩ := s5 w g1.I .hole x1 (fun _ => False) hset (fun _ _ => rfl) (fun _ h => h) (fun _ _ _ => rfl) (.fr (.hole _)) (fun _ h => h.elim)
    obtain ⟨q1, q2⟩ := p2.updRoot t1 hx0 (CA.drop i r (wayJs p) false) (fun q => leads false (wayJs p) q = false) (drop_ok i r (wayJs p) false) (R' := fun b => R1 b ∨ Sy b) (I' := g1.I) m1
      (fun q v' nd ho _ hn => m2 q v' nd (fun q' hq' _ => by rw [hq', leads_append] at ho; cases ho) hn) p2.below (Nat.le_refl _) (fun _ _ _ _ => rfl) (fun b hb => by rcases hb with h | h; exact .inl h.1; exact h.elim)
      (fun b hb => ⟨hb.imp _root_.id (s2 b), fun h => by
        rcases h with h | h
        · rcases hb with hb | hb
          · exact (p2.foot i b (hfr b h.1)).2.2.2 hb
          · exact h.2 hb
        · exact h, hb.elim (fun h => (p2.res b h).2.2) (fun h => (p2.foot i b (hfr b (s2 b h))).2.2.1)⟩)
      (fun _ h => h) (fun _ h => .inl h) (fun b hb hS => by
        rcases hS with h | h
        · exact (p2.foot i b (hfr b h.1)).2.2.1 hb
        · exact h)
    obtain ⟨v', w', r1, r2, r3, r4, r5, r6⟩ := core z y1 v Sy NoR hv (hz _ _ s1) hp (fun b hb => p2.foot i b (hfr b (s2 b hb)))
    have hlm : (st1.mapS (CA.drop i r (wayJs p) false)).look i = some (.tree xs) := by rw [look_mapS, t1]; rfl
    obtain ⟨st2, hst2⟩ : ∃ st2, st2 = (st1.mapS (CA.drop i r (wayJs p) false)).setBox i (some (.tree (setNth xs r x1))) := ⟨_, rfl⟩
    rw [← hst2] at q1 q2
    have happ : primsApp dst (ps ++ [.drop i r (wayJs p) false, .root i r x1]) st = some st2 := by
      rw [prims_append, p1, Option.bind_some, hst2]
      simp only [primsApp, Prim.app, setRoot_tree hlm]
    have hout : st2.out.length = st.out.length := by rw [hst2]; simp [ASt.setBox, ASt.mapS, mapAs_len, p4.out]
    have ha2 : (mkNew (ps ++ [.drop i r (wayJs p) false, .root i r x1]) (.tree [y1]) (.one (.sref (st.nid dst) 0 []))).app st dst = some st' := by
      have : mkNew (ps ++ [.drop i r (wayJs p) false, .root i r x1]) (.tree [y1]) (.one (.sref (st.nid dst) 0 [])) = .gen (ps ++ [.drop i r (wayJs p) false, .root i r x1, .newB (.tree [y1])]) (.one (.sref (st.nid dst) 0 [])) := by
        cases ps <;> simp [mkNew]
      rw [this]; exact ha
    obtain ⟨dd, h0, h1, h2, h3⟩ := mkNew_app ha2 happ hout
    have hn2 : st2.nid dst = st.nid dst := nid_eq hout dst
    rw [← hn2] at h1 h2 h3
    exact new_tree q1 rfl r1 r2 r3 (fun b hb hn => r4 b hb (fun h => hn (.inr h))) r5 (fun b hb => by
      rcases hb with h | h | ⟨k, h⟩
      · exact .inl (.inr h)
      · exact .inr h
      · exact .inl (.inl (hTR k b h))) r6 h0 h1 h2 h3
  split at hh
  · rename_i tx htx
    have hxr := tv_rep hx htx
    cases hn : isNilTV tx with
    | false => rw [hn] at hh; exact hh.elim
    | true =>
      rw [hn] at hh
      obtain ⟨y1, hp, hh⟩ := hh
      cases hh
      have hv := isNil_of (S := NoR) hn (.fr hxr)
      obtain ⟨v', w', r1, r2, r3, r4, r5, r6⟩ := core tx y1 _ NoR NoR rfl (by rw [p3]; exact .fr hxr) hp (fun b hb => hb.elim)
      obtain ⟨dd, h0, h1, h2, h3⟩ := mkNew_app ha p1 p4.out
      rw [← hnid] at h1 h2 h3
      exact new_tree p2 rfl r1 r2 r3 (fun b hb hn => r4 b hb (fun h => h)) r5 (fun b hb => by
        rcases hb with h | h | ⟨k, h⟩
        · exact h.elim
        · exact .inr h
        · exact .inl (hTR k b h)) r6 h0 h1 h2 h3
  · split at hh
    · rename_i i r p hxi
      rw [hxi] at hx p5
      have hts : ∀ r, memP i r ts = false := p5 i rfl
      split at hh
      · rename_i x0 hx0
        obtain ⟨xs, h1, h2⟩ := rootOf_some hx0
        obtain ⟨xs', x', nd, g1', g2, g3, g4⟩ := hx
        rw [hlk _ _ h1] at g1'
        cases g1'
        rw [h2] at g2
        cases g2
        split at hh
        · obtain ⟨y1, hp, hh⟩ := hh
          cases hh
          exact turn i r xs x0 x0 y1 _ (hlk _ _ h1) h2 hts rfl (fun I S hr => by rw [g3.1]; exact hr) hp ha
        · obtain ⟨z, hz, y1, hp, x1, hset, hh⟩ := hh
          cases hh
          exact deep i r p xs x0 z z y1 x1 _ _ nd (hlk _ _ h1) h2 hts rfl g3 hz (fun I S hr => hr) hp hset ha
      · exact hh.elim
    · rename_i i r p lo len hxi
      rw [hxi] at hx p5
      have hts : ∀ r, memP i r ts = false := p5 i rfl
      split at hh
      · rename_i x0 hx0
        obtain ⟨xs, h1, h2⟩ := rootOf_some hx0
        obtain ⟨xs', x', u, nd, g1', g2, g3, g4, g5⟩ := hx
        rw [hlk _ _ h1] at g1'
        cases g1'
        rw [h2] at g2
        cases g2
        split at hh
        · obtain ⟨z, hz, y1, hp, hh⟩ := hh
          cases hh
          exact turn i r xs x0 z y1 _ (hlk _ _ h1) h2 hts rfl (fun I S hr => win_rep (by rw [g3.1]; exact hr) g3.2 g5 hz) hp ha
        · obtain ⟨z0, hz0, z, hz, y1, hp, x1, hset, hh⟩ := hh
          cases hh
          have hnd : nd = z0.nd := (hs.at (hlk _ _ h1) h2 g3 hz0).1
          exact deep i r p xs x0 z0 z y1 x1 _ _ nd (hlk _ _ h1) h2 hts rfl g3 hz0 (fun I S hr => win_rep hr hnd g5 hz) hp hset ha
      · exact hh.elim
    · exact hh.elim
theorem appendO_sound (hE : ∀ t d, E.T t = some d → TyOk P t d) (hlk : ∀ i b, look i = some b → st.look i = some b) (hs : SimI w0 I0 NoR g st a ov w) {t et : TypeId} {d : TyD} (hel : elemOf E.T t = some (et, d)) {x y : Operand} {e : Eff}
    (hh : (appendO (st.nid dst) look d (st.ev x) (st.ev y)).hits C e) (ha : e.app st dst = some st') : Good P w0 I0 ov ⟨dst, .call ⟨.builtin .append, #[x, y], #[t, t]⟩, type, pos, after, guard⟩ st' a w Q := by
  obtain ⟨dt, hT, hk, hTe⟩ := elemOf_spec hel
  have ht := hE _ _ hT
  have hte := hE _ _ hTe
  unfold appendO at hh
  cases hc0 : d.bytes.ble 4096 && Nat.blt 0 d.size with
  | false => rw [hc0] at hh; exact hh.elim
  | true =>
    simp only [hc0, cond_true] at hh
    simp only [Bool.and_eq_true] at hc0
    have hby : d.bytes ≤ 4096 := by simpa using hc0.1
    obtain ⟨news, ps, hh, st1, g1, R1, us2, T, ts, p1, p2, p3, p4, p5, hsrc, hTR⟩ := srcO_sound (dst := dst) hlk hs (hs.ev y) hh
    rw [← p3] at hsrc
    exact appendK_sound hlk hs p1 p2 p3 p4 p5 hsrc.len hsrc.all hsrc.rep hsrc.apart hTR
      (fun v n us hv b1 b2 => append_run (dst := dst) (type := type) (pos := pos) (after := after) (guard := guard) ht hk hte hby hv b1 hsrc b2) hh ha

theorem appendSO_sound (hE : ∀ t d, E.T t = some d → TyOk P t d) (hlk : ∀ i b, look i = some b → st.look i = some b) (hs : SimI w0 I0 NoR g st a ov w) {t u et : TypeId} {d du : TyD} (hel : elemOf E.T t = some (et, d)) (hu : E.T u = some du) (huk : du.kd = .str) {x y : Operand} {e : Eff}
    (hh : (appendSO (st.nid dst) look d (st.ev x) (st.ev y)).hits C e) (ha : e.app st dst = some st') : Good P w0 I0 ov ⟨dst, .call ⟨.builtin .append, #[x, y], #[t, u]⟩, type, pos, after, guard⟩ st' a w Q := by
  obtain ⟨dt, hT, hk, hTe⟩ := elemOf_spec hel
  have ht := hE _ _ hT
  have hte := hE _ _ hTe
  have hus := kd_str (hE _ _ hu) huk
  have huu := kd_slice ht hk
  unfold appendSO at hh
  cases hb : isByteD d with
  | false => rw [hb] at hh; exact hh.elim
  | true =>
    rw [hb] at hh
    simp only [cond_true] at hh
    obtain ⟨_, hs1, hb1⟩ := isByte_spec hte hb
    split at hh
    · rename_i ty hty
      have hr := tv_rep (hs.ev y) hty
      obtain ⟨news, hp, hh⟩ := hh
      unfold pbytes at hp
      split at hp
      · rename_i s
        simp only [Option.some.injEq] at hp
        subst hp
        have he := rep_lit hr
        obtain ⟨i, z, hi, hsz, hbz, hz, hzc⟩ := hte.info
        have hzs : z.cells.size = i.size := by have := hte.zlen; rw [← hzc] at this; rw [hsz]; simpa using this
        have hlen : (byteRows s).length = s.size := by simp [byteRows]
        have hflat : (byteRows s).flatten = s.data.toList.map fun b => TV.lit (.int .u8 b.toNat) := by
          unfold byteRows
          induction s.data.toList with
          | nil => rfl
          | cons b l ih => simp [ih]
        refine appendK_sound (us2 := Lib.strCells s) (T := fun _ _ => False) (ts := []) (R1 := NoR) (g1 := g) (st1 := st) (ps := []) hlk hs rfl hs rfl (Kept.refl _ _ _) (fun _ _ _ => rfl) ?_ ?_ ?_ (fun _ _ _ h => h.elim) (fun _ _ h => h.elim) ?_ hh ha
        · rw [Lib.strCells_length, hlen, hs1, Nat.mul_one]
        · intro r hr
          simp only [byteRows, List.mem_map] at hr
          obtain ⟨b, _, rfl⟩ := hr
          rw [hs1]; rfl
        · intro k c hc
          rw [hflat, List.getElem?_map] at hc
          cases hk : s.data.toList[k]? with
          | none => rw [hk] at hc; cases hc
          | some b =>
            rw [hk] at hc
            simp only [Option.map_some, Option.some.injEq] at hc
            subst hc
            have : (Lib.strCells s).getD k undef = .int .u8 b.toNat := by
              simp only [Lib.strCells, List.getD, List.getElem?_map, hk, Option.map_some, Option.getD_some]
            rw [this]
            exact .fr (.lit _)
        · intro v n us hv hown hroom
          rw [hlen] at hroom ⊢
          have hr' : n + s.size ≤ 4294967296 := hroom
          rw [← hsz] at hown ⊢
          obtain ⟨v', w', h1, h2⟩ := run_append_str (P := P) t u type et i z huu hus hi hz hzs (by rw [hsz]; exact hs1) hown s (by simp only [maxLen]; omega) (by rw [hbz, hb1]; omega)
          exact ⟨v', w', run_builtin (s := Builtin.append_ #[t, u] type #[a.eval x, a.eval y]) (fun cs => by simp [builtin]) (by simpa [hv, he] using h1), h2⟩
      · cases hp
    · exact hh.elim

end
end Go.Ab

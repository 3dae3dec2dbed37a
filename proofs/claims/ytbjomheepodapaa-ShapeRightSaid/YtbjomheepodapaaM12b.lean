/- Calls: what an answer brings, and the calls themselves. No condition but that the table of types is the program's. -/
import Derived.Test.YtbjomheepodapaaM12
namespace Go.Ab
open Go.RowKit
set_option linter.unusedVariables false
section
variable {P : Program} {E : Env} {C : Cal} {w0 w w' : World} {I0 I R : Nat → Prop} {g g' : Gh} {st st' : ASt} {a : Act} {ov : List Value} {look : Look} {Q : Exit → Act → World → Prop} {id : Nat}
variable {dst : Option Tmp} {type : TypeId} {pos : String} {after : Array Edge} {guard : Option (Nat × Bool)}

theorem ansCells_get (id r0 : Nat) (x : TV) (agg : Bool) : ∀ (zs : List Value) (j m : Nat), (ansCells id r0 zs x agg j)[m]? = (zs[m]?).map fun z => bif isSlV z then CA.sref id (r0 + (j + m)) [] else .t (bif agg then x.cell (j + m) else x)
  | [], j, m => by simp [ansCells]
  | z :: zs, j, 0 => by simp [ansCells]
  | z :: zs, j, m + 1 => by
    simp only [ansCells, List.getElem?_cons_succ, ansCells_get id r0 x agg zs (j + 1) m]
    rw [show j + 1 + m = j + (m + 1) by omega]
theorem ansCells_len (id r0 : Nat) (x : TV) (agg : Bool) : ∀ (zs : List Value) (j : Nat), (ansCells id r0 zs x agg j).length = zs.length
  | [], j => rfl
  | z :: zs, j => by simp [ansCells, ansCells_len id r0 x agg zs (j + 1)]
theorem ansRoots_get (x : TV) (agg : Bool) : ∀ (zs : List Value) (j m : Nat), (ansRoots zs x agg j)[m]? = (zs[m]?).map fun z => bif isSlV z then (bif agg then x.cell (j + m) else x) else .hole
  | [], j, m => by simp [ansRoots]
  | z :: zs, j, 0 => by simp [ansRoots]
  | z :: zs, j, m + 1 => by
    simp only [ansRoots, List.getElem?_cons_succ, ansRoots_get x agg zs (j + 1) m]
    rw [show j + 1 + m = j + (m + 1) by omega]
theorem ansRoots_len (x : TV) (agg : Bool) : ∀ (zs : List Value) (j : Nat), (ansRoots zs x agg j).length = zs.length
  | [], j => rfl
  | z :: zs, j => by simp [ansRoots, ansRoots_len x agg zs (j + 1)]

/-- The cells of a struct, each with its blocks. -/
theorem RepO.aggs {cs : List TV} {v : Value} {S : Nat → Prop} (h : RepO w I (.agg cs) v S) : ∃ (vs : Array Value) (F : Nat → Nat → Prop), v = .agg vs ∧ vs.size = cs.length ∧ (∀ j, j < vs.size → (vs.getD j undef).oneCell' = true) ∧
    (∀ (j : Nat) (c : TV), cs[j]? = some c → RepO w I c (vs.getD j undef) (F j)) ∧ (∀ j b, F j b → S b) ∧ ∀ k k' b, F k b → F k' b → k = k' := by
  cases h with
  | fr h =>
    cases h with
    | agg hl h1 hr => exact ⟨_, fun _ _ => False, rfl, hl, h1, fun j c hj => .fr (hr j c hj), fun _ _ h => h.elim, fun _ _ _ h => h.elim⟩
  | agg F hl h1 hr hF hd => exact ⟨_, F, rfl, hl, h1, hr, hF, hd⟩
theorem RepO.tups {cs : List TV} {v : Value} {S : Nat → Prop} (h : RepO w I (.tup cs) v S) : ∃ (vs : Array Value) (F : Nat → Nat → Prop), v = .tuple vs ∧ vs.size = cs.length ∧
    (∀ (j : Nat) (c : TV), cs[j]? = some c → RepO w I c (vs.getD j undef) (F j)) ∧ (∀ j b, F j b → S b) ∧ ∀ k k' b, F k b → F k' b → k = k' := by
  cases h with
  | fr h =>
    cases h with
    | tup hl hr => exact ⟨_, fun _ _ => False, rfl, hl, fun j c hj => .fr (hr j c hj), fun _ _ h => h.elim, fun _ _ _ h => h.elim⟩
  | tup F hl hr hF hd => exact ⟨_, F, rfl, hl, hr, hF, hd⟩

/-- One answer: its cells, and the blocks of each. -/
theorem ansOne_hits {T : Type} {t : TypeId} {d : TyD} (ht : TyOk P t d) {x : TV} {v : Value} {S : Nat → Prop} (hx : RepO w I x v S) {k : Prg T} {e : T} (h : (ansOne d x k).hits C e) :
    k.hits C e ∧ ∃ (us : List Value) (F : Nat → Nat → Prop), us.length = d.zero.length ∧ (∀ r y, (ansRoots d.zero x d.kd.isAgg 0)[r]? = some y → RepO w I y (us.getD r undef) (F r)) ∧ (∀ r b, F r b → S b) ∧ (∀ r r' b, F r b → F r' b → r = r') ∧
      (∀ m z, d.zero[m]? = some z → isSlV z = true → IsSl (us.getD m undef)) ∧
      ∀ (g' : Gh) (look' : Look) (id r0 : Nat), (∀ m z, d.zero[m]? = some z → isSlV z = true → RepC w g' look' (.sref id (r0 + m) []) (us.getD m undef)) → RepCs w g' look' d.kd.isAgg (ansCells id r0 d.zero x d.kd.isAgg 0) v := by
  unfold ansOne at h
  cases hk : d.kd.isAgg with
  | true =>
    simp only [hk, cond_true] at h
    obtain ⟨h1, h⟩ := h
    refine ⟨h, ?_⟩
    simp only [Bool.and_eq_true] at h1
    obtain ⟨h1, h2⟩ := h1
    cases x with
    | agg cs =>
      simp only [TV.isAgg, beq_iff] at h1
      obtain ⟨vs, F, rfl, hl, hone, hr, hF, hd⟩ := hx.aggs
      have hcell : ∀ m z, d.zero[m]? = some z → ∃ c, cs[m]? = some c ∧ (TV.agg cs).cell m = c ∧ (isSlV z = true → c.isSl = true) ∧ (isSlV z = false → c.isSc = true) := fun m z hz => by
        obtain ⟨c, c1, c2, c3⟩ := fitsAt_spec h2 m z hz
        simp only [TV.cellsL, Nat.zero_add] at c1
        exact ⟨c, c1, by simp only [TV.cell]; exact nth_some c1, c2, c3⟩
      have hgd : ∀ m, vs.toList.getD m undef = vs.getD m undef := fun m => by simp [Array.getD_eq_getD_getElem?, List.getD_eq_getElem?_getD]
      refine ⟨vs.toList, F, by simp [hl, h1, ht.zlen], fun r y hy => ?_, hF, hd, fun m z hz hs => ?_, fun g' look' id r0 hrep => ⟨vs, rfl, by rw [ansCells_len]; simp [hl, h1, ht.zlen], fun j c u hc hu => ?_⟩⟩
      · rw [ansRoots_get] at hy
        cases hz : d.zero[r]? with
        | none => simp [hz] at hy
        | some z =>
          obtain ⟨c, c1, c2, c3, c4⟩ := hcell r z hz
          simp only [hz, Option.map_some, Option.some.injEq, cond_true, Nat.zero_add] at hy
          rw [hgd]
          cases hs : isSlV z with
          | true =>
            simp only [hs, cond_true] at hy
            rw [← hy, c2]
            exact hr r c c1
          | false =>
            simp only [hs, cond_false] at hy
            rw [← hy]
            exact .fr (.hole _)
      · obtain ⟨c, c1, c2, c3, c4⟩ := hcell m z hz
        rw [hgd]
        obtain ⟨a, n, cap, e⟩ := repO_isSl (hr m c c1) (c3 hs)
        exact ⟨a, n, cap, e⟩
      · have hju : j < vs.size := by have := (List.getElem?_eq_some_iff.1 hu).1; simpa using this
        have hgu : vs.getD j undef = u := by rw [← hgd, List.getD_eq_getElem?_getD, hu]; rfl
        refine ⟨?_, by rw [← hgu]; exact hone j hju⟩
        rw [ansCells_get] at hc
        cases hz : d.zero[j]? with
        | none => simp [hz] at hc
        | some z =>
          obtain ⟨c', c1, c2, c3, c4⟩ := hcell j z hz
          simp only [hz, Option.map_some, Option.some.injEq, cond_true, Nat.zero_add] at hc
          cases hs : isSlV z with
          | true =>
            simp only [hs, cond_true] at hc
            rw [← hc, ← hgu, ← hgd]
            exact hrep j z hz hs
          | false =>
            simp only [hs, cond_false] at hc
            rw [← hc, c2]
            obtain ⟨e1, e2⟩ := repO_isSc (hr j c' c1) (c4 hs)
            rw [e1, hgu]
            rw [hgu] at e2
            exact ⟨.lit _, scV_one e2⟩
    | _ => simp [TV.isAgg] at h1
  | false =>
    simp only [hk, cond_false] at h
    obtain ⟨h1, h⟩ := h
    refine ⟨h, ?_⟩
    have hz1 : d.zero.length = 1 := by rw [ht.zlen, ht.one hk]
    obtain ⟨z0, hz0⟩ : ∃ z0, d.zero = [z0] := by
      cases hd : d.zero with
      | nil => simp [hd] at hz1
      | cons z l => simp [hd] at hz1; exact ⟨z, by rw [hz1]⟩
    obtain ⟨c, c1, c2, c3⟩ := fitsAt_spec h1 0 z0 (by rw [hz0]; rfl)
    simp [TV.cellsL] at c1
    subst c1
    have hone : v.oneCell' = true := by
      cases hs : isSlV z0 with
      | true => obtain ⟨a, n, cap, e⟩ := repO_isSl hx (c2 hs); rw [e]; rfl
      | false => exact scV_one (repO_isSc hx (c3 hs)).2
    refine ⟨[v], fun r b => r = 0 ∧ S b, by rw [hz0]; rfl, fun r y hy => ?_, fun r b h => h.2, fun r r' b h h' => by rw [h.1, h'.1], fun m z hz hs => ?_, fun g' look' id r0 hrep => ⟨_, by rw [hz0]; rfl, ?_, hone⟩⟩
    · rw [ansRoots_get, hz0] at hy
      cases r with
      | zero =>
        simp at hy
        cases hs : isSlV z0 with
        | true => simp [hs] at hy; subst hy; exact hx.mono (fun b hb => ⟨rfl, hb⟩)
        | false => simp [hs] at hy; subst hy; exact .fr (.hole _)
      | succ r => simp at hy
    · rw [hz0] at hz
      cases m with
      | zero => simp at hz; subst hz; obtain ⟨a, n, cap, e⟩ := repO_isSl hx (c2 hs); exact ⟨a, n, cap, e⟩
      | succ m => simp at hz
    · have hr0 := hrep 0 z0 (by rw [hz0]; rfl)
      cases hs : isSlV z0 with
      | true =>
        simpa using hr0 hs
      | false =>
        obtain ⟨e1, e2⟩ := repO_isSc hx (c3 hs)
        simp only [cond_false]
        rw [e1]
        exact ⟨.lit _, hone⟩

theorem ansAllRoots_len (x : TV) : ∀ (ds : List TyD) (j : Nat), (ansAllRoots x ds j).length = (ds.map fun d => d.zero.length).sum
  | [], j => rfl
  | d :: ds, j => by simp [ansAllRoots, ansRoots_len, ansAllRoots_len x ds (j + 1)]

theorem ansSome_hits {T : Type} {x : TV} {vals : Nat → Value} {G : Nat → Nat → Prop} (hG : ∀ k k' b, G k b → G k' b → k = k') {k : Prg T} {e : T} : ∀ (ds : List TyD) (j : Nat), (∀ d ∈ ds, ∃ t, TyOk P t d) → (∀ m, m < ds.length → RepO w I (x.comp (j + m)) (vals (j + m)) (G (j + m))) → (ansSome x ds j k).hits C e →
    k.hits C e ∧ ∃ (us : List Value) (F : Nat → Nat → Prop), us.length = (ansAllRoots x ds j).length ∧ (∀ r y, (ansAllRoots x ds j)[r]? = some y → RepO w I y (us.getD r undef) (F r)) ∧ (∀ r b, F r b → ∃ m, j ≤ m ∧ G m b) ∧ (∀ r r' b, F r b → F r' b → r = r') ∧
      ∀ (g' : Gh) (look' : Look) (id r0 : Nat), (anySl ds = true → ∃ xs, look' id = some (.tree xs) ∧ ∀ r y, (ansAllRoots x ds j)[r]? = some y → xs[r0 + r]? = some y ∧ g'.ρ id (r0 + r) = us.getD r undef) →
        ∀ m b c, (ansAll id x ds j r0)[m]? = some (b, c) → RepCs w g' look' b c (vals (j + m))
  | [], j, hd, hr, h => ⟨h, [], fun _ _ => False, rfl, fun r y hy => by simp [ansAllRoots] at hy, fun _ _ h => h.elim, fun _ _ _ h => h.elim, fun g' look' id r0 _ m b c hc => by simp [ansAll] at hc⟩
  | d :: ds, j, hd, hr, h => by
    obtain ⟨t, ht⟩ := hd d (by simp)
    have h0 := hr 0 (by simp)
    simp only [Nat.add_zero] at h0
    obtain ⟨h1, us1, F1, a1, a2, a3, a4, a5, a6⟩ := ansOne_hits ht h0 h
    obtain ⟨h2, us2, F2, b1, b2, b3, b4, b5⟩ := ansSome_hits hG ds (j + 1) (fun d' hm => hd d' (List.mem_cons_of_mem _ hm)) (fun m hm => by
      have := hr (m + 1) (by simp; omega)
      rwa [show j + (m + 1) = j + 1 + m by omega] at this) h1
    have hlen : us1.length = (ansRoots d.zero (x.comp j) d.kd.isAgg 0).length := by rw [ansRoots_len, a1]
    have getL : ∀ r, r < us1.length → (us1 ++ us2).getD r undef = us1.getD r undef := fun r hr => by simp [List.getD_eq_getElem?_getD, List.getElem?_append_left hr]
    have getR : ∀ r, us1.length ≤ r → (us1 ++ us2).getD r undef = us2.getD (r - us1.length) undef := fun r hr => by simp [List.getD_eq_getElem?_getD, List.getElem?_append_right hr]
    refine ⟨h2, us1 ++ us2, fun r b => if r < us1.length then F1 r b else F2 (r - us1.length) b, by simp [ansAllRoots, hlen, b1], fun r y hy => ?_, fun r b hb => ?_, fun r r' b hb hb' => ?_, fun g' look' id r0 hroot m bb c hc => ?_⟩
    · simp only [ansAllRoots] at hy
      by_cases hlt : r < us1.length
      · rw [List.getElem?_append_left (by omega)] at hy
        rw [getL r hlt]
        simp only [hlt, if_true]
        exact a2 r y hy
      · rw [List.getElem?_append_right (by omega), ← hlen] at hy
        rw [getR r (by omega)]
        simp only [hlt, if_false]
        exact b2 _ y hy
    · by_cases hlt : r < us1.length
      · simp only [hlt, if_true] at hb
        exact ⟨j, Nat.le_refl _, a3 r b hb⟩
      · simp only [hlt, if_false] at hb
        obtain ⟨m, m1, m2⟩ := b3 _ b hb
        exact ⟨m, by omega, m2⟩
    · by_cases hlt : r < us1.length
      · simp only [hlt, if_true] at hb
        by_cases hlt' : r' < us1.length
        · simp only [hlt', if_true] at hb'
          exact a4 r r' b hb hb'
        · simp only [hlt', if_false] at hb'
          obtain ⟨m, m1, m2⟩ := b3 _ b hb'
          have := hG j m b (a3 r b hb) m2
          omega
      · simp only [hlt, if_false] at hb
        by_cases hlt' : r' < us1.length
        · simp only [hlt', if_true] at hb'
          obtain ⟨m, m1, m2⟩ := b3 _ b hb
          have := hG j m b (a3 r' b hb') m2
          omega
        · simp only [hlt', if_false] at hb'
          have := b4 _ _ b hb hb'
          omega
    · cases m with
      | zero =>
        simp only [ansAll, List.getElem?_cons_zero, Option.some.injEq, Prod.mk.injEq] at hc
        obtain ⟨rfl, rfl⟩ := hc
        refine a6 g' look' id r0 (fun q z hz hs => ?_)
        have hsl : hasSl d.zero = true := by
          cases hh : hasSl d.zero with
          | true => rfl
          | false => rw [hasSl_false hh q z hz] at hs; cases hs
        obtain ⟨xs, l1, l2⟩ := hroot (by simp [anySl, hsl])
        have hql : q < us1.length := by rw [a1]; exact (List.getElem?_eq_some_iff.1 hz).1
        obtain ⟨y, hy⟩ : ∃ y, (ansAllRoots x (d :: ds) j)[q]? = some y := ⟨_, List.getElem?_eq_getElem (by simp [ansAllRoots, ← hlen]; omega)⟩
        obtain ⟨l3, l4⟩ := l2 q y hy
        rw [getL q hql] at l4
        exact ⟨xs, y, y.nd, l1, l3, ⟨l4.symm, rfl⟩, a5 q z hz hs⟩
      | succ m =>
        simp only [ansAll, List.getElem?_cons_succ] at hc
        have := b5 g' look' id (r0 + d.zero.length) (fun hany => by
          obtain ⟨xs, l1, l2⟩ := hroot (by simp only [anySl, hany]; cases hasSl d.zero <;> rfl)
          refine ⟨xs, l1, fun r y hy => ?_⟩
          obtain ⟨l3, l4⟩ := l2 (d.zero.length + r) y (by simp only [ansAllRoots]; rw [List.getElem?_append_right (by rw [ansRoots_len]; omega), ansRoots_len]; simpa using hy)
          rw [getR _ (by omega)] at l4
          rw [Nat.add_assoc]
          exact ⟨l3, by rw [l4]; congr 1; omega⟩) m bb c hc
        rwa [show j + 1 + m = j + (m + 1) by omega] at this

theorem ansAll_len (id : Nat) (x : TV) : ∀ (ds : List TyD) (j r0 : Nat), (ansAll id x ds j r0).length = ds.length
  | [], j, r0 => rfl
  | d :: ds, j, r0 => by simp [ansAll, ansAll_len id x ds]

/-- What an answer brings. -/
theorem ans_sound {ps : List Prim} {st1 : ASt} (hs : SimI w0 I0 R g st1 a ov w) (h1 : primsApp dst ps st = some st1) (ho : st1.out.length = st.out.length) {ds : List TyD} (hds : ∀ d ∈ ds, ∃ t, TyOk P t d) {v : TV} {u : Value} {S : Nat → Prop}
    (hv : (∀ b, S b → R b) → RepO w g.I v u S ∨ (anySl ds = false ∧ ∃ I S, RepO w I v u S)) (hSR : ∀ b, S b → R b) {e : Eff} (hh : (ansO (st.nid dst) ds v ps).hits C e) (ha : e.app st dst = some st') : Sim w0 I0 st' (a.put dst u) ov w := by
  have hv := hv hSR
  have new : ∀ (xs : List TV) (av : AV) (us : List Value) (F : Nat → Nat → Prop), (mkNew ps (.tree xs) av).app st dst = some st' → (∀ r y, xs[r]? = some y → RepO w g.I y (us.getD r undef) (F r)) → (∀ r b, F r b → S b) → (∀ r r' b, F r b → F r' b → r = r') →
      (∀ g' look', look' (st.nid dst) = some (.tree xs) → (∀ r, g'.ρ (st.nid dst) r = us.getD r undef) → RepA w g' look' av u) → Sim w0 I0 st' (a.put dst u) ov w := by
    intro xs av us F ha hr hF hd hav
    obtain ⟨d, rfl, n1, n2, rfl⟩ := mkNew_app ha h1 ho
    obtain ⟨s1, s2⟩ := hs.newTree (xs := xs) n2 n1 hs.below (Nat.le_refl _) (fun _ _ _ => rfl) (fun r => us.getD r undef) F hr (fun r b _ hb => .inl (hSR b (hF r b hb))) (fun r r' b _ _ h h' => hd r r' b h h')
    refine ⟨_, s1.put (some d) (hav _ _ ?_ (fun r => by simp [Gh.setT]))⟩
    rw [look_setBox, if_pos ⟨rfl, n2⟩]
  have plain : ∀ (av : AV), (match ps with | [] => Eff.val av | _ => .gen ps av).app st dst = some st' → (∀ g' look', RepA w g' look' av u) → Sim w0 I0 st' (a.put dst u) ov w := by
    intro av ha hav
    have : st' = st1.put dst av := by
      cases ps with
      | nil =>
        simp only [primsApp, Option.some.injEq] at h1
        subst h1
        simp only [Eff.app, Option.some.injEq] at ha
        exact ha.symm
      | cons p l =>
        simp only [Eff.app, h1, Option.some.injEq] at ha
        exact ha.symm
    subst this
    exact ⟨_, (hs.weaken (R' := NoR) (fun _ h => h.elim)).put dst (hav _ _)⟩
  have single : ∀ d : TyD, ds = [d] → Sim w0 I0 st' (a.put dst u) ov w := by
    intro d e1
    subst e1
    obtain ⟨t, ht⟩ := hds d (by simp)
    simp only [ansO] at hh
    rcases hv with hv | ⟨hany, I', S', hv⟩
    · obtain ⟨hh, us, F, q1, q2, q3, q4, q5, q6⟩ := ansOne_hits ht hv hh
      split at hh
      · rename_i av hav
        cases hsl : hasSl d.zero with
        | true =>
          simp only [hsl, cond_true] at hh
          cases hh
          refine new _ av us F ha q2 q3 q4 (fun g' look' hl hρ => ofCells_rep hav (q6 g' look' _ 0 (fun m z hz hs => ?_)))
          have hlt : m < (ansRoots d.zero v d.kd.isAgg 0).length := by rw [ansRoots_len]; exact (List.getElem?_eq_some_iff.1 hz).1
          exact ⟨_, _, _, hl, by rw [Nat.zero_add]; exact List.getElem?_eq_getElem hlt, ⟨by rw [Nat.zero_add, hρ], rfl⟩, q5 m z hz hs⟩
        | false =>
          simp only [hsl, cond_false] at hh
          cases hh
          exact plain av ha (fun g' look' => ofCells_rep hav (q6 g' look' _ 0 (fun m z hz hs => by rw [hasSl_false hsl m z hz] at hs; cases hs)))
      · exact hh.elim
    · obtain ⟨hh, us, F, q1, q2, q3, q4, q5, q6⟩ := ansOne_hits ht hv hh
      have hsl : hasSl d.zero = false := by
        simp only [anySl] at hany
        cases hsl : hasSl d.zero with
        | true => simp [hsl] at hany
        | false => rfl
      split at hh
      · rename_i av hav
        simp only [hsl, cond_false] at hh
        cases hh
        exact plain av ha (fun g' look' => ofCells_rep hav (q6 g' look' _ 0 (fun m z hz hs => by rw [hasSl_false hsl m z hz] at hs; cases hs)))
      · exact hh.elim
  have many : (Prg.chk (v.isTup ds.length) (ansSome v ds 0 (bif anySl ds then .ret (mkNew ps (.tree (ansAllRoots v ds 0)) (.tups (ansAll (st.nid dst) v ds 0 0)))
      else .ret (match ps with | [] => .val (.tups (ansAll (st.nid dst) v ds 0 0)) | _ => .gen ps (.tups (ansAll (st.nid dst) v ds 0 0)))))).hits C e → Sim w0 I0 st' (a.put dst u) ov w := by
    rintro ⟨htup, hh⟩
    cases v with
    | tup cs =>
      simp only [TV.isTup, beq_iff] at htup
      have parts : ∀ (I' S' : Nat → Prop), RepO w I' (.tup cs) u S' → ∃ (vs : Array Value) (G : Nat → Nat → Prop), u = .tuple vs ∧ vs.size = ds.length ∧ (∀ m, m < ds.length → RepO w I' ((TV.tup cs).comp (0 + m)) (vs.getD (0 + m) undef) (G (0 + m))) ∧ (∀ m b, G m b → S' b) ∧ (∀ k k' b, G k b → G k' b → k = k') := by
        intro I' S' hv
        obtain ⟨vs, G, e1, e2, e3, e4, e5⟩ := hv.tups
        refine ⟨vs, G, e1, by rw [e2, htup], fun m hm => ?_, e4, e5⟩
        have hm' : m < cs.length := by omega
        rw [Nat.zero_add]
        have : (TV.tup cs).comp m = cs[m] := by simp only [TV.comp]; exact nth_some (List.getElem?_eq_getElem hm')
        rw [this]
        exact e3 m _ (List.getElem?_eq_getElem hm')
      rcases hv with hv | ⟨hany, I', S', hv⟩
      · obtain ⟨vs, G, rfl, p1, p2, p3, p4⟩ := parts _ _ hv
        obtain ⟨hh, us, F, q1, q2, q3, q4, q5⟩ := ansSome_hits (vals := fun m => vs.getD m undef) (G := G) p4 ds 0 hds p2 hh
        have tup : ∀ g' look' , (anySl ds = true → ∃ xs, look' (st.nid dst) = some (.tree xs) ∧ ∀ r y, (ansAllRoots (.tup cs) ds 0)[r]? = some y → xs[0 + r]? = some y ∧ g'.ρ (st.nid dst) (0 + r) = us.getD r undef) → RepA w g' look' (.tups (ansAll (st.nid dst) (.tup cs) ds 0 0)) (.tuple vs) := by
          intro g' look' hroot
          refine ⟨vs, rfl, by rw [ansAll_len, p1], fun j b c hj => ?_⟩
          have := q5 g' look' _ 0 hroot j b c hj
          rwa [Nat.zero_add] at this
        cases hany : anySl ds with
        | true =>
          simp only [hany, cond_true] at hh
          cases hh
          refine new _ _ us F ha q2 (fun r b hb => by obtain ⟨m, _, hm⟩ := q3 r b hb; exact p3 m b hm) q4 (fun g' look' hl hρ => tup g' look' (fun _ => ⟨_, hl, fun r y hy => ?_⟩))
          rw [Nat.zero_add]
          exact ⟨hy, hρ r⟩
        | false =>
          simp only [hany, cond_false] at hh
          cases hh
          exact plain _ ha (fun g' look' => tup g' look' (fun h => by rw [hany] at h; cases h))
      · obtain ⟨vs, G, rfl, p1, p2, p3, p4⟩ := parts _ _ hv
        obtain ⟨hh, us, F, q1, q2, q3, q4, q5⟩ := ansSome_hits (vals := fun m => vs.getD m undef) (G := G) p4 ds 0 hds p2 hh
        simp only [hany, cond_false] at hh
        cases hh
        refine plain _ ha (fun g' look' => ⟨vs, rfl, by rw [ansAll_len, p1], fun j b c hj => ?_⟩)
        have := q5 g' look' _ 0 (fun h => by rw [hany] at h; cases h) j b c hj
        rwa [Nat.zero_add] at this
    | _ => simp [TV.isTup] at htup
  match ds, hh, single, many with
  | [], hh, _, many => exact many hh
  | [d], hh, single, _ => exact single d rfl
  | d :: d' :: l, hh, _, many => exact many hh

theorem tysOf_ok (hE : ∀ t d, E.T t = some d → TyOk P t d) : ∀ {ts : List TypeId} {ds : List TyD}, tysOf E.T ts = some ds → ∀ d ∈ ds, ∃ t, TyOk P t d
  | [], ds, h => by simp [tysOf] at h; subst h; simp
  | t :: ts, ds, h => by
    simp only [tysOf] at h
    split at h
    · rename_i d ds' h1 h2
      cases h
      intro d' hm
      rcases List.mem_cons.1 hm with hm | hm
      · subst hm; exact ⟨t, hE _ _ h1⟩
      · exact tysOf_ok hE h2 d' hm
    · cases h

/-- What is known of the functions that are called. -/
def CalOk (P : Program) (E : Env) (C : Cal) : Prop := ∀ f xs r, C f xs r → CallOk P f xs r ∧ (E.pure f = true → isOwn r = true)

theorem callO_sound (hC : CalOk P E C) (hE : ∀ t d, E.T t = some d → TyOk P t d) (hlk : ∀ i b, look i = some b → st.look i = some b) (hs : SimI w0 I0 NoR g st a ov w) {f : FuncId} {args : Array Operand} {tys : Array TypeId} {cal : Operand} {e : Eff}
    (hres : ∀ vals : Array Value, vals = args.map a.eval → (callFunc f vals).run P w = .ok (.enter f vals) w → (execOp a.eval ⟨dst, .call ⟨.value cal, args, tys⟩, type, pos, after, guard⟩).run P w = .ok (.enter f vals) w)
    (hh : (callO E (st.nid dst) look f (args.toList.map st.ev)).hits C e) (ha : e.app st dst = some st') : Good P w0 I0 ov ⟨dst, .call ⟨.value cal, args, tys⟩, type, pos, after, guard⟩ st' a w Q := by
  have hevs := hs.evs args.toList
  have hgd : ∀ m, (args.toList.map a.eval).getD m undef = (args.map a.eval).getD m undef := fun m => by simp [Array.getD_eq_getD_getElem?, List.getD_eq_getElem?_getD]
  have wpc : ∀ {next : Act → World → Prop} {xs : List TV} {r : TV} (I' : Nat → Prop), C f xs r → xs.length = (args.toList.map st.ev).length → (∀ b, I' b → b < w.heap.size) → (∀ (j : Nat) (x : TV), xs[j]? = some x → Rep w I' x ((args.toList.map a.eval).getD j undef)) →
      (∀ v w' I2 S, Below w.heap.size w w' → (∀ b, I' b → I2 b) → (∀ b, I2 b → b < w'.heap.size) → (∀ b, b < w.heap.size → I2 b → I' b) → (∀ b, S b → w.heap.size ≤ b ∧ b < w'.heap.size ∧ ¬ I2 b) → RepO w' I2 r v S → next (a.put dst v) w') →
      Oper.wp P ⟨dst, .call ⟨.value cal, args, tys⟩, type, pos, after, guard⟩ a w next Q := by
    intro next xs r I' hc hl hlt hrep hn
    obtain ⟨hcf, hcalls⟩ := (hC f xs r hc).1 I' w (args.map a.eval) hlt (by rw [hl]; simp) (fun j x hx => by rw [← hgd]; exact hrep j x hx)
    unfold Oper.wp
    rw [hres _ rfl hcf]
    simp only [Oper.upon]
    refine hcalls.mono ?_
    rintro e w' ⟨v, rfl, hb, I2, S, h1, h2, h3, h4, h5⟩
    exact hn v w' I2 S hb h1 h2 h3 h4 h5
  simp only [callO] at hh
  split at hh
  · rename_i ds hds
    have htys := tysOf_ok hE hds
    cases hp : E.pure f || !anySl ds with
    | true =>
      simp only [hp, cond_true] at hh
      obtain ⟨xs, ⟨r, hc, hh⟩, hl, hrep⟩ := lends_hits hlk hs hevs hh
      refine wpc (fun b => b < w.heap.size) hc hl (fun _ h => h) (hrep _ ⟨hs.lt, fun i b h => (hs.foot i b h).2.1⟩) (fun v w' I2 S hb i1 i2 i3 i4 hv => ?_)
      have hnI : ∀ b, S b → ¬ g.I b := fun b hb h => by have := hs.lt b h; have := (i4 b hb).1; omega
      have hg := hs.grow hb (I' := g.I) (R' := S) (fun _ h => h) (fun b h => Nat.lt_of_lt_of_le (hs.lt b h) hb.size) (fun _ _ h => h) (fun b h => .inr ⟨(i4 b h).1, (i4 b h).2.1, hnI b h⟩)
      refine ans_sound (ps := []) hg rfl rfl htys (fun _ => ?_) (fun _ h => h) hh ha
      cases hpu : E.pure f with
      | true => exact .inl (hv.own ((hC f xs r hc).2 hpu))
      | false =>
        simp only [hpu, Bool.false_or, Bool.not_eq_true'] at hp
        exact .inr ⟨hp, _, _, hv⟩
    | false =>
      simp only [hp, cond_false] at hh
      obtain ⟨xs, rs, hh, hroots, hl, hrep⟩ := hands_hits hlk hs hevs hh
      cases hn : nodupP rs with
      | false => simp [hn, Prg.hits] at hh
      | true =>
        simp only [hn, cond_true] at hh
        obtain ⟨r, hc, hh⟩ := hh
        obtain ⟨st1, g1, f1, f2, f3, f4⟩ := freeze_state (dst := dst) rs hs hroots hn
        refine wpc g1.I hc hl f2.lt (hrep _ f3) (fun v w' I2 S hb i1 i2 i3 i4 hv => ?_)
        have hg := f2.grow hb (I' := I2) (R' := S) i1 i2 i3 (fun b h => .inr (i4 b h))
        exact ans_sound (ps := frzPs rs) hg f1 f4 htys (fun _ => .inl hv) (fun _ h => h) hh ha
  · exact hh.elim

theorem op_call (hC : CalOk P E C) (hE : ∀ t d, E.T t = some d → TyOk P t d) (hlk : ∀ i b, look i = some b → st.look i = some b) (hs : SimI w0 I0 NoR g st a ov w) {f : FuncId} {args : Array Operand} {tys : Array TypeId} {fv : AV} {e : Eff}
    (hh : (opL E (st.nid dst) look (.call ⟨.value (.func f), args, tys⟩) (fv :: args.toList.map st.ev)).hits C e) (ha : e.app st dst = some st') : Good P w0 I0 ov ⟨dst, .call ⟨.value (.func f), args, tys⟩, type, pos, after, guard⟩ st' a w Q := by
  refine callO_sound hC hE hlk hs (fun vals hv hcf => ?_) hh ha
  subst hv
  simp only [execOp, resolve, Act.eval, Deferred.ofValue, Sem.run_bind, Sem.run_pure, Result.andThen_ok, invoke]
  simpa using hcf

theorem fnOf_some {x : TV} {f : Nat} (h : fnOf x = some f) : x = .lit (.func (.func f) #[] #[]) := by
  unfold fnOf at h
  split at h
  · rename_i g ts fs
    cases hb : ts.size.beq 0 && fs.size.beq 0 with
    | false => simp [hb] at h
    | true =>
      simp only [hb, cond_true, Option.some.injEq] at h
      subst h
      simp only [Bool.and_eq_true] at hb
      have h1 := (beq_iff _ _).1 hb.1
      have h2 := (beq_iff _ _).1 hb.2
      rw [Array.eq_empty_of_size_eq_zero h1, Array.eq_empty_of_size_eq_zero h2]
  · cases h

theorem op_dyn (hC : CalOk P E C) (hlk : ∀ i b, look i = some b → st.look i = some b) (hs : SimI w0 I0 NoR g st a ov w) {t : Tmp} {args : Array Operand} {tys : Array TypeId} {e : Eff}
    (hh : (opL E id look (.call ⟨.value (.tmp t), args, tys⟩) (st.ev (.tmp t) :: args.toList.map st.ev)).hits C e) (ha : e.app st dst = some st') : Good P w0 I0 ov ⟨dst, .call ⟨.value (.tmp t), args, tys⟩, type, pos, after, guard⟩ st' a w Q := by
  simp only [opL] at hh
  split at hh
  · rename_i x hx
    obtain ⟨f, hf, hh⟩ := hh
    have := fnOf_some hf
    subst this
    have hev : a.eval (.tmp t) = .func (.func f) #[] #[] := rep_lit (tv_rep (hs.ev (.tmp t)) hx)
    obtain ⟨xs, ⟨r, hc, h1, hh⟩, hl, hrep⟩ := lends_hits hlk hs (hs.evs args.toList) hh
    have hgd : ∀ m, (args.toList.map a.eval).getD m undef = (args.map a.eval).getD m undef := fun m => by simp [Array.getD_eq_getD_getElem?, List.getD_eq_getElem?_getD]
    obtain ⟨hcf, hcalls⟩ := (hC f xs r hc).1 (fun b => b < w.heap.size) w (args.map a.eval) (fun _ h => h) (by rw [hl]; simp) (fun j x hx => by rw [← hgd]; exact hrep _ ⟨hs.lt, fun i b h => (hs.foot i b h).2.1⟩ j x hx)
    have hrun : (execOp a.eval ⟨dst, .call ⟨.value (.tmp t), args, tys⟩, type, pos, after, guard⟩).run P w = .ok (.enter f (args.map a.eval)) w := by
      simp only [execOp, resolve, hev, Deferred.ofValue, Sem.run_bind, Sem.run_pure, Result.andThen_ok, invoke]
      simpa using hcf
    rw [hits_vt hh] at ha
    simp only [Eff.app, Option.some.injEq] at ha
    subst ha
    unfold Good Oper.wp
    rw [hrun]
    simp only [Oper.upon]
    refine hcalls.mono ?_
    rintro e w' ⟨v, rfl, hb, I2, S, i1, i2, i3, i4, hv⟩
    have hg := hs.grow hb (I' := g.I) (R' := NoR) (fun _ h => h) (fun b h => Nat.lt_of_lt_of_le (hs.lt b h) hb.size) (fun _ _ h => h) (fun b h => h.elim)
    obtain ⟨e1, e2⟩ := repO_isSc hv h1
    refine ⟨_, hg.put dst (v := .one (.t r)) ?_⟩
    rw [e1]
    exact ⟨.lit _, scV_one e2⟩
  · exact hh.elim
end
end Go.Ab

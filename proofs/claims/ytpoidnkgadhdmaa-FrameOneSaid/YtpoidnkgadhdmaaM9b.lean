/- Writing into variables and trees. No condition but that the table of types is the program's. -/
import Derived.Test.YtpoidnkgadhdmaaM9
namespace Go.Ab
open Go.RowKit
set_option linter.unusedVariables false
section
variable {P : Program} {E : Env} {C : Cal} {w0 : Bs} {w w' : World} {I0 I R : Nat → Prop} {g g' : Gh} {st st' : ASt} {a : Act} {ov : List Value} {look : Look} {Q : Exit → Act → World → Prop} {id : Nat}
variable {dst : Option Tmp} {type : TypeId} {pos : String} {after : Array Edge} {guard : Option (Nat × Bool)}

theorem drops_app (i r : Nat) (js : List Nat) : ∀ (zs : List Value) (j : Nat) (st : ASt), ∃ f : CA → CA, primsApp dst (dropsAt i r js zs j) st = some (st.mapS f) ∧ f .junk = .junk ∧
    ∀ c, (f c = c ∧ c.okP (fun i' r' p => i' = i → r' = r → ∀ m z, zs[m]? = some z → isSlV z = true → leads false (js ++ [j + m]) p = false)) ∨ f c = .junk
  | [], j, st => ⟨_root_.id, by rw [mapS_id]; rfl, rfl, fun c => .inl ⟨rfl, by cases c <;> first | trivial | exact fun _ _ m z hz => by simp at hz⟩⟩
  | z :: zs, j, st => by
    cases hz : isSlV z with
    | false =>
      obtain ⟨f, h1, h0, h2⟩ := drops_app i r js zs (j + 1) st
      refine ⟨f, by simp only [dropsAt, hz, cond_false]; exact h1, h0, fun c => ?_⟩
      rcases h2 c with ⟨h3, h4⟩ | h3
      · refine .inl ⟨h3, ?_⟩
        have key : ∀ i' r' p, (i' = i → r' = r → ∀ m z, zs[m]? = some z → isSlV z = true → leads false (js ++ [j + 1 + m]) p = false) → (i' = i → r' = r → ∀ m z', (z :: zs)[m]? = some z' → isSlV z' = true → leads false (js ++ [j + m]) p = false) := by
          intro i' r' p hk e1 e2 m z' hm hs
          cases m with
          | zero => simp at hm; subst hm; rw [hz] at hs; cases hs
          | succ m => simp at hm; have := hk e1 e2 m z' hm hs; rwa [show j + 1 + m = j + (m + 1) by omega] at this
        cases c <;> first | trivial | exact key _ _ _ h4
      · exact .inr h3
    | true =>
      obtain ⟨f, h1, h0, h2⟩ := drops_app i r js zs (j + 1) (st.mapS (CA.drop i r (js ++ [j]) false))
      refine ⟨f ∘ CA.drop i r (js ++ [j]) false, by simp only [dropsAt, hz, cond_true, primsApp, Prim.app]; rw [h1, mapS_comp], by simp [CA.drop, h0], fun c => ?_⟩
      simp only [Function.comp]
      rcases drop_ok i r (js ++ [j]) false c with ⟨h3, h4⟩ | h3
      · rw [h3]
        rcases h2 c with ⟨h5, h6⟩ | h5
        · refine .inl ⟨h5, ?_⟩
          have key : ∀ i' r' p, (i' = i → r' = r → leads false (js ++ [j]) p = false) → (i' = i → r' = r → ∀ m z, zs[m]? = some z → isSlV z = true → leads false (js ++ [j + 1 + m]) p = false) → (i' = i → r' = r → ∀ m z', (z :: zs)[m]? = some z' → isSlV z' = true → leads false (js ++ [j + m]) p = false) := by
            intro i' r' p hk0 hk e1 e2 m z' hm hs
            cases m with
            | zero => exact hk0 e1 e2
            | succ m => simp at hm; have := hk e1 e2 m z' hm hs; rwa [show j + 1 + m = j + (m + 1) by omega] at this
          cases c <;> first | trivial | exact key _ _ _ h4 h6
        · exact .inr h5
      · rw [h3]
        exact .inr h0

/-- Cells of a tree's element are written. -/
theorem tree_write (hs : SimI w0 I0 R g st a ov w) {i r : Nat} {xs : List TV} {x : TV} {p : Way} {k j s n l cap : Nat} {ad : Addr} (hl : st.look i = some (.tree xs)) (hx : xs[r]? = some x)
    (hnode : Node w p x (g.ρ i r) (.slice (some ad) l cap) (some (s, n))) {sl : TV} (hg : getP p x = some sl) {e : List TV} (he : pel sl k = some e) {zs : List Value} (hz0 : 0 < zs.length) (hfit : fitsAt zs e j = true) {ys : List TV} {us : List Value} (hyl : ys.length = zs.length)
    (hul : us.length = ys.length) {x' : TV} (hset : setC p x k j ys = some x') {F : Nat → Nat → Prop} (hp : ∀ (m : Nat) (y : TV) (u : Value), ys[m]? = some y → us[m]? = some u → RepO w g.I y u (F m) ∧ u.oneCell' = true)
    (hFR : ∀ m b, F m b → R b) (hFd : ∀ m m' b, F m b → F m' b → m = m') (f : CA → CA)
    (hf : ∀ c, (f c = c ∧ c.okP (fun i' r' q => i' = i → r' = r → ∀ m z, zs[m]? = some z → isSlV z = true → leads false (wayJs p ++ [j + m]) q = false)) ∨ f c = .junk) :
    ∃ w' g', (storeCells (ad.add (k * s + j)) us).run P w = .ok () w' ∧ SimI w0 I0 NoR g' ((st.mapS f).setBox i (some (.tree (setNth xs r x')))) a ov w' := by
  have hrl : r < xs.length := (List.getElem?_eq_some_iff.1 hx).1
  have hfr : ∀ b, g.φ i r b → Foot g st.look i b := fun b hb => .inr ⟨xs, r, hl, hrl, hb⟩
  obtain ⟨v, Sy, s1, s2, s3, s4, s5⟩ := (hs.trees i xs hl r x hx).sub hg
  obtain ⟨e1, e2⟩ := Node.unique hnode s3
  subst e1
  obtain ⟨o, s', ys0, rfl, hke⟩ := pel_some he
  simp only [TV.nd, Option.some.injEq, Prod.mk.injEq] at e2
  obtain ⟨rfl, rfl⟩ := e2
  simp only [setC, hg] at hset
  cases o with
  | false => simp [setEl] at hset
  | true =>
    simp only [setEl, hke] at hset
    have hall : ∀ x ∈ ys0, x.length = s := by cases s1 with | fr h => cases h | sl _ _ _ _ _ _ hl => exact hl
    have hel : e.length = s := hall e (List.mem_of_getElem? hke)
    -- the old cells
    have hold : ∀ m, m < zs.length → ∃ c, e[j + m]? = some c ∧ (isSlV zs[m]! = true → c.isSl = true) ∧ (isSlV zs[m]! = false → c.isSc = true) := fun m hm => by
      obtain ⟨c, h1, h2, h3⟩ := fitsAt_spec hfit m _ (List.getElem?_eq_getElem hm)
      rw [getElem!_pos zs m hm]
      exact ⟨c, h1, h2, h3⟩
    have hje : j + ys.length ≤ e.length := by
      obtain ⟨c, h1, _⟩ := hold (zs.length - 1) (by omega)
      have := (List.getElem?_eq_some_iff.1 h1).1
      omega
    rw [setCells_eq ys e j hje, setNth_eq] at hset
    have hnI : ∀ b, Sy b → ¬ g.I b := fun b hb => (hs.foot i b (hfr b (s2 b hb))).2.2.1
    obtain ⟨a0, cap0, vs, ty, us0, w1, w2, w3, w4⟩ := s1.write hnI
    cases w1
    obtain ⟨f1, f2⟩ := flat_spl hall hke hje
    have hofs : k * s + j + us.length ≤ ys0.length * s := by rw [← flat_len hall]; omega
    have hfitv : ad.off + (k * s + j) + us.length ≤ vs.size := by
      have h1 := w3.fit
      have h2 := Nat.mul_le_mul_right s w3.le
      omega
    have hone : ∀ u ∈ us, u.oneCell' = true := fun u hu => by
      obtain ⟨m, hm, rfl⟩ := List.mem_iff_getElem.1 hu
      exact (hp m (ys[m]'(by omega)) _ (List.getElem?_eq_getElem (by omega)) (List.getElem?_eq_getElem hm)).2
    have hst := run_storeCells_at P ad.block (ad.off + (k * s + j)) ty us 0 vs w w3.heap (by simpa using hfitv) hone
    simp only [Nat.add_zero] at hst
    have hheap := setRow_heap w ad.block vs (vs.toList.take (ad.off + (k * s + j)) ++ us ++ vs.toList.drop (ad.off + (k * s + j) + us.length)).toArray ty (0, 0) w3.heap
    obtain ⟨W, hW⟩ : ∃ W, W = w.setRow ad.block (vs.toList.take (ad.off + (k * s + j)) ++ us ++ vs.toList.drop (ad.off + (k * s + j) + us.length)).toArray := ⟨_, rfl⟩
    rw [← hW] at hst hheap
    have hoth : ∀ b, b ≠ ad.block → W.heap[b]? = w.heap[b]? := fun b hb => by rw [hW]; exact setRow_other w ad.block b _ hb
    have hablk : w0.New ad.block := (hs.foot i _ (hfr _ (s2 _ w2))).1
    have hyu : ∀ (m : Nat) (c : TV), ys[m]? = some c → RepO w g.I c (us.getD m undef) (F m) := fun m c hc => by
      have hm : m < us.length := by have := (List.getElem?_eq_some_iff.1 hc).1; omega
      have := (hp m c us[m] hc (List.getElem?_eq_getElem hm)).1
      rw [List.getD_eq_getElem?_getD, List.getElem?_eq_getElem hm]
      exact this
    obtain ⟨n1, n2⟩ := w4 (k * s + j) ys us F W (ys0.set k (spl e j ys)) f2 hul hone hyu (fun m b hb h => (hs.foot i b (hfr b (s2 b h))).2.2.2 (hFR m b hb)) hFd (by rw [hheap]; rfl) hoth (by simp) (set_all hall (by rw [spl_len hje, hel])) f1
    obtain ⟨m1, m2⟩ := s5 W g.I (.sl true s (ys0.set k (spl e j ys))) x' _ hset (fun b hb => hoth b (fun e => hnI _ w2 (e ▸ hb))) (fun _ h => h) (fun b hb hn => hoth b (fun e => hn (e ▸ w2))) n1 (fun b hb hS => by
      rcases hb with hb | ⟨m, hb⟩
      · exact hb
      · exact absurd (hFR m b hb) (hs.foot i b (hfr b hS)).2.2.2)
    have hadd : ad.add (k * s + j) = ⟨ad.block, ad.off + (k * s + j), none⟩ := row_add ad w3.spot _
    rw [← hadd] at hst
    have hkeep : ∀ (q : Way) (v' : Value) (nd : Option (Nat × Nat)), (∀ m z, zs[m]? = some z → isSlV z = true → leads false (wayJs p ++ [j + m]) q = false) → IsSl v' → Node w q x (g.ρ i r) v' nd → Node W q x' (g.ρ i r) v' nd := by
      intro q v' nd hok hsl hn
      refine m2 q v' nd (fun q' hq' hn' => n2 q' v' nd (fun k1 j1 q1 hq1 hr1 => ?_) hn') hn
      subst hq1
      obtain ⟨o2, s2', xs2, a2, n2', cap2, e3, y3, u3, hx3, hu3, he3, hy3, hc3, hn3⟩ := hn'
      cases hx3
      have hj1 : j1 < s := by have := (List.getElem?_eq_some_iff.1 hy3).1; have := hall e3 (List.mem_of_getElem? he3); omega
      obtain ⟨m, hm⟩ : ∃ m, k1 * s + j1 = k * s + (j + m) := ⟨k1 * s + j1 - (k * s + j), by omega⟩
      have hmz : m < zs.length := by omega
      have hjm : j + m < s := by
        obtain ⟨c, h1, _⟩ := hold m hmz
        have := (List.getElem?_eq_some_iff.1 h1).1
        omega
      obtain ⟨d1, d2⟩ := div_unique hj1 hjm hm
      subst d1 d2
      rw [hke] at he3
      cases he3
      obtain ⟨c, h1, h2, h3⟩ := hold m hmz
      rw [hy3] at h1
      cases h1
      cases hz : isSlV zs[m]! with
      | true =>
        have := hok m zs[m] (List.getElem?_eq_getElem hmz) (by rw [← getElem!_pos zs m hmz]; exact hz)
        rw [hq', leads_app1] at this
        cases this
      | false =>
        obtain ⟨a', cap', u', S2, c1, c2, c3, c4, c5, c6, c7⟩ := s1.child hke hy3
        rw [hu3] at c1
        cases c1
        rw [hc3] at c2
        cases c2
        obtain ⟨q1', q2'⟩ := repO_isSc c4 (h3 hz)
        cases q1 with
        | nil =>
          obtain ⟨b1, b2, b3, hv⟩ := hsl
          rw [hn3.1] at hv
          rw [hv] at q2'
          simp [scV] at q2'
        | cons kj q3 =>
          obtain ⟨o4, s4, xs4, a4, n4, cap4, e4, y4, u4, hx4, _⟩ := hn3
          rw [q1'] at hx4
          cases hx4
    obtain ⟨r1, r2⟩ := hs.updRoot hl hx f (fun q => ∀ m z, zs[m]? = some z → isSlV z = true → leads false (wayJs p ++ [j + m]) q = false) hf (R' := NoR) (I' := g.I) m1 hkeep
      (by rw [hW]; exact hs.below.setRow hablk _) (by rw [hW]; simp) (fun b _ hb _ => hoth b (fun e => hb (e ▸ s2 _ w2)))
      (fun b hb => by
        rcases hb with hb | hb | ⟨m, hb⟩
        · exact .inl hb.1
        · exact .inl (s2 b hb)
        · exact .inr (.inl (hFR m b hb)))
      (fun b hb => hb.elim) (fun _ h => h) (fun _ h => .inl h) (fun b hb hS => by
        rcases hS with hS | hS | ⟨m, hS⟩
        · exact (hs.foot i b (hfr b hS.1)).2.2.1 hb
        · exact hnI b hS hb
        · exact (hs.res b (hFR m b hS)).2.2 hb)
    exact ⟨W, _, hst, r1⟩
end
end Go.Ab

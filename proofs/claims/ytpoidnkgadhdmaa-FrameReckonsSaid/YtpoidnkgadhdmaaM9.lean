/- What is stored moves into its place; writing into variables and trees. No condition but that the table of types is the program's. -/
import Derived.Test.YtpoidnkgadhdmaaM8
namespace Go.Ab
open Go.RowKit
set_option linter.unusedVariables false
section
variable {P : Program} {E : Env} {C : Cal} {w0 : Bs} {w w' : World} {I0 I R : Nat → Prop} {g g' : Gh} {st st' : ASt} {a : Act} {ov : List Value} {look : Look} {Q : Exit → Act → World → Prop} {id : Nat}
variable {dst : Option Tmp} {type : TypeId} {pos : String} {after : Array Edge} {guard : Option (Nat × Bool)}

theorem prims_append {ps qs : List Prim} {st : ASt} : primsApp dst (ps ++ qs) st = (primsApp dst ps st).bind (primsApp dst qs) := by
  induction ps generalizing st with
  | nil => rfl
  | cons p ps ih =>
    simp only [List.cons_append, primsApp]
    cases p.app st dst with
    | none => rfl
    | some s1 => exact ih

/-- What a state keeps of another one: as many slots and blocks; trees that nobody touched. -/
structure Kept (ts : List (Nat × Nat)) (g : Gh) (st : ASt) (g1 : Gh) (st1 : ASt) : Prop where
  slots : st1.slots.length = st.slots.length
  out : st1.out.length = st.out.length
  boxes : st1.boxes.length = st.boxes.length
  none : ∀ j, st.look j = none → st1.look j = none
  tree : ∀ j xs, (∀ r, memP j r ts = false) → st.look j = some (.tree xs) → st1.look j = some (.tree xs) ∧ g1.ρ j = g.ρ j ∧ g1.φ j = g.φ j
  root : ∀ j r xs x, memP j r ts = false → st.look j = some (.tree xs) → xs[r]? = some x → ∃ xs1, st1.look j = some (.tree xs1) ∧ xs1[r]? = some x ∧ g1.ρ j r = g.ρ j r ∧ g1.φ j r = g.φ j r
  I : ∀ b, g.I b → g1.I b
  cells : ∀ j cs, st.look j = some (.cells cs) → ∃ cs1, st1.look j = some (.cells cs1) ∧ cs1.length = cs.length ∧ g1.β j = g.β j

theorem Kept.refl (ts : List (Nat × Nat)) (g : Gh) (st : ASt) : Kept ts g st g st :=
  ⟨rfl, rfl, rfl, fun _ h => h, fun _ _ _ h => ⟨h, rfl, rfl⟩, fun _ _ xs _ _ h hx => ⟨xs, h, hx, rfl, rfl⟩, fun _ h => h, fun _ cs h => ⟨cs, h, rfl, rfl⟩⟩

theorem memP_iff (i r : Nat) : ∀ l : List (Nat × Nat), memP i r l = true ↔ (i, r) ∈ l
  | [] => by simp [memP]
  | (a, b) :: l => by
    simp only [memP, List.mem_cons, Prod.mk.injEq]
    cases h1 : a.beq i with
    | false =>
      have : a ≠ i := fun e => by subst e; simp at h1
      simp only [Bool.false_and, cond_false, memP_iff i r l]
      constructor
      · exact .inr
      · rintro (⟨e, _⟩ | h)
        · exact absurd e.symm this
        · exact h
    | true =>
      have e1 := (beq_iff _ _).1 h1
      subst e1
      cases h2 : b.beq r with
      | false =>
        have : b ≠ r := fun e => by subst e; simp at h2
        simp only [Bool.true_and, cond_false, memP_iff a r l]
        constructor
        · exact .inr
        · rintro (⟨_, e⟩ | h)
          · exact absurd e.symm this
          · exact h
      | true =>
        have e2 := (beq_iff _ _).1 h2
        subst e2
        simp
theorem memP_false (i r : Nat) (l : List (Nat × Nat)) : memP i r l = false ↔ (i, r) ∉ l := by
  rw [← memP_iff]; cases memP i r l <;> simp

/-- A cell that leads elsewhere is not forgotten. -/
theorem drop_other {i r i' r' : Nat} (h : ¬ (i' = i ∧ r' = r)) (c : CA) (hc : c.okP (fun a b _ => a = i' ∧ b = r')) : c.drop i r [] false = c := by
  have key : ∀ p, hitsAt i r [] false i' r' p = false := fun p => by
    simp only [hitsAt, leads_all, Bool.and_true]
    cases h1 : i.beq i' with
    | false => rfl
    | true =>
      cases h2 : r.beq r' with
      | false => rfl
      | true => exact absurd ⟨((beq_iff _ _).1 h1).symm, ((beq_iff _ _).1 h2).symm⟩ h
  cases c with
  | tptr a b p k j => obtain ⟨rfl, rfl⟩ := hc; simp [CA.drop, key]
  | sref a b p => obtain ⟨rfl, rfl⟩ := hc; simp [CA.drop, key]
  | swin a b p lo len => obtain ⟨rfl, rfl⟩ := hc; simp [CA.drop, key]
  | _ => rfl

theorem setRoot_tree {i r : Nat} {xs : List TV} {x : TV} (h : look i = some (.tree xs)) : setRoot look i r x = some (.tree (setNth xs r x)) := by simp [setRoot, h]

theorem isFr_rep {x : TV} {v : Value} {S : Nat → Prop} (h : RepO w I x v S) (hf : x.isFr = true) : Rep w I x v := by
  cases x with
  | lit z => exact (repO_lit h) ▸ .lit _
  | sl o s xs =>
    cases o with
    | false => exact repO_frz h
    | true => simp [TV.isFr] at hf
  | _ => simp [TV.isFr] at hf

/-- One cell that is stored: what it stands for, and the root that is given away for it. -/
theorem take_state (hs : SimI w0 I0 R g st a ov w) {i r : Nat} {xs : List TV} {x : TV} (hl : st.look i = some (.tree xs)) (hx : xs[r]? = some x) :
    ∃ st1 g1, primsApp dst [.drop i r [] false, .root i r .hole] st = some st1 ∧ SimI w0 I0 (fun b => R b ∨ g.φ i r b) g1 st1 a ov w ∧ g1.I = g.I ∧ Kept [(i, r)] g st g1 st1 ∧ (∀ b, g.φ i r b → ¬ R b) ∧
      (∀ c v, RepC w g st.look c v → RepC w g1 st1.look (c.drop i r [] false) v) := by
  obtain ⟨h1, h2, h3, h4⟩ := hs.take hl hx
  have hi := look_lt hl
  have hlm : (st.mapS (CA.drop i r [] false)).look i = some (.tree xs) := by rw [look_mapS, hl]; rfl
  refine ⟨_, _, by simp only [primsApp, Prim.app, setRoot_tree hlm], h1, rfl, ⟨?_, ?_, ?_, ?_, ?_, ?_, fun _ h => h, fun j cs hj => ?_⟩, h3, h4⟩
  · simp [ASt.setBox, ASt.mapS, mapAs_len]
  · simp [ASt.setBox, ASt.mapS, mapAs_len]
  · simp [ASt.setBox, ASt.mapS, setNth_eq, mapBs_len]
  · intro j hj
    have hne : i ≠ j := fun e => by subst e; rw [hl] at hj; cases hj
    rw [look_setBox, if_neg (fun h => hne h.1), look_mapS, hj]
    rfl
  · intro j ys hj hlj
    have hne : i ≠ j := fun e => by
      subst e
      have := hj r
      rw [memP_false] at this
      exact this (by simp)
    have hne' : j ≠ i := fun h => hne h.symm
    refine ⟨by rw [look_setBox, if_neg (fun h => hne h.1), look_mapS, hlj]; rfl, ?_, ?_⟩
    · funext k; simp [Gh.setR, hne']
    · funext k; simp [Gh.setR, hne']
  · intro j k ys y hm hlj hy
    rw [memP_false] at hm
    by_cases hij : i = j
    · subst hij
      rw [hl] at hlj
      cases hlj
      have hk : k ≠ r := fun e => hm (by rw [e]; simp)
      refine ⟨setNth xs r .hole, by rw [look_setBox, if_pos ⟨rfl, by rw [mapS_boxes]; exact hi⟩], by rw [setNth_eq, List.getElem?_set_ne (fun h => hk h.symm)]; exact hy, by simp [Gh.setR, hk], by simp [Gh.setR, hk]⟩
    · have hne' : j ≠ i := fun h => hij h.symm
      exact ⟨ys, by rw [look_setBox, if_neg (fun h => hij h.1), look_mapS, hlj]; rfl, hy, by simp [Gh.setR, hne'], by simp [Gh.setR, hne']⟩
  · have hij : i ≠ j := fun e => by subst e; rw [hl] at hj; cases hj
    exact ⟨_, by rw [look_setBox, if_neg (fun h => hij h.1), look_mapS, hj]; rfl, mapC_len _ _, rfl⟩

theorem Kept.trans {ts ts' : List (Nat × Nat)} {g g1 g2 : Gh} {st st1 st2 : ASt} (h : Kept ts g st g1 st1) (k : Kept ts' g1 st1 g2 st2) : Kept (ts ++ ts') g st g2 st2 := by
  have sp : ∀ j r, memP j r (ts ++ ts') = false → memP j r ts = false ∧ memP j r ts' = false := fun j r hm => by
    simp only [memP_false, List.mem_append, not_or] at hm ⊢
    exact hm
  refine ⟨k.slots.trans h.slots, k.out.trans h.out, k.boxes.trans h.boxes, fun j hj => k.none j (h.none j hj), fun j xs hm hl => ?_, fun j r xs x hm hl hx => ?_, fun b hb => k.I b (h.I b hb), fun j cs hj => (by
    obtain ⟨c1, e1, e2, e3⟩ := h.cells j cs hj
    obtain ⟨c2, f1, f2, f3⟩ := k.cells j c1 e1
    exact ⟨c2, f1, f2.trans e2, f3.trans e3⟩)⟩
  · obtain ⟨h1, h2, h3⟩ := h.tree j xs (fun r => (sp j r (hm r)).1) hl
    obtain ⟨k1, k2, k3⟩ := k.tree j xs (fun r => (sp j r (hm r)).2) h1
    exact ⟨k1, k2.trans h2, k3.trans h3⟩
  · obtain ⟨xs1, h1, h2, h3, h4⟩ := h.root j r xs x (sp j r hm).1 hl hx
    obtain ⟨xs2, k1, k2, k3, k4⟩ := k.root j r xs1 x (sp j r hm).2 h1 h2
    exact ⟨xs2, k1, k2, k3.trans h3, k4.trans h4⟩

/-- What becomes of a cell that is stored: it stands for good, or a root is given away. -/
inductive Gd where
  | fr (y : TV)
  | tk (i r : Nat) (x y : TV)
def Gd.y : Gd → TV
  | .fr y => y
  | .tk _ _ _ y => y
def Gd.qs : Gd → List Prim
  | .fr _ => []
  | .tk i r _ _ => [.drop i r [] false, .root i r .hole]
def Gd.ts : Gd → List (Nat × Nat)
  | .fr _ => []
  | .tk i r _ _ => [(i, r)]
def GdOk (w : World) (g : Gh) (look : Look) : Gd → Value → Prop
  | .fr y, u => Rep w g.I y u ∧ u.oneCell' = true
  | .tk i r x y, u => u.oneCell' = true ∧ (∃ xs, look i = some (.tree xs) ∧ xs[r]? = some x) ∧ ∀ (I S : Nat → Prop), RepO w I x (g.ρ i r) S → RepO w I y u S

theorem gather_hits {T : Type} (hlk : ∀ i b, look i = some b → st.look i = some b) (hs : SimI w0 I0 R g st a ov w) : ∀ {cs : List CA} {us : List Value} {k : List TV → List Prim → List (Nat × Nat) → Prg T} {e : T}, CR w g st.look cs us → (gatherO look cs k).hits C e →
    ∃ ds : List Gd, (k (ds.map Gd.y) (ds.flatMap Gd.qs) (ds.flatMap Gd.ts)).hits C e ∧ ds.length = cs.length ∧ ∀ (m : Nat) (d : Gd) (u : Value), ds[m]? = some d → us[m]? = some u → GdOk w g st.look d u
  | [], us, k, e, hcr, h => ⟨[], h, rfl, fun m d u hd => by simp at hd⟩
  | c :: l, us, k, e, hcr, h => by
    obtain ⟨u0, us', rfl⟩ : ∃ u0 us', us = u0 :: us' := by
      cases us with
      | nil => have := hcr.1; simp at this
      | cons u0 us' => exact ⟨u0, us', rfl⟩
    have hc := hcr.2 0 c u0 rfl rfl
    have hcr' : CR w g st.look l us' := ⟨by have := hcr.1; simpa using this, fun j c' u hc' hu' => hcr.2 (j + 1) c' u (by simpa using hc') (by simpa using hu')⟩
    have fin : ∀ (d : Gd), GdOk w g st.look d u0 → (gatherO look l fun xs ps ts => k (d.y :: xs) (d.qs ++ ps) (d.ts ++ ts)).hits C e → ∃ ds : List Gd, (k (ds.map Gd.y) (ds.flatMap Gd.qs) (ds.flatMap Gd.ts)).hits C e ∧ ds.length = (c :: l).length ∧ ∀ (m : Nat) (d : Gd) (u : Value), ds[m]? = some d → (u0 :: us')[m]? = some u → GdOk w g st.look d u := by
      intro d hd hh
      obtain ⟨ds, h1, h2, h3⟩ := gather_hits hlk hs hcr' hh
      refine ⟨d :: ds, by simpa using h1, by simp [h2], fun m d' u hm hu => ?_⟩
      cases m with
      | zero => simp at hm hu; subst hm hu; exact hd
      | succ m => simp at hm hu; exact h3 m d' u hm hu
    cases c with
    | t x =>
      simp only [gatherO] at h
      exact fin (.fr x) ⟨hc.1.1, hc.2⟩ (by simpa [Gd.y, Gd.qs, Gd.ts] using h)
    | sref i r p =>
      simp only [gatherO] at h
      split at h
      · rename_i x hx
        obtain ⟨xs, h1, h2⟩ := rootOf_some hx
        obtain ⟨xs', x', nd, g1, g2, g3, g4⟩ := hc.1
        rw [hlk _ _ h1] at g1
        cases g1
        rw [h2] at g2
        cases g2
        split at h
        · refine fin (.tk i r x x) ⟨hc.2, ⟨xs, hlk _ _ h1, h2⟩, fun I S hr => ?_⟩ (by simpa [Gd.y, Gd.qs, Gd.ts] using h)
          rw [g3.1]; exact hr
        · obtain ⟨y, hy, hf, h⟩ := h
          obtain ⟨_, S', r1, _⟩ := hs.at (hlk _ _ h1) h2 g3 hy
          exact fin (.fr y) ⟨isFr_rep r1 hf, hc.2⟩ (by simpa [Gd.y, Gd.qs, Gd.ts] using h)
      · exact h.elim
    | swin i r p lo len =>
      simp only [gatherO] at h
      split at h
      · rename_i x hx
        obtain ⟨xs, h1, h2⟩ := rootOf_some hx
        obtain ⟨xs', x', u, nd, g1, g2, g3, g4, g5⟩ := hc.1
        rw [hlk _ _ h1] at g1
        cases g1
        rw [h2] at g2
        cases g2
        split at h
        · obtain ⟨y, hy, h⟩ := h
          refine fin (.tk i r x y) ⟨hc.2, ⟨xs, hlk _ _ h1, h2⟩, fun I S hr => ?_⟩ (by simpa [Gd.y, Gd.qs, Gd.ts] using h)
          rw [← g3.1] at hr
          exact win_rep hr g3.2 g5 hy
        · obtain ⟨z, hz, y, hy, hf, h⟩ := h
          obtain ⟨e1, S', r1, _⟩ := hs.at (hlk _ _ h1) h2 g3 hz
          exact fin (.fr y) ⟨isFr_rep (win_rep r1 e1 g5 hy) hf, hc.2⟩ (by simpa [Gd.y, Gd.qs, Gd.ts] using h)
      · exact h.elim
    | _ => simp [gatherO, Prg.hits] at h

theorem gather_state : ∀ (ds : List Gd) {us : List Value} {st : ASt} {g : Gh} {R : Nat → Prop}, SimI w0 I0 R g st a ov w → us.length = ds.length → (∀ (m : Nat) (d : Gd) (u : Value), ds[m]? = some d → us[m]? = some u → GdOk w g st.look d u) → nodupP (ds.flatMap Gd.ts) = true →
    ∃ (st2 : ASt) (g2 : Gh) (R2 : Nat → Prop) (F : Nat → Nat → Prop), primsApp dst (ds.flatMap Gd.qs) st = some st2 ∧ SimI w0 I0 R2 g2 st2 a ov w ∧ g2.I = g.I ∧ Kept (ds.flatMap Gd.ts) g st g2 st2 ∧ (∀ b, R b → R2 b) ∧
      (∀ (m : Nat) (d : Gd) (u : Value), ds[m]? = some d → us[m]? = some u → RepO w g.I d.y u (F m) ∧ u.oneCell' = true) ∧ (∀ m b, F m b → R2 b ∧ ¬ R b) ∧ (∀ m m' b, F m b → F m' b → m = m')
  | [], us, st, g, R, hs, hl, hok, hn => ⟨st, g, R, fun _ _ => False, rfl, hs, rfl, Kept.refl _ _ _, fun _ h => h, fun m d u hd => by simp at hd, fun _ _ h => h.elim, fun _ _ _ h => h.elim⟩
  | d :: ds, us, st, g, R, hs, hl, hok, hn => by
    obtain ⟨u0, us', rfl⟩ : ∃ u0 us', us = u0 :: us' := by
      cases us with
      | nil => simp at hl
      | cons u0 us' => exact ⟨u0, us', rfl⟩
    have hl' : us'.length = ds.length := by simpa using hl
    have h0 := hok 0 d u0 rfl rfl
    have hok' : ∀ (m : Nat) (d' : Gd) (u : Value), ds[m]? = some d' → us'[m]? = some u → GdOk w g st.look d' u := fun m d' u hd hu => hok (m + 1) d' u (by simpa using hd) (by simpa using hu)
    cases d with
    | fr y =>
      obtain ⟨st2, g2, R2, F, h1, h2, h3, h4, h5, h6, h7, h8⟩ := gather_state ds hs hl' hok' (by simpa [Gd.ts] using hn)
      refine ⟨st2, g2, R2, fun m b => match m with | 0 => False | m + 1 => F m b, by simpa [Gd.qs] using h1, h2, h3, by simpa [Gd.ts] using h4, h5, fun m d u hd hu => ?_, fun m b hb => ?_, fun m m' b hb hb' => ?_⟩
      · cases m with
        | zero => simp at hd hu; subst hd hu; exact ⟨.fr h0.1, h0.2⟩
        | succ m => simp at hd hu; exact h6 m d u hd hu
      · cases m with
        | zero => exact hb.elim
        | succ m => exact h7 m b hb
      · cases m with
        | zero => exact hb.elim
        | succ m =>
          cases m' with
          | zero => exact hb'.elim
          | succ m' => rw [h8 m m' b hb hb']
    | tk i r x y =>
      obtain ⟨k1, ⟨xs, k2, k3⟩, k4⟩ := h0
      obtain ⟨st1, g1, t1, t2, t3, t4, t5, t6⟩ := take_state (dst := dst) hs k2 k3
      have hrep := k4 _ _ (hs.trees i xs k2 r x k3)
      simp only [List.flatMap_cons, Gd.ts, List.singleton_append, nodupP, Bool.and_eq_true, Bool.not_eq_true'] at hn
      obtain ⟨hn1, hn2⟩ := hn
      have hne : ∀ i' r' x' y', Gd.tk i' r' x' y' ∈ ds → memP i' r' [(i, r)] = false := fun i' r' x' y' hm => by
        rw [memP_false] at hn1 ⊢
        intro hin
        simp only [List.mem_singleton, Prod.mk.injEq] at hin
        obtain ⟨rfl, rfl⟩ := hin
        exact hn1 (List.mem_flatMap.2 ⟨_, hm, by simp [Gd.ts]⟩)
      obtain ⟨st2, g2, R2, F, h1, h2, h3, h4, h5, h6, h7, h8⟩ := gather_state ds t2 hl' (fun m d' u hd hu => by
        have hk := hok' m d' u hd hu
        cases d' with
        | fr y' => exact ⟨by rw [t3]; exact hk.1, hk.2⟩
        | tk i' r' x' y' =>
          obtain ⟨q1, ⟨xs', q2, q3⟩, q4⟩ := hk
          obtain ⟨xs1, z1, z2, z3, z4⟩ := t4.root i' r' xs' x' (hne i' r' x' y' (List.mem_of_getElem? hd)) q2 q3
          exact ⟨q1, ⟨xs1, z1, z2⟩, fun I S hr => q4 I S (by rw [← z3]; exact hr)⟩) hn2
      refine ⟨st2, g2, R2, fun m b => match m with | 0 => g.φ i r b | m + 1 => F m b, ?_, h2, h3.trans t3, by simpa [Gd.ts] using t4.trans h4, fun b hb => h5 b (.inl hb), fun m d u hd hu => ?_, fun m b hb => ?_, fun m m' b hb hb' => ?_⟩
      · simp only [List.flatMap_cons, Gd.qs]
        rw [prims_append, t1]
        exact h1
      · cases m with
        | zero => simp at hd hu; subst hd hu; exact ⟨hrep, k1⟩
        | succ m => simp at hd hu; have := h6 m d u hd hu; rw [t3] at this; exact this
      · cases m with
        | zero => exact ⟨h5 b (.inr hb), t5 b hb⟩
        | succ m => exact ⟨(h7 m b hb).1, fun h => (h7 m b hb).2 (.inl h)⟩
      · cases m with
        | zero =>
          cases m' with
          | zero => rfl
          | succ m' => exact absurd (.inr hb) (h7 m' b hb').2
        | succ m =>
          cases m' with
          | zero => exact absurd (.inr hb') (h7 m b hb).2
          | succ m' => rw [h8 m m' b hb hb']
end
end Go.Ab

/- Something is put behind a slice that nothing else leads to: that goes before or after whatever doesn't concern it. No condition. -/
import Derived.Test.YtpoidnkgadhdmaaM13c
namespace Go.Ab
open Go.RowKit
set_option linter.unusedVariables false

theorem memB_no {k : Nat} {l : List Nat} : (!memB k l) = true ↔ k ∉ l := by
  rw [Bool.not_eq_true']
  constructor
  · intro h hm
    rw [(memB_iff _ _).2 hm] at h
    cases h
  · intro h
    cases hb : memB k l with
    | false => rfl
    | true => exact absurd ((memB_iff _ _).1 hb) h

theorem slotsFree_iff {k s : Nat} : ∀ {l : List AV} {n : Nat}, slotsFree k s n l = true ↔ ∀ t, n + t ≠ s → k ∉ (nth (.one .junk) l t).refA
  | [], n => by simp [slotsFree, nth, AV.refA, refC]
  | v :: l, n => by
    simp only [slotsFree, Bool.and_eq_true, Bool.or_eq_true, slotsFree_iff (l := l) (n := n + 1), memB_no]
    constructor
    · rintro ⟨h1, h2⟩ t ht
      cases t with
      | zero =>
        rcases h1 with h1 | h1
        · exact absurd ((beq_iff _ _).1 h1) ht
        · exact h1
      | succ t => exact h2 t (by omega)
    · intro h
      refine ⟨?_, fun t ht => h (t + 1) (by omega)⟩
      by_cases hn : n = s
      · exact .inl ((beq_iff _ _).2 hn)
      · exact .inr (h 0 hn)
theorem boxesFree_iff {k : Nat} : ∀ {l : List (Option BC)}, boxesFree k l = true ↔ ∀ i b, nth none l i = some b → k ∉ b.refB
  | [] => by simp [boxesFree, nth]
  | some c :: l => by
    simp only [boxesFree, Bool.and_eq_true, boxesFree_iff (l := l), memB_no]
    constructor
    · rintro ⟨h1, h2⟩ i b hb
      cases i with
      | zero => simp only [nth, Option.some.injEq] at hb; subst hb; exact h1
      | succ i => exact h2 i b hb
    · intro h
      exact ⟨h 0 c rfl, fun i b hb => h (i + 1) b hb⟩
  | none :: l => by
    simp only [boxesFree, boxesFree_iff (l := l)]
    constructor
    · intro h2 i b hb
      cases i with
      | zero => simp only [nth, reduceCtorEq] at hb
      | succ i => exact h2 i b hb
    · intro h i b hb
      exact h (i + 1) b hb

/-- A slice that one slot alone leads to. -/
structure Pu (st : ASt) (s m k : Nat) : Prop where
  hk : k = st.base + m
  slot : nth (.one .junk) st.slots s = .one (.sref k 0 [])
  look : ∃ x, st.look k = some (.tree [x])
  slots : ∀ t, t ≠ s → k ∉ (nth (.one .junk) st.slots t).refA
  boxes : ∀ i b, st.look i = some b → k ∉ b.refB
  out : k ∉ refAs st.out

abbrev pushE (k : Nat) (y : TV) : Eff := .gen [.drop k 0 [] false, .root k 0 y] (.one (.sref k 0 []))
def pushSt (st : ASt) (d : Option Tmp) (s k : Nat) (y : TV) : ASt := ((st.put (some s) (.one .junk)).setBox k (some (.tree [y]))).put d (.one (.sref k 0 []))

theorem isRootAt_some {k : Nat} {v : AV} (h : isRootAt k v = true) : v = .one (.sref k 0 []) := by
  unfold isRootAt at h
  split at h
  · rw [(beq_iff _ _).1 h]
  · cases h
theorem isTree1_some {b : Option BC} (h : isTree1 b = true) : ∃ x, b = some (.tree [x]) := by
  unfold isTree1 at h
  split at h
  · exact ⟨_, rfl⟩
  · cases h

theorem pushOk_spec {o : Item} {st : ASt} {e : Eff} (h : pushOk o st e = true) : ∃ s y, pushSlot o.o.op = some s ∧ e = pushE (st.base + o.root) y ∧ Pu st s o.root (st.base + o.root) := by
  unfold pushOk at h
  split at h
  · rename_i s i y h1 h2
    simp only [Bool.and_eq_true] at h
    obtain ⟨⟨⟨⟨⟨a1, a2⟩, a3⟩, a4⟩, a5⟩, a6⟩ := h
    have a1 := (beq_iff _ _).1 a1
    subst a1
    exact ⟨s, y, h1, pushParts_some h2, rfl, isRootAt_some a2, isTree1_some a3, fun t ht => slotsFree_iff.1 a4 t (by omega), boxesFree_iff.1 a5, memB_no.1 a6⟩
  · cases h
theorem pushOk_intro {o : Item} {st : ASt} {s k : Nat} {y : TV} (hs : pushSlot o.o.op = some s) (pu : Pu st s o.root k) : pushOk o st (pushE k y) = true := by
  obtain ⟨x, hx⟩ := pu.look
  unfold pushOk
  simp only [hs, pushParts_gen, Bool.and_eq_true]
  refine ⟨⟨⟨⟨⟨(beq_iff _ _).2 pu.hk, ?_⟩, ?_⟩, slotsFree_iff.2 (fun t ht => pu.slots t (by omega))⟩, boxesFree_iff.2 pu.boxes⟩, memB_no.2 pu.out⟩
  · rw [pu.slot]; exact (beq_iff _ _).2 rfl
  · rw [hx]; rfl

/-! ### who leads nowhere there stays as it is -/
theorem drop_id {k : Nat} {c : CA} (h : k ∉ refC c) : CA.drop k 0 [] false c = c := by
  have key : ∀ {i r : Nat} {p : Way}, k ≠ i → hitsAt k 0 [] false i r p = false := fun {i r p} hne => by
    have : k.beq i = false := by
      cases hb : k.beq i with
      | false => rfl
      | true => exact absurd ((beq_iff _ _).1 hb) hne
    simp only [hitsAt, this, Bool.false_and]
  cases c <;> first
    | rfl
    | (simp only [refC, List.mem_singleton] at h; simp only [CA.drop, key h, cond_false])
theorem dropCs_id {k : Nat} : ∀ {l : List CA}, k ∉ refCs l → mapC (CA.drop k 0 [] false) l = l
  | [], _ => rfl
  | c :: l, h => by
    simp only [refCs, List.mem_append, not_or] at h
    simp only [mapC, drop_id h.1, dropCs_id h.2]
theorem dropTs_id {k : Nat} : ∀ {l : List (Bool × List CA)}, k ∉ refTs l → mapT (CA.drop k 0 [] false) l = l
  | [], _ => rfl
  | (b, c) :: l, h => by
    simp only [refTs, List.mem_append, not_or] at h
    simp only [mapT, dropCs_id h.1, dropTs_id h.2]
theorem dropA_id {k : Nat} {v : AV} (h : k ∉ v.refA) : v.mapA (CA.drop k 0 [] false) = v := by
  cases v <;> simp only [AV.refA] at h <;> simp only [AV.mapA]
  · rw [drop_id h]
  · rw [dropCs_id h]
  · rw [dropTs_id h]
theorem dropAs_id {k : Nat} : ∀ {l : List AV}, (∀ t, k ∉ (nth (.one .junk) l t).refA) → mapAs (CA.drop k 0 [] false) l = l
  | [], _ => rfl
  | v :: l, h => by
    simp only [mapAs]
    rw [dropA_id (v := v) (h 0), dropAs_id (fun t => h (t + 1))]
theorem refAs_free {k : Nat} : ∀ {l : List AV}, k ∉ refAs l → ∀ t, k ∉ (nth (.one .junk) l t).refA
  | [], _, t => by simp [nth, AV.refA, refC]
  | v :: l, h, t => by
    simp only [refAs, List.mem_append, not_or] at h
    cases t with
    | zero => exact h.1
    | succ t => exact refAs_free h.2 t
theorem dropBs_id {k : Nat} : ∀ {l : List (Option BC)}, (∀ i b, nth none l i = some b → k ∉ b.refB) → mapBs (CA.drop k 0 [] false) l = l
  | [], _ => rfl
  | some b :: l, h => by
    simp only [mapBs]
    rw [dropBs_id (fun i b hb => h (i + 1) b hb)]
    have := h 0 b rfl
    cases b with
    | cells cs => simp only [BC.mapB]; rw [dropCs_id this]
    | tree xs => rfl
  | none :: l, h => by
    simp only [mapBs]
    rw [dropBs_id (fun i b hb => h (i + 1) b hb)]
theorem dropSlots {k : Nat} : ∀ {l : List AV} {s : Nat}, nth (.one .junk) l s = .one (.sref k 0 []) → (∀ t, t ≠ s → k ∉ (nth (.one .junk) l t).refA) → mapAs (CA.drop k 0 [] false) l = setNth l s (.one .junk)
  | [], s, h, _ => by simp [nth] at h
  | v :: l, 0, h, hf => by
    simp only [nth] at h
    subst h
    simp only [mapAs, setNth]
    rw [dropAs_id (fun t => hf (t + 1) (by omega))]
    simp [AV.mapA, CA.drop, hitsAt, leads]
  | v :: l, s + 1, h, hf => by
    simp only [mapAs, setNth]
    rw [dropA_id (v := v) (hf 0 (by omega)), dropSlots (s := s) h (fun t ht => hf (t + 1) (by omega))]

theorem push_app {st : ASt} {s m k : Nat} {y : TV} {d : Option Tmp} (pu : Pu st s m k) : (pushE k y).app st d = some (pushSt st d s k y) := by
  obtain ⟨x, hx⟩ := pu.look
  have h1 : st.mapS (CA.drop k 0 [] false) = st.put (some s) (.one .junk) := by
    simp only [ASt.mapS, ASt.put]
    rw [dropSlots pu.slot pu.slots, dropBs_id pu.boxes, dropAs_id (refAs_free pu.out)]
  have h2 : (st.put (some s) (.one .junk)).look k = some (.tree [x]) := by rw [look_put]; exact hx
  simp only [Eff.app, primsApp, Prim.app, h1, setRoot, h2, setNth, pushSt]

section
variable {E : Env} {C : Cal} {st s1 s2 : ASt} {d : Option Tmp} {e : Eff} {s m k : Nat} {y : TV}
theorem nth_self {l : List AV} {t : Nat} {v : AV} : nth (.one .junk) (setNth l t v) t = v ∨ nth (.one .junk) (setNth l t v) t = .one .junk := by
  rw [nth_eq, setNth_eq, List.getElem?_set]
  by_cases h : t < l.length
  · left; simp [h]
  · right; simp [h]

/-- What grows a state, or only tells a value. -/
theorem grow_facts (hv : isVal e ∨ isNew e) (ha : e.app st d = some s1) : SameBut d s1 st ∧ s1.out = st.out ∧ (∀ j b, st.look j = some b → s1.look j = some b) ∧
    (∀ j b, s1.look j = some b → st.look j = some b ∨ ((∀ r ∈ b.refB, r ∈ effRefs e) ∧ ∃ dd, d = some dd ∧ j = st.base + dd ∧ isNew e)) ∧ (∀ t, d = some t → ∀ r ∈ (nth (.one .junk) s1.slots t).refA, r ∈ effRefs e) := by
  have hp : e.plain = true := by rcases hv with ⟨v, rfl⟩ | ⟨b, v, rfl⟩ <;> rfl
  obtain ⟨p1, _, p3⟩ := plain_app hp ha
  refine ⟨p1, p3, ?_⟩
  rcases hv with ⟨v, rfl⟩ | ⟨b, v, rfl⟩
  · simp only [Eff.app, Option.some.injEq] at ha
    subst ha
    refine ⟨fun j b h => by rw [look_put]; exact h, fun j b h => by rw [look_put] at h; exact .inl h, fun t ht r hr => ?_⟩
    subst ht
    simp only [ASt.put] at hr
    rcases nth_self (l := st.slots) (t := t) (v := v) with h | h
    · rw [h] at hr; exact hr
    · rw [h] at hr; cases hr
  · obtain ⟨dd, rfl, h1, h2, rfl⟩ := app_newN ha
    refine ⟨fun j c h => ?_, fun j c h => ?_, fun t ht r hr => ?_⟩
    · rw [look_put, look_setBox, if_neg (fun hh => by rw [hh.1, h] at h1; cases h1)]; exact h
    · rw [look_put, look_setBox] at h
      by_cases hj : st.nid (some dd) = j ∧ st.nid (some dd) < st.boxes.length
      · rw [if_pos hj] at h
        simp only [Option.some.injEq] at h
        subst h
        exact .inr ⟨fun r hr => List.mem_append_left _ hr, dd, rfl, hj.1.symm, b, v, rfl⟩
      · rw [if_neg hj] at h; exact .inl h
    · have ht := Option.some.inj ht
      subst ht
      simp only [ASt.put, ASt.setBox] at hr
      rcases nth_self (l := st.slots) (t := dd) (v := v) with h | h
      · rw [h] at hr; exact List.mem_append_right _ hr
      · rw [h] at hr; cases hr

theorem clean_mem {ps : List Nat} (h : cleanE ps st d e = true) (hs : s ∈ ps) : st.base + s ∉ effRefs e ∧ ∀ t, d = some t → st.base + s ∉ (nth (.one .junk) st.slots t).refA := by
  unfold cleanE at h
  rw [List.all_eq_true] at h
  have := h s hs
  rw [Bool.and_eq_true] at this
  refine ⟨memB_no.1 this.1, fun t ht => ?_⟩
  subst ht
  exact memB_no.1 this.2

theorem Pu.back (pu : Pu s1 s m k) (hv : isVal e ∨ isNew e) (ha : e.app st d = some s1) (hd : d ≠ some s) (hdm : d ≠ some m) (hc : ∀ t, d = some t → k ∉ (nth (.one .junk) st.slots t).refA) : Pu st s m k := by
  obtain ⟨f1, f2, f3, f4, f5⟩ := grow_facts hv ha
  have hb : s1.base = st.base := by simp [ASt.base, f2]
  have hk := pu.hk
  rw [hb] at hk
  refine ⟨hk, by rw [← f1.2 s hd]; exact pu.slot, ?_, fun t ht => ?_, fun i b hi => pu.boxes i b (f3 i b hi), by rw [← f2]; exact pu.out⟩
  · obtain ⟨x, hx⟩ := pu.look
    rcases f4 k _ hx with h | ⟨_, dd, hdd, h, _⟩
    · exact ⟨x, h⟩
    · exact absurd (Nat.add_left_cancel (h.symm.trans hk)) (fun h => hdm (by rw [hdd]; exact congrArg some h))
  · by_cases hdt : d = some t
    · exact hc t hdt
    · rw [← f1.2 t hdt]; exact pu.slots t ht
theorem Pu.fwd (pu : Pu st s m k) (hv : isVal e ∨ isNew e) (ha : e.app st d = some s1) (hd : d ≠ some s) (hc : k ∉ effRefs e) : Pu s1 s m k := by
  obtain ⟨f1, f2, f3, f4, f5⟩ := grow_facts hv ha
  have hb : s1.base = st.base := by simp [ASt.base, f2]
  refine ⟨by rw [hb]; exact pu.hk, by rw [f1.2 s hd]; exact pu.slot, ?_, fun t ht => ?_, fun i b hi => ?_, by rw [f2]; exact pu.out⟩
  · obtain ⟨x, hx⟩ := pu.look
    exact ⟨x, f3 k _ hx⟩
  · by_cases hdt : d = some t
    · exact fun hm => hc (f5 t hdt k hm)
    · rw [f1.2 t hdt]; exact pu.slots t ht
  · rcases f4 i b hi with h | ⟨h, _⟩
    · exact pu.boxes i b h
    · exact fun hm => hc (h k hm)

theorem unlike_some {s : Nat} (h : d ≠ some s) : unlike d (some s) = true := by
  cases d with
  | none => rfl
  | some d => exact unlike_of (fun e => h (by rw [e]))

theorem pushSt_put {dx dy : Option Tmp} {v : AV} (hds : dx ≠ some s) (hu : unlike dx dy = true) : pushSt (st.put dx v) dy s k y = (pushSt st dy s k y).put dx v := by
  simp only [pushSt]
  rw [put_comm _ (unlike_some hds), setBox_put, put_comm _ hu]
theorem pushSt_box {dy : Option Tmp} {i : Nat} {b : Option BC} (hi : k ≠ i) : pushSt (st.setBox i b) dy s k y = (pushSt st dy s k y).setBox i b := by
  simp only [pushSt]
  rw [setBox_put _ i b dy, show (st.setBox i b).put (some s) (.one .junk) = (st.put (some s) (.one .junk)).setBox i b from (setBox_put ..).symm, setBox_comm _ (fun h => hi h.symm)]
theorem pushSt_nid {dy : Option Tmp} (d' : Option Tmp) : (pushSt st dy s k y).nid d' = st.nid d' := by
  simp only [pushSt]
  rw [nid_put, nid_setBox, nid_put]
theorem pushSt_look {dy : Option Tmp} {j : Nat} (hj : k ≠ j) : (pushSt st dy s k y).look j = st.look j := by
  simp only [pushSt]
  rw [look_put, look_setBox, if_neg (fun h => hj h.1), look_put]
theorem pushSt_len {dy : Option Tmp} : (pushSt st dy s k y).boxes.length = st.boxes.length := by
  simp only [pushSt]
  rw [boxes_put]
  simp only [ASt.setBox, setNth_eq, List.length_set, boxes_put]
theorem pushSt_out {dy : Option Tmp} : (pushSt st dy s k y).out = st.out := by
  simp only [pushSt]
  rw [out_put]
  simp only [ASt.setBox, out_put]
theorem pushSt_slot {dy : Option Tmp} {t : Nat} (h1 : t ≠ s) (h2 : dy ≠ some t) : nth (.one .junk) (pushSt st dy s k y).slots t = nth (.one .junk) st.slots t := by
  simp only [pushSt]
  rw [nth_put _ _ _ _ h2]
  show nth (.one .junk) (st.put (some s) (.one .junk)).slots t = _
  rw [nth_put _ _ _ _ (fun e => h1 (Option.some.inj e).symm)]

theorem grow_push {dx dy : Option Tmp} (hv : isVal e ∨ isNew e) (ha : e.app st dx = some s1) (hds : dx ≠ some s) (hdm : dx ≠ some m) (hu : unlike dx dy = true) (hk : k = st.base + m) : e.app (pushSt st dy s k y) dx = some (pushSt s1 dy s k y) := by
  rcases hv with ⟨v, rfl⟩ | ⟨b, v, rfl⟩
  · simp only [Eff.app, Option.some.injEq] at ha
    subst ha
    simp only [Eff.app, pushSt_put hds hu]
  · obtain ⟨dd, rfl, h1, h2, rfl⟩ := app_newN ha
    have hne : k ≠ st.nid (some dd) := fun h => hdm (congrArg some (Nat.add_left_cancel (h.symm.trans hk : st.base + dd = st.base + m)))
    rw [new_app (by rw [pushSt_nid, pushSt_look hne]; exact h1) (by rw [pushSt_nid, pushSt_len]; exact h2), pushSt_nid, pushSt_put hds hu, pushSt_box hne]
theorem push_grow {dx dy : Option Tmp} (hv : isVal e ∨ isNew e) (ha : e.app (pushSt st dx s k y) dy = some s2) (hdm : dy ≠ some m) (hk : k = st.base + m) : ∃ s1, e.app st dy = some s1 := by
  rcases hv with ⟨v, rfl⟩ | ⟨b, v, rfl⟩
  · exact ⟨_, rfl⟩
  · obtain ⟨dd, rfl, h1, h2, rfl⟩ := app_newN ha
    have hne : k ≠ st.nid (some dd) := fun h => hdm (congrArg some (Nat.add_left_cancel (h.symm.trans hk : st.base + dd = st.base + m)))
    rw [pushSt_nid, pushSt_look hne] at h1
    rw [pushSt_nid, pushSt_len] at h2
    exact ⟨_, new_app h1 h2⟩
end

section
variable {E : Env} {C : Cal} {st s1 s2 : ASt} {x y : Item} {s : Nat}

theorem pushSlot_ops {o : Op} (h : pushSlot o = some s) : clsOf o = .P ∧ s ∈ tmpsOf o.operands.toList := by
  unfold pushSlot at h
  split at h
  · rename_i l h1 h2
    simp only [Option.some.injEq] at h
    subst h
    rw [h2]
    exact ⟨h1, List.mem_cons_self⟩
  · cases h

/-- What a plain step of no store does. -/
theorem StepP.grows (hd : x.dr = true) (hx : (clsOf x.o.op).isX = false) (hw : clsOf x.o.op ≠ .W) {e : Eff}
    (h1 : (opL E (st.nid x.o.dst) (banned (banAt x.ban st.base) st.look) x.o.op (x.o.op.operands.toList.map st.ev)).hits C e)
    (h2 : x.dr = true → (e.plain = true ∧ e.inOwn st.base x.own = true) ∧ cleanE x.push st x.o.dst e = true) :
    (isVal e ∨ isNew e) ∧ (isNew e → (clsOf x.o.op).makes = true) := by
  have mx := move_of hx (h2 hd).1.1 h1
  cases mx with
  | val v h => exact ⟨.inl ⟨v, rfl⟩, fun ⟨b, v', h⟩ => by cases h⟩
  | new b v h => exact ⟨.inr ⟨b, v, rfl⟩, fun _ => by rcases h with h | h | h <;> rw [h] <;> rfl⟩
  | upd i b v h hl => exact absurd h hw

theorem nfE_grows {e : Eff} (h : isVal e ∨ isNew e) : (isVal e.nfE ∨ isNew e.nfE) ∧ (isNew e.nfE → isNew e) := by
  rcases h with ⟨v, rfl⟩ | ⟨b, v, rfl⟩
  · exact ⟨.inl ⟨_, rfl⟩, fun ⟨b, v', h⟩ => by cases h⟩
  · exact ⟨.inr ⟨_, _, rfl⟩, fun _ => ⟨_, _, rfl⟩⟩

theorem inOwn_grows {e : Eff} (h : isVal e ∨ isNew e) (b : Nat) (l : List (List Nat × List Nat)) : e.inOwn b l = true := by
  rcases h with ⟨v, rfl⟩ | ⟨b, v, rfl⟩ <;> rfl
theorem plain_grows {e : Eff} (h : isVal e ∨ isNew e) : e.plain = true := by
  rcases h with ⟨v, rfl⟩ | ⟨b, v, rfl⟩ <;> rfl

theorem ban_in {d : Nat} {ban : List Nat × List Nat} {b : Nat} (h : d ∈ ban.1) : b + d ∈ banAt ban b := List.mem_append_left _ (List.mem_map.2 ⟨d, h, rfl⟩)

theorem pushSt_evs {dy : Option Tmp} {k : Nat} {z : TV} {l : List Operand} (h1 : s ∉ tmpsOf l) (h2 : freeOf dy (tmpsOf l) = true) : l.map (pushSt st dy s k z).ev = l.map st.ev := by
  apply List.map_congr_left
  intro o ho
  cases o with
  | tmp t =>
    have ht := tmpsOf_mem ho
    exact pushSt_slot (fun e => h1 (e ▸ ht)) (fun e => freeOf_spec h2 t e ht)
  | const v => cases v <;> rfl
  | _ => rfl

/-- Something that grows a state, and then a push: the push may go first. -/
theorem push_late (hs : pushSlot y.o.op = some s) (hxd : x.dr = true) (hxx : (clsOf x.o.op).isX = false) (hxw : clsOf x.o.op ≠ .W) (hfx : freeOf x.o.dst (tmpsOf y.o.op.operands.toList) = true)
    (hfy : freeOf y.o.dst (tmpsOf x.o.op.operands.toList) = true) (hu : unlike x.o.dst y.o.dst = true) (hns : s ∉ tmpsOf x.o.op.operands.toList) (hbx : (clsOf x.o.op).makes = true → ∀ d, x.o.dst = some d → d ∈ y.ban.1)
    (hsx : y.root ∈ x.ban.1) (hpx : y.root ∈ x.push) (hdm : x.o.dst ≠ some y.root) (h1 : StepP E C x st s1) (h2 : StepPush E C y s1 s2) : ∃ s1', StepPush E C y st s1' ∧ StepP E C x s1' s2 := by
  obtain ⟨ex, hhx, cx, ax⟩ := h1
  obtain ⟨ey, hhy, oy, ay⟩ := h2
  obtain ⟨s', z, hs', rfl, pu⟩ := pushOk_spec oy
  rw [hs] at hs'
  cases hs'
  obtain ⟨gx, mkx⟩ := StepP.grows hxd hxx hxw hhx cx
  obtain ⟨gx', mkx'⟩ := nfE_grows gx
  obtain ⟨f1, f2, f3, f4, f5⟩ := grow_facts gx' ax
  have hb : s1.base = st.base := by simp [ASt.base, f2]
  have hn : ∀ d, s1.nid d = st.nid d := fun d => by cases d <;> simp [ASt.nid, f2]
  have hds : x.o.dst ≠ some s := fun e => freeOf_spec hfx s e (pushSlot_ops hs).2
  obtain ⟨c1, c2⟩ := clean_mem (cx hxd).2 hpx
  have pu0 : Pu st s y.root (s1.base + y.root) := pu.back gx' ax hds hdm (by rw [hb]; exact c2)
  have ay' : (pushE (s1.base + y.root) z).app s1 y.o.dst = some s2 := ay
  rw [push_app pu] at ay'
  simp only [Option.some.injEq] at ay'
  subst ay'
  have hk : s1.base + y.root = st.base + y.root := by rw [hb]
  refine ⟨pushSt st y.o.dst s (s1.base + y.root) z, ⟨pushE (s1.base + y.root) z, ?_, pushOk_intro hs pu0, push_app pu0⟩, ⟨ex, ?_, fun hd => ⟨⟨plain_grows gx, inOwn_grows gx _ _⟩, ?_⟩, grow_push gx' ax hds hdm hu hk⟩⟩
  · rw [evs_same f1 hfx, hn, hb] at hhy
    have : banned (banAt y.ban st.base) st.look = banned (banAt y.ban st.base) s1.look := by
      refine banned_congr (fun j hj => ?_)
      cases hl : s1.look j with
      | none =>
        cases hl0 : st.look j with
        | none => rfl
        | some b => rw [f3 j b hl0] at hl; cases hl
      | some b =>
        rcases f4 j b hl with h | ⟨_, dd, hdd, h, hnew⟩
        · exact h
        · exfalso
          subst h
          exact hj (ban_in (hbx (mkx (mkx' hnew)) dd hdd))
    rw [this, hb]; exact hhy
  · have hout : (pushSt st y.o.dst s (s1.base + y.root) z).base = st.base := by simp [ASt.base, pushSt_out]
    rw [pushSt_evs hns hfy, pushSt_nid, hout]
    have : banned (banAt x.ban st.base) (pushSt st y.o.dst s (s1.base + y.root) z).look = banned (banAt x.ban st.base) st.look := by
      refine banned_congr (fun j hj => pushSt_look (fun e => ?_))
      subst e
      rw [hb] at hj
      exact hj (ban_in hsx)
    rw [this]; exact hhx
  · have hout : (pushSt st y.o.dst s (s1.base + y.root) z).base = st.base := by simp [ASt.base, pushSt_out]
    rw [clean_same (t := st) hout (fun t ht => pushSt_slot (fun e => hds (by rw [ht, e])) (fun e => (unlike_ne (unlike_symm hu)) t ht e))]
    exact (cx hd).2

/-- A push, and then something that grows a state: the push may go later. -/
theorem push_early (hs : pushSlot x.o.op = some s) (hyd : y.dr = true) (hyx : (clsOf y.o.op).isX = false) (hyw : clsOf y.o.op ≠ .W) (hfx : freeOf x.o.dst (tmpsOf y.o.op.operands.toList) = true)
    (hfy : freeOf y.o.dst (tmpsOf x.o.op.operands.toList) = true) (hu : unlike x.o.dst y.o.dst = true) (hns : s ∉ tmpsOf y.o.op.operands.toList) (hby : (clsOf y.o.op).makes = true → ∀ d, y.o.dst = some d → d ∈ x.ban.1)
    (hsy : x.root ∈ y.ban.1) (hpy : x.root ∈ y.push) (hdm : y.o.dst ≠ some x.root) (h1 : StepPush E C x st s1) (h2 : StepP E C y s1 s2) : ∃ s1', StepP E C y st s1' ∧ StepPush E C x s1' s2 := by
  obtain ⟨ex, hhx, ox, ax⟩ := h1
  obtain ⟨ey, hhy, cy, ay⟩ := h2
  obtain ⟨s', z, hs', rfl, pu⟩ := pushOk_spec ox
  rw [hs] at hs'
  cases hs'
  have hu' := unlike_symm hu
  have ax' : (pushE (st.base + x.root) z).app st x.o.dst = some s1 := ax
  rw [push_app pu] at ax'
  simp only [Option.some.injEq] at ax'
  subst ax'
  have hout : (pushSt st x.o.dst s (st.base + x.root) z).base = st.base := by simp [ASt.base, pushSt_out]
  obtain ⟨gy, mky⟩ := StepP.grows hyd hyx hyw hhy cy
  obtain ⟨gy', mky'⟩ := nfE_grows gy
  have hds : y.o.dst ≠ some s := fun e => freeOf_spec hfy s e (pushSlot_ops hs).2
  obtain ⟨s1', ay'⟩ := push_grow gy' ay hdm rfl
  have he := grow_push (y := z) gy' ay' hds hdm hu' (rfl : st.base + x.root = st.base + x.root)
  rw [he] at ay
  simp only [Option.some.injEq] at ay
  subst ay
  have hcs : cleanE y.push (pushSt st x.o.dst s (st.base + x.root) z) y.o.dst ey = cleanE y.push st y.o.dst ey := clean_same hout (fun t ht => pushSt_slot (fun e => hds (by rw [ht, e])) (fun e => (unlike_ne hu) t ht e))
  have hc := (cy hyd).2
  rw [hcs] at hc
  obtain ⟨c1, c2⟩ := clean_mem hc hpy
  obtain ⟨f1, f2, f3, f4, f5⟩ := grow_facts gy' ay'
  have hb : s1'.base = st.base := by simp [ASt.base, f2]
  have hn : ∀ d, s1'.nid d = st.nid d := fun d => by cases d <;> simp [ASt.nid, f2]
  have pu1 : Pu s1' s x.root (st.base + x.root) := pu.fwd gy' ay' hds (by rw [effRefs_nf]; exact c1)
  refine ⟨s1', ⟨ey, ?_, fun hd => ⟨⟨plain_grows gy, inOwn_grows gy _ _⟩, hc⟩, ay'⟩, ⟨pushE (st.base + x.root) z, ?_, pushOk_intro hs pu1, push_app pu1⟩⟩
  · rw [pushSt_evs hns hfx, pushSt_nid, hout] at hhy
    have : banned (banAt y.ban st.base) (pushSt st x.o.dst s (st.base + x.root) z).look = banned (banAt y.ban st.base) st.look := by
      refine banned_congr (fun j hj => pushSt_look (fun e => ?_))
      subst e
      exact hj (ban_in hsy)
    rw [← this]; exact hhy
  · rw [evs_same f1 hfy, hn, hb]
    have : banned (banAt x.ban st.base) s1'.look = banned (banAt x.ban st.base) st.look := by
      refine banned_congr (fun j hj => ?_)
      cases hl : s1'.look j with
      | none =>
        cases hl0 : st.look j with
        | none => rfl
        | some b => rw [f3 j b hl0] at hl; cases hl
      | some b =>
        rcases f4 j b hl with h | ⟨_, dd, hdd, h, hnew⟩
        · exact h.symm
        · exfalso
          subst h
          exact hj (ban_in (hby (mky (mky' hnew)) dd hdd))
    rw [this]; exact hhx

theorem guard_none {ops : List Oper} {o : Oper} (h : o.guard.isNone = true) (t : ASt) : guardN ops o t = some (some true) := by
  unfold guardN
  rw [Option.isNone_iff_eq_none.1 h]
theorem OpP.step {ops : List Oper} (h : x.o.guard.isNone = true) : OpP E C ops x st s1 → StepP E C x st s1
  | .inl ⟨_, h'⟩ => h'
  | .inr ⟨b, hb, hne, _⟩ => by rw [guard_none h] at hb; exact absurd (Option.some.inj hb).symm hne

/-- Of two operations that have nothing to do with one another the second may be done first. -/
theorem opN_swap {ops : List Oper} (hap : apartB ops x.o y.o = true) (hxd : x.dr = true) (hyd : y.dr = true) (hxx : (clsOf x.o.op).isX = false) (hyx : (clsOf y.o.op).isX = false)
    (hbx : (clsOf x.o.op).makes = true → ∀ d, x.o.dst = some d → d ∈ y.ban.1) (hby : (clsOf y.o.op).makes = true → ∀ d, y.o.dst = some d → d ∈ x.ban.1)
    (hox : (clsOf y.o.op).reads = true → y.ban ∈ x.own) (hoy : (clsOf x.o.op).reads = true → x.ban ∈ y.own)
    (hpx : ∀ s, pushSlot y.o.op = some s → y.root = makerOf ops 20 s ∧ y.root ∈ x.ban.1 ∧ y.root ∈ x.push) (hpy : ∀ s, pushSlot x.o.op = some s → x.root = makerOf ops 20 s ∧ x.root ∈ y.ban.1 ∧ x.root ∈ y.push) (h1 : OpN E C ops x st s1) (h2 : OpN E C ops y s1 s2) :
    ∃ s1', OpN E C ops y st s1' ∧ OpN E C ops x s1' s2 := by
  have hap' := hap
  simp only [apartB, Bool.and_eq_true] at hap'
  obtain ⟨⟨⟨⟨hg, hfx⟩, hfy⟩, hu⟩, ha1, ha2⟩ := hap'
  rcases h1.parts hxd with p1 | ⟨g1, p1⟩
  · rcases h2.parts hyd with p2 | ⟨g2, p2⟩
    · obtain ⟨s1', q1, q2⟩ := opP_swap hap hxd hyd hxx hyx hbx hby hox hoy p1 p2
      exact ⟨s1', q1.toN, q2.toN⟩
    · obtain ⟨s, z, hs, -⟩ := pushOk_spec p2.choose_spec.2.1
      simp only [pushApart, hs, Bool.and_eq_true, memB_no] at ha2
      have hx : clsOf x.o.op ≠ .W := fun h => by rw [h, (pushSlot_ops hs).1] at hg; cases hg
      obtain ⟨s1', q1, q2⟩ := push_late hs hxd hxx hx (freeOf_append hfx).2 (freeOf_append hfy).2 hu (fun h => ha2.1.2 (List.mem_append_right _ h)) hbx (hpx s hs).2.1 (hpx s hs).2.2 (fun h => freeOf_spec ha2.2 _ h (by rw [(hpx s hs).1]; exact List.mem_cons_self)) (p1.step ha2.1.1.2) p2
      exact ⟨s1', .inl ⟨guard_none ha2.1.1.1 _, q1.toN⟩, .inl ⟨guard_none ha2.1.1.2 _, q2.toN⟩⟩
  · obtain ⟨s, z, hs, -⟩ := pushOk_spec p1.choose_spec.2.1
    simp only [pushApart, hs, Bool.and_eq_true, memB_no] at ha1
    rcases h2.parts hyd with p2 | ⟨g2, p2⟩
    · have hy : clsOf y.o.op ≠ .W := fun h => by rw [h, (pushSlot_ops hs).1] at hg; cases hg
      obtain ⟨s1', q1, q2⟩ := push_early hs hyd hyx hy (freeOf_append hfx).2 (freeOf_append hfy).2 hu (fun h => ha1.1.2 (List.mem_append_right _ h)) hby (hpy s hs).2.1 (hpy s hs).2.2 (fun h => freeOf_spec ha1.2 _ h (by rw [(hpy s hs).1]; exact List.mem_cons_self)) p1 (p2.step ha1.1.1.2)
      exact ⟨s1', .inl ⟨guard_none ha1.1.1.2 _, q1.toN⟩, .inl ⟨guard_none ha1.1.1.1 _, q2.toN⟩⟩
    · obtain ⟨s', z', hs', -⟩ := pushOk_spec p2.choose_spec.2.1
      rw [(pushSlot_ops hs).1, (pushSlot_ops hs').1] at hg
      cases hg
end
end Go.Ab

/- One operation with its guard, told at once; two that have nothing to do with one another may be moved past one another. No condition but those of the operations. -/
import Derived.Test.YtpoidnkgadhdmaaM13b
namespace Go.Ab
open Go.RowKit
set_option linter.unusedVariables false

/-- As `hits`, with jumps. -/
def Prg.goes {R : Type} (C : Cal) (J : List Nat → ASt → R → Prop) : Prg R → R → Prop
  | .fail, _ => False
  | .ret e', e => e' = e
  | .tv p k, e => ∃ v, p = some v ∧ (k v).goes C J e
  | .tvs p k, e => ∃ v, p = some v ∧ (k v).goes C J e
  | .rws p k, e => ∃ v, p = some v ∧ (k v).goes C J e
  | .nat p k, e => ∃ v, p = some v ∧ (k v).goes C J e
  | .chk b k, e => b = true ∧ k.goes C J e
  | .ite b t f, e => ∃ v, b = some v ∧ ((v = true ∧ t.goes C J e) ∨ (v = false ∧ f.goes C J e))
  | .call f xs k, e => ∃ v, C f xs v ∧ (k v).goes C J e
  | .jmp p st, e => J p st e

theorem Prg.bind_goes {R S : Type} {C : Cal} {J : List Nat → ASt → S → Prop} {f : R → Prg S} {r : S} : ∀ {p : Prg R}, (p.bind f).goes C J r → ∃ e, p.hits C e ∧ (f e).goes C J r
  | .fail, h => h.elim
  | .ret e, h => ⟨e, rfl, h⟩
  | .tv p k, ⟨v, h1, h⟩ => by obtain ⟨e, h2, h3⟩ := Prg.bind_goes h; exact ⟨e, ⟨v, h1, h2⟩, h3⟩
  | .tvs p k, ⟨v, h1, h⟩ => by obtain ⟨e, h2, h3⟩ := Prg.bind_goes h; exact ⟨e, ⟨v, h1, h2⟩, h3⟩
  | .rws p k, ⟨v, h1, h⟩ => by obtain ⟨e, h2, h3⟩ := Prg.bind_goes h; exact ⟨e, ⟨v, h1, h2⟩, h3⟩
  | .nat p k, ⟨v, h1, h⟩ => by obtain ⟨e, h2, h3⟩ := Prg.bind_goes h; exact ⟨e, ⟨v, h1, h2⟩, h3⟩
  | .chk b k, ⟨h1, h⟩ => by obtain ⟨e, h2, h3⟩ := Prg.bind_goes (p := k) h; exact ⟨e, ⟨h1, h2⟩, h3⟩
  | .ite b t f, ⟨v, h1, .inl ⟨h2, h⟩⟩ => by obtain ⟨e, h3, h4⟩ := Prg.bind_goes (p := t) h; exact ⟨e, ⟨v, h1, .inl ⟨h2, h3⟩⟩, h4⟩
  | .ite b t f, ⟨v, h1, .inr ⟨h2, h⟩⟩ => by obtain ⟨e, h3, h4⟩ := Prg.bind_goes (p := f) h; exact ⟨e, ⟨v, h1, .inr ⟨h2, h3⟩⟩, h4⟩
  | .call f xs k, ⟨v, h1, h⟩ => by obtain ⟨e, h2, h3⟩ := Prg.bind_goes h; exact ⟨e, ⟨v, h1, h2⟩, h3⟩
  | .jmp _ _, h => h.elim

section
variable {P : Program} {E : Env} {C : Cal} {w0 : Bs} {w w' : World} {I0 I R : Nat → Prop} {g g' : Gh} {st st' s1 s2 : ASt} {a : Act} {ov : List Value} {look : Look} {Q : Exit → Act → World → Prop} {id : Nat}

def guardN (ops : List Oper) (o : Oper) (s : ASt) : Option (Option Bool) :=
  match o.guard with
  | none => some (some true)
  | some (j, want) => match ((ops[j]?).bind (·.dst)) with
    | none => none
    | some g => match nth (.one .junk) s.slots g with
      | .one .undef => some none
      | .bl b => some (some (b == want))
      | _ => none

/-- What an operation does that is done. -/
def StepN (E : Env) (C : Cal) (i : Item) (s s' : ASt) : Prop := ∃ e, (opL E (s.nid i.o.dst) (banned (banAt i.ban s.base) s.look) i.o.op (i.o.op.operands.toList.map s.ev)).hits C e ∧
  (i.dr = true → okE i s e = true) ∧ e.nfE.app s i.o.dst = some s'
/-- The same, if it concerns nothing that lies beside it. -/
def StepP (E : Env) (C : Cal) (i : Item) (s s' : ASt) : Prop := ∃ e, (opL E (s.nid i.o.dst) (banned (banAt i.ban s.base) s.look) i.o.op (i.o.op.operands.toList.map s.ev)).hits C e ∧
  (i.dr = true → (e.plain = true ∧ e.inOwn s.base i.own = true) ∧ cleanE i.push s i.o.dst e = true) ∧ e.nfE.app s i.o.dst = some s'
/-- Something is put behind a slice that nothing else leads to. -/
def StepPush (E : Env) (C : Cal) (i : Item) (s s' : ASt) : Prop := ∃ e, (opL E (s.nid i.o.dst) (banned (banAt i.ban s.base) s.look) i.o.op (i.o.op.operands.toList.map s.ev)).hits C e ∧
  pushOk i s e = true ∧ e.nfE.app s i.o.dst = some s'
def OpN (E : Env) (C : Cal) (ops : List Oper) (i : Item) (s s' : ASt) : Prop :=
  (guardN ops i.o s = some (some true) ∧ StepN E C i s s') ∨ (∃ b, guardN ops i.o s = some b ∧ b ≠ some true ∧ s' = skipSt i.o s)
def OpP (E : Env) (C : Cal) (ops : List Oper) (i : Item) (s s' : ASt) : Prop :=
  (guardN ops i.o s = some (some true) ∧ StepP E C i s s') ∨ (∃ b, guardN ops i.o s = some b ∧ b ≠ some true ∧ s' = skipSt i.o s)
theorem StepP.toN {i : Item} {s s' : ASt} : StepP E C i s s' → StepN E C i s s' := fun ⟨e, h1, h2, h3⟩ => ⟨e, h1, fun hd => by obtain ⟨⟨a, b⟩, c⟩ := h2 hd; simp only [okE, a, b, c, Bool.and_self, Bool.true_or], h3⟩
theorem StepPush.toN {i : Item} {s s' : ASt} : StepPush E C i s s' → StepN E C i s s' := fun ⟨e, h1, h2, h3⟩ => ⟨e, h1, fun hd => by simp only [okE, h2, Bool.or_true], h3⟩
theorem OpP.toN {ops : List Oper} {i : Item} {s s' : ASt} : OpP E C ops i s s' → OpN E C ops i s s'
  | .inl ⟨h, h'⟩ => .inl ⟨h, h'.toN⟩
  | .inr h => .inr h
theorem OpN.parts {ops : List Oper} {i : Item} {s s' : ASt} (hd : i.dr = true) : OpN E C ops i s s' → OpP E C ops i s s' ∨ (guardN ops i.o s = some (some true) ∧ StepPush E C i s s')
  | .inr h => .inl (.inr h)
  | .inl ⟨h, e, h1, h2, h3⟩ => by
    have h2 := h2 hd
    unfold okE at h2
    rw [Bool.or_eq_true] at h2
    rcases h2 with h2 | h2
    · simp only [Bool.and_eq_true] at h2
      exact .inl (.inl ⟨h, e, h1, fun _ => h2, h3⟩)
    · exact .inr ⟨h, e, h1, h2, h3⟩
theorem okE_of_nf {i : Item} {s : ASt} {e : Eff} (h : okE i s e.nfE = true) : okE i s e = true := by
  unfold okE at h ⊢
  rw [Bool.or_eq_true] at h ⊢
  rcases h with h | h
  · rw [plain_nf, inOwn_nf] at h
    have : cleanE i.push s i.o.dst e.nfE = cleanE i.push s i.o.dst e := by unfold cleanE; rw [effRefs_nf]
    rw [this] at h
    exact .inl h
  · refine .inr ?_
    unfold pushOk at h ⊢
    split at h
    · rename_i s' j y h1 h2
      have he := pushParts_some h2
      have : e = e.nfE := by
        cases e with
        | gen ps v =>
          simp only [Eff.nfE, Eff.gen.injEq] at he
          rcases nf_cases v with h | ⟨b, h, _⟩
          · show Eff.gen ps v = Eff.gen ps v.nf
            rw [h]
          · rw [h] at he; cases he.2
        | _ => simp only [Eff.nfE, reduceCtorEq] at he
      rw [this, h1, h2]
      exact h
    · cases h

inductive OpsN (E : Env) (C : Cal) (ops : List Oper) : List Item → ASt → ASt → Prop
  | nil (s : ASt) : OpsN E C ops [] s s
  | cons {i : Item} {l : List Item} {s s1 s' : ASt} (h : OpN E C ops i s s1) (r : OpsN E C ops l s1 s') : OpsN E C ops (i :: l) s s'

theorem asBool_some {v : TV} {b : Bool} (h : asBool v = some b) : v = .lit (.bool b) := by
  unfold asBool at h
  split at h
  · simp only [Option.some.injEq] at h; subst h; rfl
  · cases h

theorem opOut_goes {T : Type} {J : List Nat → ASt → T → Prop} {i : Item} {K : ASt → Prg T} {r : T} (h : (opOut E i K st).goes C J r) : ∃ st1, StepN E C i st.nfS st1.nfS ∧ (K st1).goes C J r := by
  unfold opOut at h
  obtain ⟨e, h1, h2⟩ := Prg.bind_goes h
  obtain ⟨e', h3, h4⟩ := opL_nf h1
  unfold effQ at h2
  cases hc : i.dr && !(okE i st e) with
  | true => rw [hc] at h2; exact h2.elim
  | false =>
    rw [hc] at h2
    simp only [cond_false] at h2
    split at h2
    · rename_i st1 ha
      refine ⟨st1, ⟨e', ?_, fun hd => ?_, ?_⟩, h2⟩
      · have : i.o.op.operands.toList.map st.nfS.ev = (i.o.op.operands.toList.map st.ev).map AV.nf := by
          rw [List.map_map]
          apply List.map_congr_left
          intro x _
          exact nfS_ev st x
        rw [this, nfS_nid, nfS_base, nfS_look]
        exact h3
      · refine okE_of_nf ?_
        rw [h4]
        exact okE_nf (by simpa [hd] using hc)
      · rw [h4]
        exact app_nf ha
    · exact h2.elim

theorem put_nf_same {g : Nat} {v v' : AV} (h : nth (.one .junk) st.slots g = v) (hv : v.nf = v'.nf) : (st.put (some g) v').nfS = st.nfS := by
  rw [nfS_put]
  simp only [ASt.put]
  have : setNth st.nfS.slots g v'.nf = st.nfS.slots := by
    rw [setNth_eq]
    apply List.ext_getElem?
    intro t
    rw [List.getElem?_set]
    by_cases ht : g = t
    · subst ht
      cases hs : st.slots[g]? with
      | none =>
        have : st.nfS.slots[g]? = none := by simp [ASt.nfS, hs]
        have hlt : ¬ g < st.nfS.slots.length := by
          intro hlt
          rw [List.getElem?_eq_getElem hlt] at this
          cases this
        simp [hlt]
      | some u =>
        rw [nth_some hs] at h
        subst h
        have hlt : g < st.nfS.slots.length := by simp [ASt.nfS]; exact (List.getElem?_eq_some_iff.1 hs).1
        simp only [if_true, hlt]
        rw [← hv]
        simp [ASt.nfS, hs]
    · simp [ht]
  rw [this]

theorem opQ_goes {T : Type} {J : List Nat → ASt → T → Prop} {ops : List Oper} {i : Item} {K : ASt → Prg T} {r : T} (h : (opQ E ops i K st).goes C J r) : ∃ st1, OpN E C ops i st.nfS st1.nfS ∧ (K st1).goes C J r := by
  unfold opQ at h
  have skip : ∀ {s : ASt} {b : Option Bool}, s.nfS = st.nfS → guardN ops i.o st.nfS = some b → b ≠ some true → (K (skipSt i.o s)).goes C J r → ∃ st1, OpN E C ops i st.nfS st1.nfS ∧ (K st1).goes C J r := by
    intro s b he hg hb hk
    refine ⟨_, .inr ⟨b, hg, hb, ?_⟩, hk⟩
    simp only [skipSt]
    rw [nfS_put, he]
    rfl
  have run : ∀ {s : ASt}, s.nfS = st.nfS → guardN ops i.o st.nfS = some (some true) → (opOut E i K s).goes C J r → ∃ st1, OpN E C ops i st.nfS st1.nfS ∧ (K st1).goes C J r := by
    intro s he hg hk
    obtain ⟨st1, h1, h2⟩ := opOut_goes hk
    rw [he] at h1
    exact ⟨st1, .inl ⟨hg, h1⟩, h2⟩
  cases hg : i.o.guard with
  | none =>
    simp only [hg] at h
    exact run rfl (by simp [guardN, hg]) h
  | some q =>
    obtain ⟨j, want⟩ := q
    simp only [hg] at h
    cases hd : (ops[j]?).bind (·.dst) with
    | none => simp only [hd] at h; exact h.elim
    | some g =>
      simp only [hd] at h
      have gv : ∀ {v : AV}, nth (.one .junk) st.slots g = v → guardN ops i.o st.nfS = (match v.nf with | .one .undef => some none | .bl b => some (some (b == want)) | _ => none) := by
        intro v hv
        simp only [guardN, hg, hd, nfS_slot, hv]
      have ite : ∀ {v : TV} {x y : Prg T}, (Prg.ite (asBool v) x y).goes C J r → ∃ b, v = .lit (.bool b) ∧ (bif b then x else y).goes C J r := by
        rintro v x y ⟨b, hb, h⟩
        refine ⟨b, asBool_some hb, ?_⟩
        rcases h with ⟨rfl, h⟩ | ⟨rfl, h⟩ <;> exact h
      cases hs : nth (.one .junk) st.slots g with
      | one c =>
        simp only [hs] at h
        cases c with
        | undef => exact skip rfl (by rw [gv hs]; rfl) (by simp) h
        | t v =>
          obtain ⟨b, rfl, h'⟩ := ite h
          have he : (st.put (some g) (.bl b)).nfS = st.nfS := put_nf_same hs rfl
          have hgd := gv hs
          simp only [AV.nf] at hgd
          cases b <;> cases want <;> simp only [cond_true, cond_false] at h'
          · exact run he (by rw [hgd]; rfl) h'
          · exact skip (b := some false) he (by rw [hgd]; rfl) (by simp) h'
          · exact skip (b := some false) he (by rw [hgd]; rfl) (by simp) h'
          · exact run he (by rw [hgd]; rfl) h'
        | _ => exact h.elim
      | agg cs => simp only [hs] at h; exact h.elim
      | tups cs => simp only [hs] at h; exact h.elim
      | tv v =>
        simp only [hs] at h
        obtain ⟨b, rfl, h'⟩ := ite h
        have he : (st.put (some g) (.bl b)).nfS = st.nfS := put_nf_same hs rfl
        have hgd := gv hs
        simp only [AV.nf] at hgd
        cases b <;> cases want <;> simp only [cond_true, cond_false] at h'
        · exact run he (by rw [hgd]; rfl) h'
        · exact skip (b := some false) he (by rw [hgd]; rfl) (by simp) h'
        · exact skip (b := some false) he (by rw [hgd]; rfl) (by simp) h'
        · exact run he (by rw [hgd]; rfl) h'
      | bl b =>
        simp only [hs] at h
        have hgd := gv hs
        simp only [AV.nf] at hgd
        cases b <;> cases want <;> simp only [cond_true, cond_false] at h
        · exact run rfl (by rw [hgd]; rfl) h
        · exact skip (b := some false) rfl (by rw [hgd]; rfl) (by simp) h
        · exact skip (b := some false) rfl (by rw [hgd]; rfl) (by simp) h
        · exact run rfl (by rw [hgd]; rfl) h

theorem opsQ_goes {T : Type} {J : List Nat → ASt → T → Prop} {ops : List Oper} {K : ASt → Prg T} {r : T} : ∀ {l : List Item} {st : ASt}, (opsQ E ops l K st).goes C J r → ∃ fin, OpsN E C ops l st.nfS fin.nfS ∧ (K fin).goes C J r
  | [], st, h => ⟨st, .nil _, h⟩
  | i :: l, st, h => by
    simp only [opsQ, forceSt_eq] at h
    obtain ⟨st1, h1, h2⟩ := opQ_goes h
    obtain ⟨fin, h3, h4⟩ := opsQ_goes h2
    exact ⟨fin, .cons h1 h3, h4⟩

theorem banned_le (ban : List Nat) (st : ASt) : ∀ i b, banned ban st.look i = some b → st.look i = some b := fun i b h => by
  unfold banned at h
  cases hm : memB i ban with
  | true => simp [hm] at h
  | false => simpa [hm] using h

theorem yielded_eq {ops : Array Oper} {o : Oper} {j : Nat} {want : Bool} {t : Tmp} (hg : (ops[j]?).bind (·.dst) = some t) (hs : SimI w0 I0 R g st a ov w) {b : Option Bool} (hv : guardN ops.toList o st = some b) (ho : o.guard = some (j, want)) :
    (Region.wanted o (yielded ops a.tmps) = true ↔ b = some true) := by
  have hg' : (ops.toList[j]?).bind (·.dst) = some t := by rw [Array.getElem?_toList]; exact hg
  simp only [guardN, ho, hg'] at hv
  simp only [Region.wanted, ho, yielded, hg, Option.bind_some]
  cases hsl : st.slots[t]? with
  | none => rw [nth_eq, hsl] at hv; simp at hv
  | some v =>
    have hrep := hs.slots t v hsl
    have hlt : t < a.tmps.size := by rw [hs.len]; exact (List.getElem?_eq_some_iff.1 hsl).1
    have hget : a.tmps[t]? = some (a.tmps.getD t undef) := by simp [hlt]
    rw [nth_some hsl] at hv
    obtain ⟨u, hu⟩ : ∃ u, u = a.tmps.getD t undef := ⟨_, rfl⟩
    rw [← hu] at hrep hget
    rw [hget]
    split at hv
    · simp only [Option.some.injEq] at hv
      subst hv
      have : u = undef := hrep
      subst this
      simp [undef]
    · simp only [Option.some.injEq] at hv
      subst hv
      have : u = .bool _ := hrep
      subst this
      simp
    · cases hv

/-- One operation of a region, where it stands. -/
theorem opN_sound (hE : EnvOk P w0.G E C) {ops : Array Oper} {n : Nat} {i : Item} (hn : ops[n]? = some i.o) (hs : Sim w0 I0 st a ov w) (h : OpN E C ops.toList i st st') : wpOp P ops Q n (fun a' w' => Sim w0 I0 st' a' ov w') a w := by
  obtain ⟨g, hs⟩ := hs
  unfold wpOp
  rw [hn]
  simp only []
  have run : StepN E C i st st' → i.o.wp P a w (fun a' w' => Sim w0 I0 st' a' ov w') Q := fun ⟨e, h1, _, h3⟩ => by
    obtain ⟨st1, h4, h5⟩ := nfE_app h3
    exact Oper.wp_mono (fun a' w' hh => h5 w0 I0 a' ov w' hh) (op_sound hE (banned_le _ st) hs h1 h4)
  have skip : st' = skipSt i.o st → Sim w0 I0 st' (a.put i.o.dst undef) ov w := fun h => by
    subst h
    exact ⟨g, hs.put i.o.dst (v := .one .undef) rfl⟩
  cases hg : i.o.guard with
  | none =>
    have hw : Region.wanted i.o (yielded ops a.tmps) = true := by simp [Region.wanted, hg]
    rw [if_pos hw]
    rcases h with ⟨_, h⟩ | ⟨b, hb, hne, _⟩
    · exact .inl (run h)
    · simp [guardN, hg] at hb
      exact absurd hb.symm hne
  | some q =>
    obtain ⟨j, want⟩ := q
    cases hd : (ops[j]?).bind (·.dst) with
    | none =>
      have hd' : (ops.toList[j]?).bind (·.dst) = none := by rw [Array.getElem?_toList]; exact hd
      rcases h with ⟨h, _⟩ | ⟨b, hb, _⟩
      · simp only [guardN, hg, hd'] at h; cases h
      · simp only [guardN, hg, hd'] at hb; cases hb
    | some t =>
      rcases h with ⟨hv, h⟩ | ⟨b, hv, hne, h⟩
      · rw [if_pos ((yielded_eq hd hs hv hg).2 rfl)]
        exact .inl (run h)
      · rw [if_neg (fun hw => hne ((yielded_eq hd hs hv hg).1 hw))]
        exact skip h

/-! ### in whatever order -/
theorem tmpsOf_mem {t : Nat} : ∀ {l : List Operand}, .tmp t ∈ l → t ∈ tmpsOf l
  | x :: l, h => by
    rcases List.mem_cons.1 h with rfl | h
    · simp [tmpsOf]
    · have := tmpsOf_mem h
      cases x <;> simp [tmpsOf, this]

theorem freeOf_spec {d : Option Nat} {l : List Nat} (h : freeOf d l = true) : ∀ t, d = some t → t ∉ l := fun t ht hm => by
  subst ht
  simp only [freeOf, Bool.not_eq_true', ] at h
  rw [(memB_iff _ _).2 hm] at h
  cases h

/-- Two states that are alike but for a slot. -/
def SameBut (d : Option Nat) (s t : ASt) : Prop := s.slots.length = t.slots.length ∧ ∀ k, d ≠ some k → nth (.one .junk) s.slots k = nth (.one .junk) t.slots k

theorem nth_put (st : ASt) (d : Option Tmp) (v : AV) (k : Nat) (h : d ≠ some k) : nth (.one .junk) (st.put d v).slots k = nth (.one .junk) st.slots k := by
  cases d with
  | none => rfl
  | some d =>
    have : d ≠ k := fun e => h (by rw [e])
    simp only [ASt.put, setNth_eq, nth_eq, List.getElem?_set, this, if_false]

theorem ev_same {d : Option Nat} {s t : ASt} (h : SameBut d s t) {x : Operand} (hx : ∀ k, x = .tmp k → d ≠ some k) : s.ev x = t.ev x := by
  cases x with
  | tmp k => exact h.2 k (hx k rfl)
  | const v => cases v <;> rfl
  | _ => rfl

theorem evs_same {d : Option Nat} {s t : ASt} (h : SameBut d s t) {l : List Operand} (hx : freeOf d (tmpsOf l) = true) : l.map s.ev = l.map t.ev := by
  apply List.map_congr_left
  intro x hxl
  refine ev_same h (fun k hk e => ?_)
  subst hk
  exact freeOf_spec hx k e (tmpsOf_mem hxl)

theorem guard_same {d : Option Nat} {s t : ASt} {ops : List Oper} {o : Oper} (h : SameBut d s t) (hx : freeOf d (guardSlot ops o) = true) : guardN ops o s = guardN ops o t := by
  unfold guardN
  cases hg : o.guard with
  | none => rfl
  | some q =>
    obtain ⟨j, want⟩ := q
    simp only []
    cases hd : (ops[j]?).bind (·.dst) with
    | none => rfl
    | some g =>
      have : nth (.one .junk) s.slots g = nth (.one .junk) t.slots g := h.2 g (fun e => freeOf_spec hx g e (by simp [guardSlot, hg, hd]))
      simp only [this]

theorem memB_append (n : Nat) : ∀ (a b : List Nat), memB n (a ++ b) = (memB n a || memB n b)
  | [], b => rfl
  | x :: a, b => by
    simp only [List.cons_append, memB]
    cases x.beq n <;> simp [memB_append n a b]
theorem freeOf_append {d : Option Nat} {a b : List Nat} (h : freeOf d (a ++ b) = true) : freeOf d a = true ∧ freeOf d b = true := by
  cases d with
  | none => exact ⟨rfl, rfl⟩
  | some d =>
    simp only [freeOf, memB_append, Bool.not_or, Bool.and_eq_true] at h
    exact h

theorem app_newN {b : BC} {v : AV} {d : Option Tmp} (ha : (Eff.new b v).app st d = some st') : ∃ d', d = some d' ∧ st.look (st.nid d) = none ∧ st.nid d < st.boxes.length ∧ st' = (st.setBox (st.nid d) (some b)).put d v := by
  cases d with
  | none => simp [Eff.app] at ha
  | some d =>
    simp only [Eff.app] at ha
    split at ha
    · rename_i s1 hs1
      obtain ⟨h1, h2, rfl⟩ := addBox_some hs1
      simp only [Option.some.injEq] at ha
      exact ⟨d, rfl, h1, h2, ha.symm⟩
    · cases ha
theorem new_app {b : BC} {v : AV} {d : Tmp} (h1 : st.look (st.nid (some d)) = none) (h2 : st.nid (some d) < st.boxes.length) : (Eff.new b v).app st (some d) = some ((st.setBox (st.nid (some d)) (some b)).put (some d) v) := by
  have h2' : (st.nid (some d)).blt st.boxes.length = true := by simpa using h2
  simp only [Eff.app, ASt.addBox, h1, h2', cond_true]

/-- What a plain effect leaves of a state. -/
theorem plain_app {e : Eff} {d : Option Nat} (hp : e.plain = true) (ha : e.app st d = some st') : SameBut d st' st ∧ st'.boxes.length = st.boxes.length ∧ st'.out = st.out := by
  cases e with
  | val v =>
    simp only [Eff.app, Option.some.injEq] at ha
    subst ha
    refine ⟨⟨?_, fun k hk => nth_put st d v k hk⟩, by rw [boxes_put], by rw [out_put]⟩
    cases d <;> simp [ASt.put, setNth_eq]
  | new b v =>
    obtain ⟨dd, rfl, hl, hlt, rfl⟩ := app_newN ha
    refine ⟨⟨?_, fun k hk => ?_⟩, by rw [boxes_put]; simp [ASt.setBox, setNth_eq], by rw [out_put]; rfl⟩
    · simp [ASt.put, ASt.setBox, setNth_eq]
    · rw [nth_put _ _ _ _ hk]; rfl
  | upd i b v =>
    simp only [Eff.app, Option.some.injEq] at ha
    subst ha
    refine ⟨⟨?_, fun k hk => ?_⟩, by rw [boxes_put]; simp [ASt.setBox, setNth_eq], by rw [out_put]; rfl⟩
    · cases d <;> simp [ASt.put, ASt.setBox, setNth_eq]
    · rw [nth_put _ _ _ _ hk]; rfl
  | _ => simp [Eff.plain] at hp

/-- What an operation of a class does to a state. -/
inductive Move (c : Cls) (st : ASt) : Eff → Prop
  | val (v : AV) (h : c = .N ∨ c = .R ∨ c = .B ∨ c = .P) : Move c st (.val v)
  | new (b : BC) (v : AV) (h : c = .A ∨ c = .B ∨ c = .P) : Move c st (.new b v)
  | upd (i : Nat) (b : BC) (v : AV) (h : c = .W) (hl : (st.look i).isSome = true) : Move c st (.upd i b v)

theorem Move.nf {c : Cls} {e : Eff} (h : Move c st e) : Move c st e.nfE := by
  cases h with
  | val v h => exact .val _ h
  | new b v h => exact .new _ _ h
  | upd i b v h hl => exact .upd _ _ _ h hl

theorem move_of {op : Op} {ban : List Nat} {vs : List AV} {e : Eff} (hx : (clsOf op).isX = false) (hp : e.plain = true) (hh : (opL E id (banned ban st.look) op vs).hits C e) : Move (clsOf op) st e := by
  cases hc : clsOf op with
  | N => obtain ⟨v, rfl⟩ := (cls_N hc vs).hits hh; exact .val v (.inl rfl)
  | R => obtain ⟨v, rfl⟩ := (cls_R hc vs).hits hh; exact .val v (.inr (.inl rfl))
  | A => obtain ⟨b, row, rfl⟩ := (cls_A hc vs).hits hh; exact .new b row (.inl rfl)
  | B =>
    rcases (cls_B hc vs).hits hh hp with ⟨v, rfl⟩ | ⟨b, v, rfl⟩
    · exact .val v (.inr (.inr (.inl rfl)))
    · exact .new b v (.inr (.inl rfl))
  | P =>
    rcases (cls_P hc vs).hits hh hp with ⟨v, rfl⟩ | ⟨b, v, rfl⟩
    · exact .val v (.inr (.inr (.inr rfl)))
    · exact .new b v (.inr (.inr rfl))
  | W =>
    obtain ⟨i, b, v, rfl, hl⟩ := (cls_W hc vs).hits hh hp
    obtain ⟨c, hc'⟩ := Option.isSome_iff_exists.1 hl
    exact .upd i b v rfl (by rw [banned_le ban st i c hc']; rfl)
  | X => simp [hc, Cls.isX] at hx

theorem unlike_of {a b : Nat} (h : a ≠ b) : unlike (some a) (some b) = true := by
  simp only [unlike, Bool.not_eq_true']
  cases hb : a.beq b with
  | false => rfl
  | true => exact absurd ((beq_iff _ _).1 hb) h
theorem unlike_symm {a b : Option Nat} (h : unlike a b = true) : unlike b a = true := by
  cases a with
  | none => cases b <;> rfl
  | some p =>
    cases b with
    | none => rfl
    | some q => exact unlike_of (fun e => by subst e; simp [unlike] at h)

theorem put_comm (st : ASt) {d d' : Option Nat} (h : unlike d d' = true) (u v : AV) : (st.put d u).put d' v = (st.put d' v).put d u := by
  cases d with
  | none => rfl
  | some d =>
    cases d' with
    | none => rfl
    | some d' =>
      have hne : d ≠ d' := fun e => by subst e; simp [unlike] at h
      simp only [ASt.put, setNth_eq]
      rw [List.set_comm _ _ hne]
theorem setBox_comm (st : ASt) {i j : Nat} (h : i ≠ j) (b c : Option BC) : (st.setBox i b).setBox j c = (st.setBox j c).setBox i b := by
  simp only [ASt.setBox, setNth_eq]
  rw [List.set_comm _ _ h]
theorem setBox_put (st : ASt) (i : Nat) (b : Option BC) (d : Option Nat) (v : AV) : (st.put d v).setBox i b = (st.setBox i b).put d v := by cases d <;> rfl
theorem nid_put (st : ASt) (d d' : Option Tmp) (v : AV) : (st.put d v).nid d' = st.nid d' := by cases d' <;> simp [ASt.nid, out_put]
theorem nid_setBox (st : ASt) (i : Nat) (b : Option BC) (d' : Option Tmp) : (st.setBox i b).nid d' = st.nid d' := by cases d' <;> rfl
theorem nid_ne {d d' : Nat} (h : d ≠ d') : st.nid (some d) ≠ st.nid (some d') := by simp only [ASt.nid]; omega

theorem look_of_app {e : Eff} {d : Option Nat} {c : Cls} (hm : Move c st e) (ha : e.app st d = some s1) :
    (∀ j, (∃ v, e = .val v) → s1.look j = st.look j) ∧ (∀ j b row, e = .new b row → s1.look j = if st.nid d = j then some b else st.look j) ∧ (∀ j i b v, e = .upd i b v → s1.look j = if i = j then some b else st.look j) := by
  refine ⟨fun j ⟨v, hv⟩ => ?_, fun j b row hb => ?_, fun j i b v hu => ?_⟩
  · subst hv
    simp only [Eff.app, Option.some.injEq] at ha
    subst ha
    rw [look_put]
  · subst hb
    obtain ⟨dd, rfl, hl, hlt, rfl⟩ := app_newN ha
    rw [look_put, look_setBox]
    by_cases h : st.nid (some dd) = j
    · subst h; simp [hlt]
    · simp [h]
  · subst hu
    simp only [Eff.app, Option.some.injEq] at ha
    subst ha
    rw [look_put, look_setBox]
    cases hm with
    | upd _ _ _ _ hl =>
      obtain ⟨c, hc⟩ := Option.isSome_iff_exists.1 hl
      by_cases h : i = j
      · subst h; simp [look_lt hc]
      · simp [h]

theorem banned_congr {ban : List Nat} {s t : ASt} (h : ∀ j, j ∉ ban → s.look j = t.look j) : banned ban s.look = banned ban t.look := by
  funext j
  unfold banned
  cases hm : memB j ban with
  | true => rfl
  | false => simp only [cond_false]; exact h j (fun e => by rw [(memB_iff _ _).2 e] at hm; cases hm)

/-- Effects that go together, the other way round. -/
theorem app_swap {cx cy : Cls} {dx dy : Option Nat} {ex ey : Eff} (hu : unlike dx dy = true) (mx : Move cx st ex) (my : Move cy s1 ey) (hx : ex.app st dx = some s1) (hy : ey.app s1 dy = some s2)
    (hb : ∀ i b v, ey = .upd i b v → (∃ b row, ex = .new b row) → st.nid dx ≠ i) (hw : ∀ i b v i' b' v', ex = .upd i b v → ey = .upd i' b' v' → i ≠ i') : ∃ s1', ey.app st dy = some s1' ∧ ex.app s1' dx = some s2 := by
  cases mx with
  | val u hc =>
    simp only [Eff.app, Option.some.injEq] at hx
    subst hx
    cases my with
    | val v hc' =>
      simp only [Eff.app, Option.some.injEq] at hy
      subst hy
      exact ⟨_, rfl, by simp only [Eff.app]; rw [put_comm st hu]⟩
    | new b v hc' =>
      obtain ⟨d, rfl, hl, hlt, rfl⟩ := app_newN hy
      rw [look_put, nid_put] at hl
      rw [boxes_put, nid_put] at hlt
      refine ⟨_, new_app hl hlt, ?_⟩
      simp only [Eff.app, Option.some.injEq]
      rw [setBox_put, put_comm _ hu, nid_put]
    | upd i b v hc' hl =>
      simp only [Eff.app, Option.some.injEq] at hy
      subst hy
      refine ⟨_, rfl, ?_⟩
      simp only [Eff.app, Option.some.injEq]
      rw [setBox_put, put_comm _ hu]
  | new b u hc =>
    obtain ⟨d, rfl, hl, hlt, rfl⟩ := app_newN hx
    have hlk : ∀ j, ((st.setBox (st.nid (some d)) (some b)).put (some d) u).look j = if st.nid (some d) = j then some b else st.look j := fun j => by
      rw [look_put, look_setBox]
      by_cases h : st.nid (some d) = j
      · rw [if_pos ⟨h, hlt⟩, if_pos h]
      · rw [if_neg (fun h' => h h'.1), if_neg h]
    cases my with
    | val v hc' =>
      simp only [Eff.app, Option.some.injEq] at hy
      subst hy
      refine ⟨_, rfl, ?_⟩
      rw [new_app (by rw [look_put, nid_put]; exact hl) (by rw [boxes_put, nid_put]; exact hlt), nid_put, setBox_put, put_comm _ hu]
    | new b' v hc' =>
      obtain ⟨d', rfl, hl', hlt', rfl⟩ := app_newN hy
      have hne : d ≠ d' := fun e => by subst e; simp [unlike] at hu
      have hni : st.nid (some d) ≠ st.nid (some d') := nid_ne hne
      rw [nid_put, nid_setBox] at hl' hlt'
      rw [hlk, if_neg hni] at hl'
      have hlt2 : st.nid (some d') < st.boxes.length := by rw [boxes_put] at hlt'; simpa [ASt.setBox, setNth_eq] using hlt'
      refine ⟨_, new_app hl' hlt2, ?_⟩
      rw [new_app (by rw [look_put, nid_put, nid_setBox, look_setBox, if_neg (fun h => hni h.1.symm)]; exact hl) (by rw [boxes_put, nid_put, nid_setBox]; simpa [ASt.setBox, setNth_eq] using hlt)]
      rw [nid_put, nid_setBox, nid_put, nid_setBox, setBox_put, setBox_put, setBox_comm _ hni, put_comm _ (d := some d) (d' := some d') hu]
    | upd i b' v hc' hl' =>
      simp only [Eff.app, Option.some.injEq] at hy
      subst hy
      have hid := hb i b' v rfl ⟨b, u, rfl⟩
      refine ⟨_, rfl, ?_⟩
      rw [new_app (by rw [look_put, nid_put, nid_setBox, look_setBox, if_neg (fun h => hid h.1.symm)]; exact hl) (by rw [boxes_put, nid_put, nid_setBox]; simpa [ASt.setBox, setNth_eq] using hlt)]
      rw [nid_put, nid_setBox, setBox_put, setBox_put, setBox_comm _ hid, put_comm _ (d := some d) (d' := dy) hu]
  | upd i b u hc hl =>
    simp only [Eff.app, Option.some.injEq] at hx
    subst hx
    subst hc
    cases my with
    | val v hc' =>
      simp only [Eff.app, Option.some.injEq] at hy
      subst hy
      refine ⟨_, rfl, ?_⟩
      simp only [Eff.app, Option.some.injEq]
      rw [setBox_put, put_comm _ hu]
    | new b' v hc' =>
      obtain ⟨d', rfl, hl', hlt', rfl⟩ := app_newN hy
      rw [nid_put, nid_setBox] at hl' hlt'
      rw [look_put, look_setBox] at hl'
      obtain ⟨c, hc2⟩ := Option.isSome_iff_exists.1 hl
      have hlt2 : st.nid (some d') < st.boxes.length := by rw [boxes_put] at hlt'; simpa [ASt.setBox, setNth_eq] using hlt'
      have hne : i ≠ st.nid (some d') := fun e => by rw [if_pos ⟨e, look_lt hc2⟩] at hl'; cases hl'
      have hl3 : st.look (st.nid (some d')) = none := by
        rw [if_neg (fun h => hne h.1)] at hl'; exact hl'
      refine ⟨_, new_app hl3 hlt2, ?_⟩
      simp only [Eff.app, Option.some.injEq]
      rw [nid_put, nid_setBox, setBox_put, setBox_put, setBox_comm _ hne, put_comm _ (d := some d') (d' := dx) (unlike_symm hu)]
    | upd i' b' v hc' hl' =>
      have hne := hw i b u i' b' v rfl rfl
      simp only [Eff.app, Option.some.injEq] at hy
      subst hy
      refine ⟨_, rfl, ?_⟩
      simp only [Eff.app, Option.some.injEq]
      rw [setBox_put, setBox_put, setBox_comm _ hne, put_comm _ hu]

theorem ite_cls {p : Prop} [Decidable p] {c d : Cls} (h : (if p then c else .N) = d) (hd : d ≠ .N) : c = d := by
  by_cases hp : p
  · rwa [if_pos hp] at h
  · rw [if_neg hp] at h; exact absurd h.symm hd
theorem ite_makes {p : Prop} [Decidable p] {c : Cls} (h : (if p then c else .N) = .A ∨ (if p then c else .N) = .B ∨ (if p then c else .N) = .P) : c.makes = true := by
  rcases h with h | h | h <;> rw [ite_cls h (by simp)] <;> rfl

theorem clean_same {ps : List Nat} {s t : ASt} {d : Option Nat} {e : Eff} (hb : s.base = t.base) (h : ∀ k, d = some k → nth (.one .junk) s.slots k = nth (.one .junk) t.slots k) : cleanE ps s d e = cleanE ps t d e := by
  unfold cleanE
  congr 1
  funext k
  cases d with
  | none => rw [hb]
  | some d => simp only [hb, h d rfl]
theorem unlike_ne {a b : Option Nat} (h : unlike a b = true) : ∀ k, b = some k → a ≠ some k := fun k hk e => by subst hk; subst e; simp [unlike] at h

/-- Of two operations that have nothing to do with one another the second may be done first. -/
theorem opP_swap {ops : List Oper} {x y : Item} (hap : apartB ops x.o y.o = true) (hxd : x.dr = true) (hyd : y.dr = true) (hxx : (clsOf x.o.op).isX = false) (hyx : (clsOf y.o.op).isX = false)
    (hbx : (clsOf x.o.op).makes = true → ∀ d, x.o.dst = some d → d ∈ y.ban.1) (hby : (clsOf y.o.op).makes = true → ∀ d, y.o.dst = some d → d ∈ x.ban.1)
    (hox : (clsOf y.o.op).reads = true → y.ban ∈ x.own) (hoy : (clsOf x.o.op).reads = true → x.ban ∈ y.own) (h1 : OpP E C ops x st s1) (h2 : OpP E C ops y s1 s2) :
    ∃ s1', OpP E C ops y st s1' ∧ OpP E C ops x s1' s2 := by
  simp only [apartB, Bool.and_eq_true] at hap
  obtain ⟨⟨⟨⟨hg, hfx⟩, hfy⟩, hu⟩, _⟩ := hap
  obtain ⟨hfx1, hfx2⟩ := freeOf_append hfx
  obtain ⟨hfy1, hfy2⟩ := freeOf_append hfy
  have hu' : unlike y.o.dst x.o.dst = true := unlike_symm hu
  -- what the first one does, and whether it does anything
  have dec : ∀ {i : Item} {s s' : ASt}, i.dr = true → (clsOf i.o.op).isX = false → OpP E C ops i s s' → ∃ e, (guardN ops i.o s = some (some true) → cleanE i.push s i.o.dst e = true) ∧ Move (if guardN ops i.o s = some (some true) then clsOf i.o.op else .N) s e ∧ e.nfE.app s i.o.dst = some s' ∧
      ((guardN ops i.o s = some (some true) ∧ (opL E (s.nid i.o.dst) (banned (banAt i.ban s.base) s.look) i.o.op (i.o.op.operands.toList.map s.ev)).hits C e ∧ (e.plain = true ∧ e.inOwn s.base i.own = true)) ∨ (∃ b, guardN ops i.o s = some b ∧ b ≠ some true ∧ e = .val (.one .undef))) := by
    intro i s s' hd hx h
    rcases h with ⟨hg, e, k1, k2, k3⟩ | ⟨b, hg, hb, h⟩
    · refine ⟨e, fun _ => (k2 hd).2, ?_, k3, .inl ⟨hg, k1, (k2 hd).1⟩⟩
      rw [if_pos hg]
      exact move_of hx (k2 hd).1.1 k1
    · refine ⟨.val (.one .undef), fun h => absurd (Option.some.inj (hg.symm.trans h)) hb, ?_, ?_, .inr ⟨b, hg, hb, rfl⟩⟩
      · rw [if_neg (by rw [hg]; simpa using hb)]
        exact .val _ (.inl rfl)
      · rw [h]; rfl
  obtain ⟨ex, cx, mx, ax, hx⟩ := dec hxd hxx h1
  obtain ⟨ey, cy, my, ay, hy⟩ := dec hyd hyx h2
  have px : ex.nfE.plain = true := by rw [plain_nf]; cases mx <;> rfl
  have py : ey.nfE.plain = true := by rw [plain_nf]; cases my <;> rfl
  obtain ⟨sb1, _, so1⟩ := plain_app px ax
  have hb1 : s1.base = st.base := by simp [ASt.base, so1]
  have hn1 : ∀ d, s1.nid d = st.nid d := fun d => by cases d <;> simp [ASt.nid, so1]
  have hgy : guardN ops y.o s1 = guardN ops y.o st := guard_same sb1 hfx1
  have hvy : y.o.op.operands.toList.map s1.ev = y.o.op.operands.toList.map st.ev := evs_same sb1 hfx2
  -- what is turned is not looked at
  have inO : ∀ {base : Nat} {own : List (List Nat × List Nat)} {ban : List Nat × List Nat} {i : Nat} {b : BC} {v : AV}, Eff.inOwn base own (.upd i b v) = true → ban ∈ own → i ∈ banAt ban base := fun {base own ban i b v} h hm => by
    simp only [Eff.inOwn, List.all_eq_true] at h
    exact (memB_iff _ _).1 (h ban hm)
  have inBan : ∀ {d : Nat} {ban : List Nat × List Nat} {s : ASt}, d ∈ ban.1 → s.nid (some d) ∈ banAt ban s.base := fun {d ban s} h => List.mem_append_left _ (List.mem_map.2 ⟨d, h, rfl⟩)
  have hW : ∀ i b v i' b' v', ex = .upd i b v → ey = .upd i' b' v' → i ≠ i' := by
    rintro i b v i' b' v' rfl rfl rfl
    rcases hx with ⟨_, _, _, ho⟩ | ⟨_, _, _, he⟩
    · rcases hy with ⟨_, hh, _⟩ | ⟨_, _, _, he⟩
      · have hWy : clsOf y.o.op = .W := by
          cases my with
          | upd _ _ _ hc _ => exact ite_cls hc (by simp)
        have hin := inO ho (hox (by rw [hWy]; rfl))
        obtain ⟨i', b2, v2, he, hl⟩ := (cls_W hWy _).hits hh rfl
        cases he
        unfold banned at hl
        rw [hb1, (memB_iff _ _).2 hin] at hl
        simp at hl
      · cases he
    · cases he
  have hban : ∀ i b v, ey = .upd i b v → (∃ b row, ex = .new b row) → st.nid x.o.dst ≠ i := by
    rintro i b v rfl ⟨b', row, rfl⟩ hd
    obtain ⟨d, hdx, _⟩ := app_newN ax
    rcases hy with ⟨_, hh, _⟩ | ⟨_, _, _, he⟩
    · have hmk : (clsOf x.o.op).makes = true := by
        cases mx with
        | new _ _ hc => exact ite_makes hc
      have hin := inBan (s := st) (hbx hmk d hdx)
      have hW : clsOf y.o.op = .W := by
        cases my with
        | upd _ _ _ hc _ => exact ite_cls hc (by simp)
      obtain ⟨i', b2, v2, he, hl⟩ := (cls_W hW _).hits hh rfl
      cases he
      unfold banned at hl
      rw [hdx] at hd
      rw [hd] at hin
      rw [hb1, (memB_iff _ _).2 hin] at hl
      simp at hl
    · cases he
  have nfU : ∀ {e : Eff} {i b v}, e.nfE = .upd i b v → ∃ v', e = .upd i b v' := fun {e i b v} h => by
    cases e <;> simp only [Eff.nfE, Eff.upd.injEq, reduceCtorEq] at h
    obtain ⟨rfl, rfl, _⟩ := h
    exact ⟨_, rfl⟩
  have nfN : ∀ {e : Eff}, (∃ b v, e.nfE = .new b v) → ∃ b v, e = .new b v := fun {e} ⟨b, v, h⟩ => by
    cases e <;> simp only [Eff.nfE, Eff.new.injEq, reduceCtorEq] at h
    exact ⟨_, _, rfl⟩
  obtain ⟨s1', ay', ax'⟩ := app_swap hu mx.nf my.nf ax ay (fun i b v hy hx => by obtain ⟨v', h⟩ := nfU hy; exact hban i b v' h (nfN hx))
    (fun i b v i' b' v' hx hy => by obtain ⟨u, h⟩ := nfU hx; obtain ⟨u', h'⟩ := nfU hy; exact hW i b u i' b' u' h h')
  obtain ⟨sb2, _, so2⟩ := plain_app py ay'
  have hb2 : s1'.base = st.base := by simp [ASt.base, so2]
  have hn2 : ∀ d, s1'.nid d = st.nid d := fun d => by cases d <;> simp [ASt.nid, so2]
  have hgx : guardN ops x.o s1' = guardN ops x.o st := guard_same sb2 hfy1
  have hvx : x.o.op.operands.toList.map s1'.ev = x.o.op.operands.toList.map st.ev := evs_same sb2 hfy2
  have readsOf : ∀ {o : Op}, (clsOf o).isX = false → ¬ (clsOf o = .N ∨ clsOf o = .A) → (clsOf o).reads = true := fun {o} hx hf => by
    cases hc : clsOf o with
    | N => exact absurd (.inl hc) hf
    | A => exact absurd (.inr hc) hf
    | X => rw [hc] at hx; cases hx
    | _ => rfl
  refine ⟨s1', ?_, ?_⟩
  · rcases hy with ⟨hgv, hh, hp⟩ | ⟨b, hgv, hb, rfl⟩
    · rw [hgy] at hgv
      have hcl : cleanE y.push st y.o.dst ey = true := by
        rw [← clean_same hb1 (fun k hk => sb1.2 k (unlike_ne hu k hk))]
        exact cy (by rw [hgy]; exact hgv)
      refine .inl ⟨hgv, ey, ?_, fun _ => ⟨by rw [← hb1]; exact hp, hcl⟩, ay'⟩
      rw [hvy, hn1, hb1] at hh
      -- it looks at the same
      by_cases hfree : clsOf y.o.op = .N ∨ clsOf y.o.op = .A
      · rw [look_free hfree]; exact hh
      · have : banned (banAt y.ban st.base) st.look = banned (banAt y.ban st.base) s1.look := by
          refine banned_congr (fun j hj => ?_)
          obtain ⟨l1, l2, l3⟩ := look_of_app mx.nf ax
          cases mx with
          | val u hc => exact (l1 j ⟨_, rfl⟩).symm
          | new b row hc =>
            have hmk : (clsOf x.o.op).makes = true := ite_makes hc
            rw [l2 j b _ rfl]
            obtain ⟨d, hdx, _⟩ := app_newN ax
            split
            · rename_i hd
              rw [hdx] at hd
              exact absurd (hd ▸ inBan (s := st) (hbx hmk d hdx)) hj
            · rfl
          | upd i b v hc hl =>
            rw [l3 j i b _ rfl]
            split
            · rename_i hij
              subst hij
              rcases hx with ⟨_, _, _, ho⟩ | ⟨_, _, _, he⟩
              · exact absurd (inO ho (hox (readsOf hyx hfree))) hj
              · cases he
            · rfl
        rw [this]; exact hh
    · rw [hgy] at hgv
      refine .inr ⟨b, hgv, hb, ?_⟩
      simp only [Eff.nfE, Eff.app, Option.some.injEq] at ay'
      exact ay'.symm
  · rcases hx with ⟨hgv, hh, hp⟩ | ⟨b, hgv, hb, rfl⟩
    · have hcl : cleanE x.push s1' x.o.dst ex = true := by
        rw [clean_same hb2 (fun k hk => sb2.2 k (unlike_ne hu' k hk))]
        exact cx hgv
      refine .inl ⟨by rw [hgx, hgv], ex, ?_, fun _ => ⟨by rw [hb2]; exact hp, hcl⟩, ax'⟩
      rw [hvx, hn2, hb2]
      by_cases hfree : clsOf x.o.op = .N ∨ clsOf x.o.op = .A
      · rw [look_free hfree]; exact hh
      · have : banned (banAt x.ban st.base) s1'.look = banned (banAt x.ban st.base) st.look := by
          refine banned_congr (fun j hj => ?_)
          have my' : Move (if guardN ops y.o s1 = some (some true) then clsOf y.o.op else .N) st ey := by
            cases my with
            | val v hc => exact .val v hc
            | new b row hc => exact .new b row hc
            | upd i b v hc hl =>
              refine .upd i b v hc ?_
              obtain ⟨l1, l2, l3⟩ := look_of_app mx.nf ax
              cases mx with
              | val u hc => rw [l1 i ⟨_, rfl⟩] at hl; exact hl
              | new b' row hc =>
                rw [l2 i b' _ rfl] at hl
                rw [if_neg (hban i b v rfl ⟨b', row, rfl⟩)] at hl
                exact hl
              | upd i' b' v' hc' hl' =>
                rw [l3 i i' b' _ rfl] at hl
                by_cases he : i' = i
                · subst he; exact hl'
                · rw [if_neg he] at hl; exact hl
          obtain ⟨l1, l2, l3⟩ := look_of_app my'.nf ay'
          cases my' with
          | val u hc => exact l1 j ⟨_, rfl⟩
          | new b row hc =>
            have hmk : (clsOf y.o.op).makes = true := ite_makes hc
            rw [l2 j b _ rfl]
            obtain ⟨d, hdy, _⟩ := app_newN ay'
            split
            · rename_i hd
              rw [hdy] at hd
              exact absurd (hd ▸ inBan (s := st) (hby hmk d hdy)) hj
            · rfl
          | upd i b v hc hl =>
            rw [l3 j i b _ rfl]
            split
            · rename_i hij
              subst hij
              rcases hy with ⟨_, _, _, ho⟩ | ⟨_, _, _, he⟩
              · rw [hb1] at ho
                exact absurd (inO ho (hoy (readsOf hxx hfree))) hj
              · cases he
            · rfl
        rw [this]; exact hh
    · refine .inr ⟨b, by rw [hgx, hgv], hb, ?_⟩
      simp only [Eff.nfE, Eff.app, Option.some.injEq] at ax'
      exact ax'.symm
end
end Go.Ab

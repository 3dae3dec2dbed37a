
/- The law of layer 3: how many lines. No condition. -/
import Derived.Test.YtpjgfmcefipjpaaDoorD3F22
set_option linter.unusedVariables false
set_option maxRecDepth 10000
namespace Go.Ab
theorem ite_P {c : Prop} [Decidable c] {a b : List UInt8} {P : List UInt8 → Prop} (ha : P a) (hb : P b) : P (if c then a else b) := by
  by_cases h : c
  · rw [if_pos h]; exact ha
  · rw [if_neg h]; exact hb
theorem digit_byte : ∀ (u : Nat), ∀ c ∈ Lib.decDigits u, 48 ≤ c.toNat ∧ c.toNat ≤ 57 := by
  intro u
  induction u using Nat.strongRecOn with
  | _ u ih =>
    intro c hc
    by_cases h : u < 10
    · rw [Lib.decDigits_one h] at hc
      simp only [List.mem_singleton] at hc
      subst hc
      simp [UInt8.toNat_ofNat']
      omega
    · rw [Lib.decDigits, dif_neg h, List.mem_append] at hc
      rcases hc with hc | hc
      · exact ih (u / 10) (by omega) c hc
      · simp only [List.mem_singleton] at hc
        subst hc
        simp [UInt8.toNat_ofNat']
        omega
theorem itoa_byte (n : Int) : ∀ c ∈ Lib.itoa n, c.toNat = 45 ∨ 48 ≤ c.toNat ∧ c.toNat ≤ 57 := by
  intro c hc
  unfold Lib.itoa at hc
  split at hc
  · rcases List.mem_cons.1 hc with rfl | hc
    · exact .inl rfl
    · exact .inr (digit_byte _ c hc)
  · exact .inr (digit_byte _ c hc)
theorem nl_itoa (n : Int) : (Lib.itoa n).count 10 = 0 := by
  rw [List.count_eq_zero]
  intro h
  have := itoa_byte n 10 h
  simp at this
theorem nl_nums : ∀ (ns : List Int), (ns.flatMap numT).count 10 = 0
  | [] => rfl
  | n :: l => by
    rw [List.flatMap_cons, List.count_append, nl_nums l, numT, List.count_cons, nl_itoa]
    rfl
theorem nl_line {w : List UInt8} (hw : w.count 10 = 0) (ns : List Int) : (lineT w ns).count 10 = 0 := by
  rw [lineT, List.count_append, hw, nl_nums]
theorem nl_ins (x : DIns) : (insT x).count 10 = 0 := by
  unfold insT
  repeat' (refine ite_P (P := fun l => l.count 10 = 0) ?_ ?_)
  all_goals first | exact nl_line (by decide) _ | rfl
theorem nl_end (x : DEnd) : (endT x).count 10 = 0 := by
  unfold endT
  repeat' (refine ite_P (P := fun l => l.count 10 = 0) ?_ ?_)
  all_goals first | exact nl_line (by decide) _ | rfl
theorem nl_pad (x : DPad) : (padT x).count 10 = 0 := by
  unfold padT
  rw [List.count_append, List.count_append, List.count_append, nl_line (by decide)]
  have h1 : (if 0 < x.catches.length then 32 :: lineT [99, 97, 116, 99, 104] x.catches else []).count 10 = 0 := by
    split
    · rw [List.count_cons, nl_line (by decide)]; rfl
    · rfl
  rw [h1]
  cases x.all <;> cases x.cleanup <;> rfl
theorem nl_head (b : DBlock) : (headT b).count 10 = 0 := by
  unfold headT
  cases b.landing
  · exact nl_line (by decide) _
  · exact nl_pad _
theorem nl_inss : ∀ (l : List DIns), (l.flatMap fun x => insT x ++ [10]).count 10 = l.length
  | [] => rfl
  | x :: l => by
    rw [List.flatMap_cons, List.count_append, nl_inss l, List.count_append, nl_ins, List.length_cons]
    simp; omega
def cntB (b : DBlock) : Nat := b.ins.length
def cntF (f : DFunc) : Nat := 2 * f.blocks.length + (f.blocks.map cntB).sum
def cntM (m : DMod) : Nat := m.funcs.length + (m.funcs.map cntF).sum
theorem nl_block (b : DBlock) : (blockT b).count 10 = 2 + cntB b := by
  simp only [blockT, List.count_append, nl_head, nl_inss, nl_end, cntB]
  simp; omega
theorem nl_blocks : ∀ (l : List DBlock), (l.flatMap blockT).count 10 = 2 * l.length + (l.map cntB).sum
  | [] => rfl
  | b :: l => by
    rw [List.flatMap_cons, List.count_append, nl_blocks l, nl_block, List.length_cons, List.map_cons, List.sum_cons]
    omega
theorem nl_func (f : DFunc) : (funcT f).count 10 = 1 + cntF f := by
  simp only [funcT, List.count_append, nl_blocks, cntF, nl_line (w := [102, 117, 110, 99]) (by decide)]
  simp
theorem nl_funcs : ∀ (l : List DFunc), (l.flatMap funcT).count 10 = l.length + (l.map cntF).sum
  | [] => rfl
  | b :: l => by
    rw [List.flatMap_cons, List.count_append, nl_funcs l, nl_func, List.length_cons, List.map_cons, List.sum_cons]
    omega
theorem nl_mod (m : DMod) : (modT m).count 10 = cntM m := nl_funcs m.funcs

/-! ### how long -/
theorem insT_len {q : Option Bool} {e : List TV} {x : DIns} (h : RIns q e x) (hl : x.args.length ≤ 20) : (insT x).length ≤ 500 := by
  obtain ⟨g, rfl, hg, ho, hd, ha, hb, hk, hf⟩ := h
  have hkI : inI x.k := by obtain ⟨_, _⟩ := hk; constructor <;> omega
  have hgI := hg.inI
  have key : ∀ (w : List UInt8) (ns : List Int), w.length ≤ 10 → ns.length ≤ 22 → (∀ n, n ∈ ns → inI n) → (lineT w ns).length ≤ 500 := fun w ns h1 h2 h3 => by have := lineT_len (w := w) h3; omega
  have hc : ∀ n, n ∈ [x.dst, x.f] ++ x.args → inI n := fun n hn => by
    rcases List.mem_append.1 hn with h | h
    · simp at h; rcases h with rfl | rfl <;> assumption
    · exact hgI n h
  unfold insT
  repeat' (refine ite_P (P := fun l => l.length ≤ 500) ?_ ?_)
  all_goals first
    | exact key _ ([x.dst, x.f] ++ x.args) (by simp) (by simp; omega) hc
    | exact key _ _ (by simp) (by simp) (by simp [*])
    | simp
theorem endT_len {x : DEnd} (ho : x.ok) (hgI : ∀ n, n ∈ x.args → inI n) (hl : x.args.length ≤ 20) : (endT x).length ≤ 600 := by
  obtain ⟨hk, ha, hd, hf, ht, he, hp⟩ := ho
  have key : ∀ (w : List UInt8) (ns : List Int), w.length ≤ 10 → ns.length ≤ 24 → (∀ n, n ∈ ns → inI n) → (lineT w ns).length ≤ 600 := fun w ns h1 h2 h3 => by have := lineT_len (w := w) h3; omega
  have hc : ∀ n, n ∈ [x.dst, x.f, x.to, x.pad] ++ x.args → inI n := fun n hn => by
    rcases List.mem_append.1 hn with h | h
    · simp at h; rcases h with rfl | rfl | rfl | rfl <;> assumption
    · exact hgI n h
  unfold endT
  repeat' (refine ite_P (P := fun l => l.length ≤ 600) ?_ ?_)
  all_goals first
    | exact key _ ([x.dst, x.f, x.to, x.pad] ++ x.args) (by simp) (by simp; omega) hc
    | exact key _ _ (by simp) (by simp) (by simp [*])
    | simp
theorem padT_len {x : DPad} (hd : inI x.dst) (hgI : ∀ n, n ∈ x.catches → inW n) (hl : x.catches.length ≤ 20) : (padT x).length ≤ 600 := by
  have h1 := lineT_len (w := [112, 97, 100]) (ns := [x.dst]) (by simp [hd])
  have h2 := lineT_len (w := [99, 97, 116, 99, 104]) (ns := x.catches) (fun n hn => by obtain ⟨_, _⟩ := hgI n hn; constructor <;> omega)
  simp only [List.length_cons, List.length_nil] at h1 h2
  unfold padT
  have h3 : (if 0 < x.catches.length then 32 :: lineT [99, 97, 116, 99, 104] x.catches else []).length ≤ 500 := by
    split
    · simp only [List.length_cons]; omega
    · simp
  have h4 : (bif x.all then ([32, 97, 108, 108] : List UInt8) else []).length ≤ 4 := by cases x.all <;> simp
  have h5 : (bif x.cleanup then ([32, 99, 108, 101, 97, 110, 117, 112] : List UInt8) else []).length ≤ 8 := by cases x.cleanup <;> simp
  simp only [List.length_append]
  omega
theorem blockT_len {q : Option Bool} {e : List TV} {b : DBlock} (h : RBlock q e b) (hs : shortB b) : (blockT b).length ≤ 40000 := by
  obtain ⟨c, i, g, rfl, hc, hd, hi, hg, ho⟩ := h
  have h1 := endT_len ho hg.inI hs.2.2.1
  have h2 := padT_len hd (fun n hn => by obtain ⟨e, _, h⟩ := RL.memR hc n hn; exact h) hs.2.1
  have h3 : (headT b).length ≤ 600 := by
    unfold headT
    cases b.landing
    · simp [lineT]
    · exact h2
  have h4 := textFlat_len (g := fun x => insT x ++ [10]) (c := 501) (l := b.ins) fun x hx => by
    obtain ⟨i, hi'⟩ := List.mem_iff_getElem?.1 hx
    obtain ⟨e, he⟩ := RL.memR hi x hx
    have := insT_len he (hs.2.2.2 i (List.getElem?_eq_some_iff.1 hi').1 x hi')
    simp; omega
  have h5 := hs.1
  simp only [blockT, List.length_append, List.length_cons, List.length_nil]
  omega
theorem funcT_len {q : Option Bool} {e : List TV} {f : DFunc} (h : RFunc q e f) (hs : shortF f) : (funcT f).length ≤ 3000000 := by
  obtain ⟨y, rfl, hy, hp, hr⟩ := h
  have h1 := lineT_len (w := [102, 117, 110, 99]) (ns := [f.params, f.regs]) (by simp [hp, hr])
  have h4 := textFlat_len (g := blockT) (c := 40000) (l := f.blocks) fun x hx => by
    obtain ⟨i, hi'⟩ := List.mem_iff_getElem?.1 hx
    obtain ⟨e, he⟩ := RL.memR hy x hx
    exact blockT_len he (hs.2 i (List.getElem?_eq_some_iff.1 hi').1 x hi')
  have h5 := hs.1
  simp only [List.length_cons, List.length_nil] at h1
  simp only [funcT, List.length_append, List.length_cons, List.length_nil]
  omega
theorem modT_len {q : Option Bool} {e : List TV} {m : DMod} (h : RMod q e m) (hs : shortM m) : (modT m).length ≤ 60000000 := by
  obtain ⟨y, rfl, hy⟩ := h
  have h4 := textFlat_len (g := funcT) (c := 3000000) (l := m.funcs) fun x hx => by
    obtain ⟨i, hi'⟩ := List.mem_iff_getElem?.1 hx
    obtain ⟨e, he⟩ := RL.memR hy x hx
    exact funcT_len he (hs.2 i (List.getElem?_eq_some_iff.1 hi').1 x hi')
  have h5 := hs.1
  simp only [modT]
  omega
theorem modT_room {q : Option Bool} {e : List TV} {m : DMod} (h : RMod q e m) (hs : shortM m) : (modT m).length ≤ roomB := by
  have := modT_len h hs
  simp [roomB]; omega
theorem pstr_at {t : List UInt8} {k : Nat} {c : UInt8} (h : t[k]? = some c) : pstr (S t) (I k) = some (.lit (.int .u8 (c.toNat : Int))) := by
  obtain ⟨hk, rfl⟩ := List.getElem?_eq_some_iff.1 h
  have : (⟨⟨t⟩⟩ : ByteArray)[k]? = some t[k] := by
    rw [getElem?_pos _ _ (by exact hk)]
    rfl
  simp [pstr, this]
end Go.Ab


/- What the functions of layer 2 answer: which modules may be, the program's. No condition. -/
import Derived.Test.YtpoidnkgadhdmaaH6F4
set_option linter.unusedVariables false
set_option maxRecDepth 10000
namespace Go.Ab
theorem RL.slice {α : Type} {q : Option Bool} {s : Nat} {R : List TV → α → Prop} {x : TV} {l : List α} (h : RL q s R x l) {t : TypeId} {lo hi : Option Nat} (h1 : lo.getD 0 ≤ hi.getD l.length) (h2 : hi.getD l.length ≤ l.length) :
    ∃ y, pslice (.slice t) s x lo hi = some y ∧ RL q s R y ((l.drop (lo.getD 0)).take (hi.getD l.length - lo.getD 0)) := by
  rcases h with ⟨rfl, rfl⟩ | ⟨o, xs, rfl, hq, h, hb⟩
  · simp at h1 h2
    refine ⟨_, ?_, by simpa using RL.nil⟩
    have h3 : lo.getD 0 = 0 := by omega
    simp only [pslice, nilV, h2, h3, and_self, if_true]
  · have hl := h.length
    refine ⟨.sl o s ((xs.drop (lo.getD 0)).take (hi.getD xs.length - lo.getD 0)), ?_, ?_⟩
    · rw [← hl] at h1 h2
      simp only [pslice, h1, h2, and_self, if_true]
    · rw [← hl]
      exact .sl hq ((h.drop _).take _) (by simp; omega)
theorem asNat_nat {k : Nat} (h : k ≤ 9223372036854775807) : asNat (I (k : Int)) = some k := by
  simp [asNat]; omega
def unlikeP (l : List Int) : Prop := ∀ i, i < l.length → ∀ a, l[i]? = some a → a ∉ l.take i
def padP (landing : Bool) (regs : Int) (p : DPad) : Prop := (landing = false → p.dst = 0 ∧ p.catches = [] ∧ p.all = false ∧ p.cleanup = false) ∧
  (landing = true → within p.dst regs ∧ p.catches.length ≤ 8 ∧ unlikeP p.catches ∧ (p.catches ≠ [] ∨ p.all = true ∨ p.cleanup = true))
theorem len_pos {α : Type} {l : List α} : (0 < (l.length : Int)) ↔ l ≠ [] := by cases l <;> simp
end Go.Ab
namespace Go.Ab.H6
open Go Go.Ab Go.Proofs
theorem r59 {q : Option Bool} {x : TV} {l : List Int} {w : Int} (hx : RWords q x l) : ∃ n, Runs prog 83 [x, W w] (I n) ∧ (0 ≤ n ↔ w ∈ l) := by
  have loop : ∀ d k, k + d = l.length → ∃ n, Goes prog 83 (f83_0 x (W w) (I l.length) (I k)) (I n) ∧ (0 ≤ n ↔ ∃ i, k ≤ i ∧ l[i]? = some w) := by
    intro d
    induction d with
    | zero =>
      intro k hk
      have hk : k = l.length := by omega
      subst hk
      refine ⟨-1, ?_, ?_⟩
      · unfold f83_0
        refine Goes.tv rfl (Goes.ite asB_end (fun h => nomatch h) fun _ => ?_)
        exact Goes.ret
      · simp only [show ¬ (0 : Int) ≤ -1 by omega, false_iff, not_exists, not_and]
        intro i hi
        rw [List.getElem?_eq_none hi]; simp
    | succ d ih =>
      intro k hk
      have hk' : k < l.length := by omega
      have ha : l[k]? = some l[k] := List.getElem?_eq_getElem hk'
      obtain ⟨e, he, rfl, _⟩ := hx.idx (k := .i64) ha
      obtain ⟨n, hn, hiff⟩ := ih (k + 1) (by omega)
      by_cases hw : w = l[k]
      · refine ⟨(k : Int), ?_, ?_⟩
        · unfold f83_0
          refine Goes.tv rfl (Goes.ite (asB_lt hk') (fun _ => ?_) fun h => nomatch h)
          refine Goes.tvs he (Goes.chk rfl (Goes.tv rfl (Goes.ite rfl (fun h => Goes.ret) fun h => ?_)))
          simp at h; exact absurd hw h
        · constructor
          · intro _; exact ⟨k, Nat.le_refl _, by rw [ha, hw]⟩
          · intro _; omega
      · refine ⟨n, ?_, ?_⟩
        · unfold f83_0
          refine Goes.tv rfl (Goes.ite (asB_lt hk') (fun _ => ?_) fun h => nomatch h)
          refine Goes.tvs he (Goes.chk rfl (Goes.tv rfl (Goes.ite rfl (fun h => ?_) fun h => ?_)))
          · simp at h; exact absurd h hw
          · refine Goes.tv (inc hk' hx.bnd) (Goes.jmp (f83_0_R _ _ _ _) hn)
        · rw [hiff]
          constructor
          · rintro ⟨i, hi, h⟩; exact ⟨i, by omega, h⟩
          · rintro ⟨i, hi, h⟩
            refine ⟨i, ?_, h⟩
            by_cases hik : i = k
            · subst hik; rw [ha] at h; simp at h; exact absurd h.symm hw
            · omega
  obtain ⟨n, hn, hiff⟩ := loop l.length 0 (by omega)
  refine ⟨n, ?_, ?_⟩
  · refine Runs.of (f83_MR _ _) ?_
    unfold f83_M
    exact Goes.tv hx.len (Goes.jmp (f83_0_R _ _ _ _) hn)
  · rw [hiff, List.mem_iff_getElem?]
    simp
theorem r56 {q : Option Bool} {x : TV} {l : List Int} {w : Int} (hx : RWords q x l) : Runs prog 58 [x, W w] (B (tt (w ∈ l))) := by
  obtain ⟨n, hn, hiff⟩ := r59 (w := w) hx
  refine Runs.of (f58_MR _ _) ?_
  unfold f58_M
  repeat' (first
    | refine Goes.chk rfl ?_
    | refine Goes.tv rfl ?_
    | refine Goes.tv (RL.len (by assumption)) ?_
    | refine Goes.nat rfl ?_
    | refine Goes.ite rfl (fun _ => ?_) (fun _ => ?_)
    | refine Goes.call (by assumption) ?_
    | refine Goes.tvs (by assumption) ?_)
  apply ret_tt
  simp [hiff]
theorem r48 {q : Option Bool} {x : TV} {l : List Int} (hx : RWords q x l) : Runs prog 119 [x] (B (tt (unlikeP l))) := by
  refine Runs.of (f119_MR _) ?_
  unfold f119_M
  refine Goes.tv hx.len (Goes.jmp (f119_0_R _ _ _ _) ?_)
  refine allLoop' (g := fun k => f119_0 x x (I l.length) (I k)) ?_ ?_
  · unfold f119_0
    refine Goes.tv rfl (Goes.ite asB_end (fun h => nomatch h) fun _ => ?_)
    exact Goes.ret
  · intro k hk r h1 h2
    have ha : l[k]? = some l[k] := List.getElem?_eq_getElem hk
    obtain ⟨e, he, rfl, _⟩ := hx.idx (k := .i64) ha
    obtain ⟨y, hy, hry⟩ := hx.slice (t := 25) (lo := none) (hi := some k) (by simp) (by simp; omega)
    have hry' : RWords q y (l.take k) := by simpa using hry
    unfold f119_0
    refine Goes.tv rfl (Goes.ite (asB_lt hk) (fun _ => ?_) fun h => nomatch h)
    have hb := hx.bnd
    refine Goes.tvs he (Goes.chk rfl (Goes.nat (asNat_nat (by omega)) (Goes.tv hy (Goes.call (r56 hry') (Goes.chk rfl (Goes.ite rfl (fun h => ?_) fun h => ?_))))))
    · rw [h1 (by simp [ha]; simpa [tt_iff] using h)]; exact Goes.ret
    · refine Goes.tv (inc hk hx.bnd) (Goes.jmp (f119_0_R _ _ _ _) (h2 ?_))
      simp [ha]; simpa [tt_iff0] using h
theorem r32 {q : Option Bool} {fs bs : TV} {e : List TV} {p regs : Int} {a : DPad} {landing : Bool} (he : RPad q e a) : Runs prog 95 [.agg [fs, I p, I regs, bs], B landing, .agg e] (B (tt (padP landing regs a))) := by
  obtain ⟨x, rfl, hx, _⟩ := he
  have h48 := r48 hx
  cases landing
  · refine Runs.of (f95_MR _ _ _) ?_
    unfold f95_M
    repeat' (first
      | refine Goes.chk rfl ?_
      | refine Goes.tv rfl ?_
      | refine Goes.tv (RL.len (by assumption)) ?_
      | refine Goes.nat rfl ?_
      | refine Goes.ite (v := true) rfl (fun _ => ?_) (fun h => nomatch h)
      | refine Goes.ite (v := false) rfl (fun h => nomatch h) (fun _ => ?_)
      | refine Goes.ite rfl (fun _ => ?_) (fun _ => ?_)
      | refine Goes.call (by assumption) ?_
      | refine Goes.tvs (by assumption) ?_
       )
    all_goals (apply ret_tt; simp_all [padP])
  · refine Runs.of (f95_MR _ _ _) ?_
    unfold f95_M
    repeat' (first
      | refine Goes.chk rfl ?_
      | refine Goes.tv rfl ?_
      | refine Goes.tv (RL.len (by assumption)) ?_
      | refine Goes.nat rfl ?_
      | refine Goes.ite (v := true) rfl (fun _ => ?_) (fun h => nomatch h)
      | refine Goes.ite (v := false) rfl (fun h => nomatch h) (fun _ => ?_)
      | refine Goes.ite rfl (fun _ => ?_) (fun _ => ?_)
      | refine Goes.call (by assumption) ?_
      | refine Goes.tvs (by assumption) ?_
      | refine Goes.call r47 ?_)
    all_goals (apply ret_tt; simp_all [padP, tt_iff, tt_iff0, placeP_t, List.length_pos_iff] <;> omega)

def blockP (fs : List DFunc) (regs : Int) (bs : List DBlock) (b : DBlock) : Prop := b.ins.length ≤ 64 ∧ padP b.landing regs b.pad ∧ (∀ i, i < b.ins.length → ∀ x, b.ins[i]? = some x → insP fs regs x) ∧ endP fs regs bs b.fin
def funcP (fs : List DFunc) (f : DFunc) : Prop := (0 ≤ f.params ∧ f.params ≤ 8 ∧ f.params ≤ f.regs ∧ f.regs ≤ 256) ∧ f.blocks.length ≤ 64 ∧ (∃ b, f.blocks[0]? = some b ∧ b.landing = false) ∧ ∀ i, i < f.blocks.length → ∀ b, f.blocks[i]? = some b → blockP fs f.regs f.blocks b
def modP (m : DMod) : Prop := m.funcs.length ≤ 16 ∧ (∃ f, m.funcs[0]? = some f ∧ f.params = 0) ∧ ∀ i, i < m.funcs.length → ∀ f, m.funcs[i]? = some f → funcP m.funcs f

theorem r19 {q q' q2 : Option Bool} {x y : TV} {e : List TV} {fs : List DFunc} {bs : List DBlock} {p regs : Int} {b : DBlock} (hx : RL q 3 (RFunc q) x fs) (hy : RL q2 14 (RBlock q2) y bs) (he : RBlock q' e b) :
    Runs prog 67 [.agg [x, I p, I regs, y], .agg e] (B (tt (blockP fs regs bs b))) := by
  obtain ⟨c, i, g, rfl, hc, hd, hi, hg, ho⟩ := he
  have h32 : Runs prog 95 [.agg [x, I p, I regs, y], B b.landing, .agg [I b.pad.dst, c, B b.pad.all, B b.pad.cleanup]] (B (tt (padP b.landing regs b.pad))) := r32 (q := q') ⟨c, rfl, hc, hd⟩
  have h34 : Runs prog 97 [.agg [x, I p, I regs, y], .agg [I b.fin.kind, I b.fin.a, I b.fin.dst, I b.fin.f, g, I b.fin.to, I b.fin.els, I b.fin.pad]] (B (tt (endP fs regs bs b.fin))) := r34 (q' := q') hx hy ⟨g, rfl, hg, ho⟩
  refine Runs.of (f67_MR _ _) ?_
  unfold f67_M
  refine Goes.chk rfl (Goes.chk rfl (Goes.tv hi.len (Goes.tv rfl (Goes.ite rfl (fun h => ?_) fun h0 => ?_))))
  · simp at h
    exact ret_no fun h' => by have := h'.1; omega
  · refine Goes.call h32 (Goes.chk rfl (Goes.tv rfl (Goes.ite rfl (fun h => ?_) fun h => ?_)))
    · simp [tt_iff0] at h
      exact ret_no fun h' => h h'.2.1
    · simp [tt_iff] at h h0
      refine Goes.tv hi.len (Goes.jmp (f67_0_R _ _ _ _ _ _ _ _ _ _ _ _ _ _ _ _ _ _ _ _ _) ?_)
      rw [show tt (blockP fs regs bs b) = tt (allFrom 0 b.ins.length (fun i => ∀ x, b.ins[i]? = some x → insP fs regs x) ∧ endP fs regs bs b.fin) from tt_congr (by
        rw [allFrom_zero]
        exact ⟨fun h => h.2.2, fun h' => ⟨by omega, h, h'⟩⟩)]
      refine allLoop (g := fun k => f67_0 i (I b.ins.length) (I k) x (I p) (I regs) y (B b.landing) (I b.pad.dst) c (B b.pad.all) (B b.pad.cleanup) i (I b.fin.kind) (I b.fin.a) (I b.fin.dst) (I b.fin.f) g (I b.fin.to) (I b.fin.els) (I b.fin.pad)) ?_ ?_ b.ins.length 0 (by omega)
      · unfold f67_0
        refine Goes.tv rfl (Goes.ite asB_end (fun h => nomatch h) fun _ => ?_)
        refine Goes.jmp (f67_1_R _ _ _ _ _ _ _ _ _ _ _ _ _ _ _ _ _ _) ?_
        unfold f67_1
        exact Goes.call h34 (Goes.chk rfl Goes.ret)
      · intro k hk r h1 h2
        have ha : b.ins[k]? = some b.ins[k] := List.getElem?_eq_getElem hk
        obtain ⟨e, he, hr⟩ := hi.idx (k := .i64) ha
        have h33 : Runs prog 96 [.agg [x, I p, I regs, y], .agg e] (B (tt (insP fs regs b.ins[k]))) := r33 hx hr
        obtain ⟨_, rfl, _⟩ := hr
        unfold f67_0
        refine Goes.tv rfl (Goes.ite (asB_lt hk) (fun _ => ?_) fun h => nomatch h)
        refine Goes.tvs he (Goes.chk rfl (Goes.call h33 (Goes.chk rfl (Goes.tv rfl (Goes.ite rfl (fun h => ?_) fun h => ?_)))))
        · rw [h1 (by simp [ha]; simpa [tt_iff0] using h)]; exact Goes.ret
        · refine Goes.tv (inc hk hi.bnd) (Goes.jmp (f67_0_R _ _ _ _ _ _ _ _ _ _ _ _ _ _ _ _ _ _ _ _ _) (h2 ?_))
          simp [ha]; simpa [tt_iff] using h
/-- shape.Func -/
theorem r10 {q q' : Option Bool} {e e' : List TV} {m : DMod} {f : DFunc} (hm : RMod q e m) (hf : RFunc q' e' f) : Runs prog 41 [.agg e, .agg e'] (B (tt (funcP m.funcs f))) := by
  obtain ⟨x, rfl, hx⟩ := hm
  obtain ⟨y, rfl, hy, _⟩ := hf
  refine Runs.of (f41_MR _ _) ?_
  unfold f41_M
  refine Goes.chk rfl (Goes.chk rfl (Goes.tv rfl (Goes.ite rfl (fun h => ?_) fun g1 => ?_)))
  · simp at h; exact ret_no fun h' => by have := h'.1; omega
  refine Goes.tv rfl (Goes.ite rfl (fun h => ?_) fun g2 => ?_)
  · simp at h; exact ret_no fun h' => by have := h'.1; omega
  refine Goes.tv rfl (Goes.ite rfl (fun h => ?_) fun g3 => ?_)
  · simp at h; exact ret_no fun h' => by have := h'.1; omega
  refine Goes.tv rfl (Goes.ite rfl (fun h => ?_) fun g4 => ?_)
  · simp at h; exact ret_no fun h' => by have := h'.1; omega
  refine Goes.tv hy.len (Goes.tv rfl (Goes.ite rfl (fun h => ?_) fun g5 => ?_))
  · simp at h
    refine ret_no ?_
    rintro ⟨_, _, ⟨b, hb, _⟩, _⟩
    have := (List.getElem?_eq_some_iff.1 hb).1
    omega
  refine Goes.tv hy.len (Goes.tv rfl (Goes.ite rfl (fun h => ?_) fun g6 => ?_))
  · simp at h; exact ret_no fun h' => by have := h'.2.1; omega
  simp at g1 g2 g3 g4 g5 g6
  have hpos : 0 < f.blocks.length := by omega
  have hb0 : f.blocks[0]? = some f.blocks[0] := List.getElem?_eq_getElem hpos
  obtain ⟨e0, he0, hr0⟩ := hy.idx (k := .i64) hb0
  obtain ⟨_, _, _, rfl, _⟩ := hr0
  refine Goes.tvs he0 (Goes.chk rfl (Goes.ite rfl (fun h => ?_) fun g7 => ?_))
  · refine ret_no ?_
    rintro ⟨_, _, ⟨b, hb, hl⟩, _⟩
    rw [hb0] at hb
    simp at hb
    subst hb
    rw [hl] at h
    cases h
  refine Goes.tv hy.len (Goes.jmp (f41_0_R _ _ _ _ _ _ _) ?_)
  rw [show tt (funcP m.funcs f) = tt (∀ i, i < f.blocks.length → ∀ b, f.blocks[i]? = some b → blockP m.funcs f.regs f.blocks b) from tt_congr
    ⟨fun h => h.2.2.2, fun h => ⟨⟨by omega, by omega, by omega, by omega⟩, by omega, ⟨_, hb0, g7⟩, h⟩⟩]
  refine allLoop' (g := fun k => f41_0 y (I f.blocks.length) (I k) x (I f.params) (I f.regs) y) ?_ ?_
  · unfold f41_0
    refine Goes.tv rfl (Goes.ite asB_end (fun h => nomatch h) fun _ => ?_)
    exact Goes.ret
  · intro k hk r h1 h2
    have ha : f.blocks[k]? = some f.blocks[k] := List.getElem?_eq_getElem hk
    obtain ⟨e, he, hr⟩ := hy.idx (k := .i64) ha
    have h19 : Runs prog 67 [.agg [x, I f.params, I f.regs, y], .agg e] (B (tt (blockP m.funcs f.regs f.blocks f.blocks[k]))) := r19 hx hy hr
    obtain ⟨_, _, _, rfl, _⟩ := hr
    unfold f41_0
    refine Goes.tv rfl (Goes.ite (asB_lt hk) (fun _ => ?_) fun h => nomatch h)
    refine Goes.tvs he (Goes.chk rfl (Goes.call h19 (Goes.chk rfl (Goes.tv rfl (Goes.ite rfl (fun h => ?_) fun h => ?_)))))
    · rw [h1 (by simp [ha]; simpa [tt_iff0] using h)]; exact Goes.ret
    · refine Goes.tv (inc hk hy.bnd) (Goes.jmp (f41_0_R _ _ _ _ _ _ _) (h2 ?_))
      simp [ha]; simpa [tt_iff] using h
/-- shape.Right -/
theorem r8 {q : Option Bool} {e : List TV} {m : DMod} (hm : RMod q e m) : Runs prog 40 [.agg e] (B (tt (modP m))) := by
  have hm' := hm
  obtain ⟨x, rfl, hx⟩ := hm
  refine Runs.of (f40_MR _) ?_
  unfold f40_M
  refine Goes.chk rfl (Goes.tv hx.len (Goes.tv rfl (Goes.ite rfl (fun h => ?_) fun g1 => ?_)))
  · simp at h
    refine ret_no ?_
    rintro ⟨_, ⟨b, hb, _⟩, _⟩
    have := (List.getElem?_eq_some_iff.1 hb).1
    omega
  refine Goes.tv hx.len (Goes.tv rfl (Goes.ite rfl (fun h => ?_) fun g2 => ?_))
  · simp at h; exact ret_no fun h' => by have := h'.1; omega
  simp at g1 g2
  have hpos : 0 < m.funcs.length := by omega
  have hb0 : m.funcs[0]? = some m.funcs[0] := List.getElem?_eq_getElem hpos
  obtain ⟨e0, he0, hr0⟩ := hx.idx (k := .i64) hb0
  obtain ⟨_, rfl, _⟩ := hr0
  refine Goes.tvs he0 (Goes.chk rfl (Goes.tv rfl (Goes.ite rfl (fun h => ?_) fun g7 => ?_)))
  · refine ret_no ?_
    rintro ⟨_, ⟨b, hb, hl⟩, _⟩
    rw [hb0] at hb
    simp at hb
    subst hb
    rw [hl] at h
    simp at h
  simp at g7
  refine Goes.tv hx.len (Goes.jmp (f40_0_R _ _ _ _) ?_)
  rw [show tt (modP m) = tt (∀ i, i < m.funcs.length → ∀ f, m.funcs[i]? = some f → funcP m.funcs f) from tt_congr ⟨fun h => h.2.2, fun h => ⟨by omega, ⟨_, hb0, g7⟩, h⟩⟩]
  refine allLoop' (g := fun k => f40_0 x (I m.funcs.length) (I k) x) ?_ ?_
  · unfold f40_0
    refine Goes.tv rfl (Goes.ite asB_end (fun h => nomatch h) fun _ => ?_)
    exact Goes.ret
  · intro k hk r h1 h2
    have ha : m.funcs[k]? = some m.funcs[k] := List.getElem?_eq_getElem hk
    obtain ⟨e, he, hr⟩ := hx.idx (k := .i64) ha
    have h10 := r10 hm' hr
    obtain ⟨_, rfl, _⟩ := hr
    unfold f40_0
    refine Goes.tv rfl (Goes.ite (asB_lt hk) (fun _ => ?_) fun h => nomatch h)
    refine Goes.tvs he (Goes.chk rfl (Goes.call h10 (Goes.chk rfl (Goes.tv rfl (Goes.ite rfl (fun h => ?_) fun h => ?_)))))
    · rw [h1 (by simp [ha]; simpa [tt_iff0] using h)]; exact Goes.ret
    · refine Goes.tv (inc hk hx.bnd) (Goes.jmp (f40_0_R _ _ _ _) (h2 ?_))
      simp [ha]; simpa [tt_iff] using h
end Go.Ab.H6

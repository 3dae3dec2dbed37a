import Derived.Test.YthmcbcepgchhcaaDG7F4
section
set_option linter.unusedVariables false
set_option maxRecDepth 10000
namespace Go.Ab
theorem RL.slice {α : Type} {q : Option Bool} {s : Nat} {R : List TV → α → Prop} {x : TV} {l : List α} (h : RL q s R x l) {t : TypeId} {lo hi : Option Nat} (h1 : lo.getD 0 ≤ hi.getD l.length) (h2 : hi.getD l.length ≤ l.length) :
  ∃ y, pslice (.slice t) s x lo hi = some y ∧ RL q s R y ((l.drop (lo.getD 0)).take (hi.getD l.length - lo.getD 0)) := by
 rcases h with ⟨rfl, rfl⟩ | ⟨o, xs, rfl, hq, h, hb⟩
 ·simp at h1 h2
  refine ⟨_, ?_, by simpa using RL.nil⟩
  have h3 : lo.getD 0 = 0 := by omega
  simp only [pslice, nilV, h2, h3, and_self, if_true]
 ·have hl := h.length
  refine ⟨.sl o s ((xs.drop (lo.getD 0)).take (hi.getD xs.length - lo.getD 0)), ?_, ?_⟩
  ·rw [← hl] at h1 h2
   simp only [pslice, h1, h2, and_self, if_true]
  ·rw [← hl]
   exact .sl hq ((h.drop _).take _) (by simp; omega)
theorem asNat_nat {k : Nat} (h : k ≤ 9223372036854775807) : asNat (I (k : Int)) = some k := by
 simp [asNat]; omega
def unlikeP (l : List Int) : Prop := ∀ i, i < l.length → ∀ a, l[i]? = some a → a ∉ l.take i
def padP (landing : Bool) (regs : Int) (p : DPad) : Prop := (landing = false → p.dst = 0 ∧ p.catches = [] ∧ p.all = false ∧ p.cleanup = false) ∧
 (landing = true → within p.dst regs ∧ p.catches.length ≤ 8 ∧ unlikeP p.catches ∧ (p.catches ≠ [] ∨ p.all = true ∨ p.cleanup = true))
end Go.Ab
namespace Go.Ab.G7
open Go Go.Ab Go.Proofs
theorem r59 {q : Option Bool} {x : TV} {l : List Int} {w : Int} (hx : RWords q x l) : ∃ n, Runs prog 121 [x, W w] (I n) ∧ (0 ≤ n ↔ w ∈ l) := by
 have loop : ∀ d k, k + d = l.length → ∃ n, Goes prog 121 (f121_0 x (W w) (I l.length) (I k)) (I n) ∧ (0 ≤ n ↔ ∃ i, k ≤ i ∧ l[i]? = some w) := by
  intro d
  induction d with
  | zero =>
   intro k hk
   have hk : k = l.length := by omega
   subst hk
   refine ⟨-1, ?_, ?_⟩
   ·unfold f121_0
    refine Goes.tv rfl (Goes.ite asB_end (fun h => nomatch h) fun _ => ?_)
    exact Goes.ret
   ·simp only [show ¬ (0 : Int) ≤ -1 by omega, false_iff, not_exists, not_and]
    intro i hi
    rw [List.getElem?_eq_none hi]; simp
  | succ d ih =>
   intro k hk
   have hk' : k < l.length := by omega
   have ha : l[k]? = some l[k] := List.getElem?_eq_getElem hk'
   obtain ⟨e, he, rfl, _⟩ := hx.idx (k := .i64) ha
   obtain ⟨n, hn, hiff⟩ := ih (k + 1) (by omega)
   by_cases hw : w = l[k]
   ·refine ⟨(k : Int), ?_, ?_⟩
    ·unfold f121_0
     refine Goes.tv rfl (Goes.ite (asB_lt hk') (fun _ => ?_) fun h => nomatch h)
     refine Goes.tvs he (Goes.chk rfl (Goes.tv rfl (Goes.ite rfl (fun h => Goes.ret) fun h => ?_)))
     simp at h; exact absurd hw h
    ·constructor
     ·intro _; exact ⟨k, Nat.le_refl _, by rw [ha, hw]⟩
     ·intro _; omega
   ·refine ⟨n, ?_, ?_⟩
    ·unfold f121_0
     refine Goes.tv rfl (Goes.ite (asB_lt hk') (fun _ => ?_) fun h => nomatch h)
     refine Goes.tvs he (Goes.chk rfl (Goes.tv rfl (Goes.ite rfl (fun h => ?_) fun h => ?_)))
     ·simp at h; exact absurd h hw
     ·refine Goes.tv (inc hk' hx.bnd) (f121_0_J hn)
    ·rw [hiff]
     constructor
     ·rintro ⟨i, hi, h⟩; exact ⟨i, by omega, h⟩
     ·rintro ⟨i, hi, h⟩
      refine ⟨i, ?_, h⟩
      by_cases hik : i = k
      ·subst hik; rw [ha] at h; simp at h; exact absurd h.symm hw
      ·omega
 obtain ⟨n, hn, hiff⟩ := loop l.length 0 (by omega)
 refine ⟨n, ?_, ?_⟩
 ·refine Runs.of (f121_MR _ _) ?_
  unfold f121_M
  exact Goes.tv hx.len (f121_0_J hn)
 ·rw [hiff, List.mem_iff_getElem?]
  simp
theorem r56 {q : Option Bool} {x : TV} {l : List Int} {w : Int} (hx : RWords q x l) : Runs prog 113 [x, W w] (B (tt (w ∈ l))) := by
 obtain ⟨n, hn, hiff⟩ := r59 (w := w) hx
 refine Runs.of (f113_MR _ _) ?_
 unfold f113_M
 repeat' (first
  | refine Goes.chk rfl ?_
  | refine Goes.tv rfl ?_
  | refine Goes.tv (RL.len (by assumption)) ?_
  | refine Goes.nat rfl ?_
  | refine Goes.ite rfl (fun _ => ?_) (fun _ => ?_)
  | refine Goes.call (by assumption) ?_
  | refine Goes.tvs (by assumption) ?_)
 apply ret_tt
 simp [hiff]
theorem r48 {q : Option Bool} {x : TV} {l : List Int} (hx : RWords q x l) : Runs prog 115 [x] (B (tt (unlikeP l))) := by
 refine Runs.of (f115_MR _) ?_
 unfold f115_M
 refine Goes.tv hx.len (f115_0_J ?_)
 refine allLoop' (g := fun k => f115_0 x x (I l.length) (I k)) ?_ ?_
 ·unfold f115_0
  refine Goes.tv rfl (Goes.ite asB_end (fun h => nomatch h) fun _ => ?_)
  exact Goes.ret
 ·intro k hk r h1 h2
  have ha : l[k]? = some l[k] := List.getElem?_eq_getElem hk
  obtain ⟨e, he, rfl, _⟩ := hx.idx (k := .i64) ha
  obtain ⟨y, hy, hry⟩ := hx.slice (t := 29) (lo := none) (hi := some k) (by simp) (by simp; omega)
  have hry' : RWords q y (l.take k) := by simpa using hry
  unfold f115_0
  refine Goes.tv rfl (Goes.ite (asB_lt hk) (fun _ => ?_) fun h => nomatch h)
  have hb := hx.bnd
  refine Goes.tvs he (Goes.chk rfl (Goes.nat (asNat_nat (by omega)) (Goes.tv hy (Goes.call (r56 hry') (Goes.chk rfl (Goes.ite rfl (fun h => ?_) fun h => ?_))))))
  ·rw [h1 (by simp [ha]; simpa [tt_iff] using h)]; exact Goes.ret
  ·refine Goes.tv (inc hk hx.bnd) (f115_0_J (h2 ?_))
   simp [ha]; simpa [tt_iff0] using h
theorem r32 {q : Option Bool} {fs bs : TV} {e : List TV} {p regs : Int} {a : DPad} {landing : Bool} (he : RPad q e a) : Runs prog 109 [.agg [fs, I p, I regs, bs], B landing, .agg e] (B (tt (padP landing regs a))) := by
  obtain ⟨x, rfl, hx, _⟩ := he
  have h48 := r48 hx
  cases landing
  · refine Runs.of (f109_MR _ _ _) ?_
    unfold f109_M
    repeat' (first
      | refine Goes.chk rfl ?_
      | refine Goes.tv rfl ?_
      | refine Goes.tv (RL.len (by assumption)) ?_
      | refine Goes.nat rfl ?_
      | refine Goes.ite (v := true) rfl (fun _ => ?_) (fun h => nomatch h)
      | refine Goes.ite (v := false) rfl (fun h => nomatch h) (fun _ => ?_)
      | refine Goes.ite rfl (fun _ => ?_) (fun _ => ?_)
      | refine Goes.call (by assumption) ?_
      | refine Goes.tvs (by assumption) ?_
       )
    all_goals (apply ret_tt; simp_all [padP])
  · refine Runs.of (f109_MR _ _ _) ?_
    unfold f109_M
    repeat' (first
      | refine Goes.chk rfl ?_
      | refine Goes.tv rfl ?_
      | refine Goes.tv (RL.len (by assumption)) ?_
      | refine Goes.nat rfl ?_
      | refine Goes.ite (v := true) rfl (fun _ => ?_) (fun h => nomatch h)
      | refine Goes.ite (v := false) rfl (fun h => nomatch h) (fun _ => ?_)
      | refine Goes.ite rfl (fun _ => ?_) (fun _ => ?_)
      | refine Goes.call (by assumption) ?_
      | refine Goes.tvs (by assumption) ?_
      | refine Goes.call r47 ?_)
    all_goals (apply ret_tt; simp_all [padP, tt_iff, tt_iff0, placeP_t, List.length_pos_iff] <;> omega)
def blockP (fs : List DFunc) (regs : Int) (bs : List DBlock) (b : DBlock) : Prop := b.ins.length ≤ 64 ∧ padP b.landing regs b.pad ∧ (∀ i, i < b.ins.length → ∀ x, b.ins[i]? = some x → insP fs regs x) ∧ endP fs regs bs b.fin
def funcP (fs : List DFunc) (f : DFunc) : Prop := (0 ≤ f.params ∧ f.params ≤ 8 ∧ f.params ≤ f.regs ∧ f.regs ≤ 256) ∧ f.blocks.length ≤ 64 ∧ (∃ b, f.blocks[0]? = some b ∧ b.landing = false) ∧ ∀ i, i < f.blocks.length → ∀ b, f.blocks[i]? = some b → blockP fs f.regs f.blocks b
def modP (m : DMod) : Prop := m.funcs.length ≤ 16 ∧ (∃ f, m.funcs[0]? = some f ∧ f.params = 0) ∧ ∀ i, i < m.funcs.length → ∀ f, m.funcs[i]? = some f → funcP m.funcs f
theorem r19 {q q' q2 : Option Bool} {x y : TV} {e : List TV} {fs : List DFunc} {bs : List DBlock} {p regs : Int} {b : DBlock} (hx : RL q 3 (RFunc q) x fs) (hy : RL q2 14 (RBlock q2) y bs) (he : RBlock q' e b) :
  Runs prog 96 [.agg [x, I p, I regs, y], .agg e] (B (tt (blockP fs regs bs b))) := by
 obtain ⟨c, i, g, rfl, hc, hd, hi, hg, ho⟩ := he
 have h32 : Runs prog 109 [.agg [x, I p, I regs, y], B b.landing, .agg [I b.pad.dst, c, B b.pad.all, B b.pad.cleanup]] (B (tt (padP b.landing regs b.pad))) := r32 (q := q') ⟨c, rfl, hc, hd⟩
 have h34 : Runs prog 111 [.agg [x, I p, I regs, y], .agg [I b.fin.kind, I b.fin.a, I b.fin.dst, I b.fin.f, g, I b.fin.to, I b.fin.els, I b.fin.pad]] (B (tt (endP fs regs bs b.fin))) := r34 (q' := q') hx hy ⟨g, rfl, hg, ho⟩
 refine Runs.of (f96_MR _ _) ?_
 unfold f96_M
 refine Goes.chk rfl (Goes.chk rfl (Goes.tv hi.len (Goes.tv rfl (Goes.ite rfl (fun h => ?_) fun h0 => ?_))))
 ·simp at h
  exact ret_no fun h' => by have := h'.1; omega
 ·refine Goes.call h32 (Goes.chk rfl (Goes.tv rfl (Goes.ite rfl (fun h => ?_) fun h => ?_)))
  ·simp [tt_iff0] at h
   exact ret_no fun h' => h h'.2.1
  ·simp [tt_iff] at h h0
   refine Goes.tv hi.len (f96_0_J ?_)
   rw [show tt (blockP fs regs bs b) = tt (allFrom 0 b.ins.length (fun i => ∀ x, b.ins[i]? = some x → insP fs regs x) ∧ endP fs regs bs b.fin) from tt_congr (by
    rw [allFrom_zero]
    exact ⟨fun h => h.2.2, fun h' => ⟨by omega, h, h'⟩⟩)]
   refine allLoop (g := fun k => f96_0 i (I b.ins.length) (I k) x (I p) (I regs) y (B b.landing) (I b.pad.dst) c (B b.pad.all) (B b.pad.cleanup) i (I b.fin.kind) (I b.fin.a) (I b.fin.dst) (I b.fin.f) g (I b.fin.to) (I b.fin.els) (I b.fin.pad)) ?_ ?_ b.ins.length 0 (by omega)
   ·unfold f96_0
    refine Goes.tv rfl (Goes.ite asB_end (fun h => nomatch h) fun _ => ?_)
    refine f96_1_J ?_
    unfold f96_1
    exact Goes.call h34 (Goes.chk rfl Goes.ret)
   ·intro k hk r h1 h2
    have ha : b.ins[k]? = some b.ins[k] := List.getElem?_eq_getElem hk
    obtain ⟨e, he, hr⟩ := hi.idx (k := .i64) ha
    have h33 : Runs prog 110 [.agg [x, I p, I regs, y], .agg e] (B (tt (insP fs regs b.ins[k]))) := r33 hx hr
    obtain ⟨_, rfl, _⟩ := hr
    unfold f96_0
    refine Goes.tv rfl (Goes.ite (asB_lt hk) (fun _ => ?_) fun h => nomatch h)
    refine Goes.tvs he (Goes.chk rfl (Goes.call h33 (Goes.chk rfl (Goes.tv rfl (Goes.ite rfl (fun h => ?_) fun h => ?_)))))
    ·rw [h1 (by simp [ha]; simpa [tt_iff0] using h)]; exact Goes.ret
    ·refine Goes.tv (inc hk hi.bnd) (f96_0_J (h2 ?_))
     simp [ha]; simpa [tt_iff] using h
theorem r10 {q q' : Option Bool} {e e' : List TV} {m : DMod} {f : DFunc} (hm : RMod q e m) (hf : RFunc q' e' f) : Runs prog 70 [.agg e, .agg e'] (B (tt (funcP m.funcs f))) := by
 obtain ⟨x, rfl, hx⟩ := hm
 obtain ⟨y, rfl, hy, _⟩ := hf
 refine Runs.of (f70_MR _ _) ?_
 unfold f70_M
 refine Goes.chk rfl (Goes.chk rfl (Goes.tv rfl (Goes.ite rfl (fun h => ?_) fun g1 => ?_)))
 ·simp at h; exact ret_no fun h' => by have := h'.1; omega
 refine Goes.tv rfl (Goes.ite rfl (fun h => ?_) fun g2 => ?_)
 ·simp at h; exact ret_no fun h' => by have := h'.1; omega
 refine Goes.tv rfl (Goes.ite rfl (fun h => ?_) fun g3 => ?_)
 ·simp at h; exact ret_no fun h' => by have := h'.1; omega
 refine Goes.tv rfl (Goes.ite rfl (fun h => ?_) fun g4 => ?_)
 ·simp at h; exact ret_no fun h' => by have := h'.1; omega
 refine Goes.tv hy.len (Goes.tv rfl (Goes.ite rfl (fun h => ?_) fun g5 => ?_))
 ·simp at h
  refine ret_no ?_
  rintro ⟨_, _, ⟨b, hb, _⟩, _⟩
  have := (List.getElem?_eq_some_iff.1 hb).1
  omega
 refine Goes.tv hy.len (Goes.tv rfl (Goes.ite rfl (fun h => ?_) fun g6 => ?_))
 ·simp at h; exact ret_no fun h' => by have := h'.2.1; omega
 simp at g1 g2 g3 g4 g5 g6
 have hpos : 0 < f.blocks.length := by omega
 have hb0 : f.blocks[0]? = some f.blocks[0] := List.getElem?_eq_getElem hpos
 obtain ⟨e0, he0, hr0⟩ := hy.idx (k := .i64) hb0
 obtain ⟨_, _, _, rfl, _⟩ := hr0
 refine Goes.tvs he0 (Goes.chk rfl (Goes.ite rfl (fun h => ?_) fun g7 => ?_))
 ·refine ret_no ?_
  rintro ⟨_, _, ⟨b, hb, hl⟩, _⟩
  rw [hb0] at hb
  simp at hb
  subst hb
  rw [hl] at h
  cases h
 refine Goes.tv hy.len (f70_0_J ?_)
 rw [show tt (funcP m.funcs f) = tt (∀ i, i < f.blocks.length → ∀ b, f.blocks[i]? = some b → blockP m.funcs f.regs f.blocks b) from tt_congr
  ⟨fun h => h.2.2.2, fun h => ⟨⟨by omega, by omega, by omega, by omega⟩, by omega, ⟨_, hb0, g7⟩, h⟩⟩]
 refine allLoop' (g := fun k => f70_0 y (I f.blocks.length) (I k) x (I f.params) (I f.regs) y) ?_ ?_
 ·unfold f70_0
  refine Goes.tv rfl (Goes.ite asB_end (fun h => nomatch h) fun _ => ?_)
  exact Goes.ret
 ·intro k hk r h1 h2
  have ha : f.blocks[k]? = some f.blocks[k] := List.getElem?_eq_getElem hk
  obtain ⟨e, he, hr⟩ := hy.idx (k := .i64) ha
  have h19 : Runs prog 96 [.agg [x, I f.params, I f.regs, y], .agg e] (B (tt (blockP m.funcs f.regs f.blocks f.blocks[k]))) := r19 hx hy hr
  obtain ⟨_, _, _, rfl, _⟩ := hr
  unfold f70_0
  refine Goes.tv rfl (Goes.ite (asB_lt hk) (fun _ => ?_) fun h => nomatch h)
  refine Goes.tvs he (Goes.chk rfl (Goes.call h19 (Goes.chk rfl (Goes.tv rfl (Goes.ite rfl (fun h => ?_) fun h => ?_)))))
  ·rw [h1 (by simp [ha]; simpa [tt_iff0] using h)]; exact Goes.ret
  ·refine Goes.tv (inc hk hy.bnd) (f70_0_J (h2 ?_))
   simp [ha]; simpa [tt_iff] using h
theorem r8 {q : Option Bool} {e : List TV} {m : DMod} (hm : RMod q e m) : Runs prog 41 [.agg e] (B (tt (modP m))) := by
 have hm' := hm
 obtain ⟨x, rfl, hx⟩ := hm
 refine Runs.of (f41_MR _) ?_
 unfold f41_M
 refine Goes.chk rfl (Goes.tv hx.len (Goes.tv rfl (Goes.ite rfl (fun h => ?_) fun g1 => ?_)))
 ·simp at h
  refine ret_no ?_
  rintro ⟨_, ⟨b, hb, _⟩, _⟩
  have := (List.getElem?_eq_some_iff.1 hb).1
  omega
 refine Goes.tv hx.len (Goes.tv rfl (Goes.ite rfl (fun h => ?_) fun g2 => ?_))
 ·simp at h; exact ret_no fun h' => by have := h'.1; omega
 simp at g1 g2
 have hpos : 0 < m.funcs.length := by omega
 have hb0 : m.funcs[0]? = some m.funcs[0] := List.getElem?_eq_getElem hpos
 obtain ⟨e0, he0, hr0⟩ := hx.idx (k := .i64) hb0
 obtain ⟨_, rfl, _⟩ := hr0
 refine Goes.tvs he0 (Goes.chk rfl (Goes.tv rfl (Goes.ite rfl (fun h => ?_) fun g7 => ?_)))
 ·refine ret_no ?_
  rintro ⟨_, ⟨b, hb, hl⟩, _⟩
  rw [hb0] at hb
  simp at hb
  subst hb
  rw [hl] at h
  simp at h
 simp at g7
 refine Goes.tv hx.len (f41_0_J ?_)
 rw [show tt (modP m) = tt (∀ i, i < m.funcs.length → ∀ f, m.funcs[i]? = some f → funcP m.funcs f) from tt_congr ⟨fun h => h.2.2, fun h => ⟨by omega, ⟨_, hb0, g7⟩, h⟩⟩]
 refine allLoop' (g := fun k => f41_0 x (I m.funcs.length) (I k) x) ?_ ?_
 ·unfold f41_0
  refine Goes.tv rfl (Goes.ite asB_end (fun h => nomatch h) fun _ => ?_)
  exact Goes.ret
 ·intro k hk r h1 h2
  have ha : m.funcs[k]? = some m.funcs[k] := List.getElem?_eq_getElem hk
  obtain ⟨e, he, hr⟩ := hx.idx (k := .i64) ha
  have h10 := r10 hm' hr
  obtain ⟨_, rfl, _⟩ := hr
  unfold f41_0
  refine Goes.tv rfl (Goes.ite (asB_lt hk) (fun _ => ?_) fun h => nomatch h)
  refine Goes.tvs he (Goes.chk rfl (Goes.call h10 (Goes.chk rfl (Goes.tv rfl (Goes.ite rfl (fun h => ?_) fun h => ?_)))))
  ·rw [h1 (by simp [ha]; simpa [tt_iff0] using h)]; exact Goes.ret
  ·refine Goes.tv (inc hk hx.bnd) (f41_0_J (h2 ?_))
   simp [ha]; simpa [tt_iff] using h
end Go.Ab.G7
end
section
set_option linter.unusedVariables false
set_option maxRecDepth 10000
namespace Go.Ab
def shortB (b : DBlock) : Prop := b.ins.length ≤ 70 ∧ b.pad.catches.length ≤ 20 ∧ b.fin.args.length ≤ 20 ∧ ∀ i, i < b.ins.length → ∀ x, b.ins[i]? = some x → x.args.length ≤ 20
def shortF (f : DFunc) : Prop := f.blocks.length ≤ 70 ∧ ∀ i, i < f.blocks.length → ∀ b, f.blocks[i]? = some b → shortB b
def shortM (m : DMod) : Prop := m.funcs.length ≤ 20 ∧ ∀ i, i < m.funcs.length → ∀ f, m.funcs[i]? = some f → shortF f
def rowsOf : TV → List (List TV)
 | .sl _ _ xs => xs
 | _ => []
theorem set_self {β : Type} {l : List β} {i : Nat} {a : β} (h : l[i]? = some a) : l.set i a = l := by
 apply List.ext_getElem?
 intro j
 rw [List.getElem?_set]
 by_cases hj : i = j
 ·subst hj; have := (List.getElem?_eq_some_iff.1 h).1; simp only [if_true, this]; rw [h]
 ·simp [hj]
def RP {α : Type} (s : Nat) (R : Nat → List TV → α → Prop) (x : TV) (l : List α) : Prop :=
 (x = .lit nilV ∧ l = []) ∨ ∃ xs, x = .sl true s xs ∧ xs.length = l.length ∧ xs.length ≤ 9223372036854775807 ∧ ∀ i e a, xs[i]? = some e → l[i]? = some a → R i e a
section
variable {α : Type} {s : Nat} {R S : Nat → List TV → α → Prop} {x : TV} {l : List α}
theorem setNth_len {β : Type} : ∀ (l : List β) (n : Nat) (b : β), (setNth l n b).length = l.length
 | [], _, _ => rfl
 | _ :: _, 0, _ => rfl
 | a :: l, n + 1, b => by simp [setNth, setNth_len l n b]
theorem setNth_get {β : Type} : ∀ (l : List β) (n : Nat) (b : β) (i : Nat), n < l.length → (setNth l n b)[i]? = if i = n then some b else l[i]?
 | [], _, _, _, h => by simp at h
 | _ :: _, 0, _, 0, _ => rfl
 | _ :: _, 0, _, i + 1, _ => by simp [setNth]
 | a :: l, n + 1, b, 0, _ => by simp [setNth]
 | a :: l, n + 1, b, i + 1, h => by
  have := setNth_get l n b i (by simpa using h)
  simp [setNth, this]
theorem RP.slLen (h : RP s R x l) : Go.Ab.slLen x = some l.length := by
 rcases h with ⟨rfl, rfl⟩ | ⟨xs, rfl, hl, hb, h⟩
 ·rfl
 ·simp [Go.Ab.slLen, hl]
theorem RP.slSize (h : RP s R x l) : Go.Ab.slSize x s = true := by
 rcases h with ⟨rfl, rfl⟩ | ⟨xs, rfl, hl, hb, h⟩
 ·rfl
 ·simp [Go.Ab.slSize]
theorem RP.row (h : RP s R x l) {i : Nat} {a : α} (hi : l[i]? = some a) : ∃ e, Go.Ab.pel x i = some e ∧ R i e a ∧ (∀ j y, e[j]? = some y → getP [(i, j)] x = some y) ∧
  ∀ j ys, setC [] x i j ys = some (.sl true s (setNth (rowsOf x) i (setCells e j ys))) := by
 rcases h with ⟨rfl, rfl⟩ | ⟨xs, rfl, hl, hb, h⟩
 ·simp at hi
 ·have hlt := (List.getElem?_eq_some_iff.1 hi).1
  have hx : xs[i]? = some (xs[i]'(by omega)) := List.getElem?_eq_getElem _
  refine ⟨_, hx, h i _ a hx hi, fun j y hy => ?_, fun j ys => ?_⟩
  ·simp only [getP, hx, hy]
  ·simp only [setC, getP, setEl, hx, setP, rowsOf]
theorem RP.setTo (h : RP s R x l) {i : Nat} {a b : α} (hi : l[i]? = some a) {e : List TV} (hS : S i e b) (hR : ∀ j e c, j ≠ i → R j e c → S j e c) : RP s S (.sl true s (setNth (rowsOf x) i e)) (l.set i b) := by
 rcases h with ⟨rfl, rfl⟩ | ⟨xs, rfl, hl, hb, h⟩
 ·simp at hi
 ·have hlt := (List.getElem?_eq_some_iff.1 hi).1
  refine .inr ⟨_, rfl, by simp [setNth_len, rowsOf, hl], by simp [setNth_len, rowsOf, hb], fun j e' c hj hc => ?_⟩
  rw [setNth_get _ _ _ _ (by simp only [rowsOf]; omega)] at hj
  simp only [rowsOf] at hj
  rw [List.getElem?_set] at hc
  by_cases hji : j = i
  ·subst hji
   simp [hlt] at hj hc
   subst hj hc
   exact hS
  ·rw [if_neg hji] at hj
   rw [if_neg (fun h => hji h.symm)] at hc
   exact hR j _ _ hji (h j _ _ hj hc)
theorem RP.set (h : RP s R x l) {i : Nat} {a : α} (hi : l[i]? = some a) {e : List TV} (hS : S i e a) (hR : ∀ j e c, j ≠ i → R j e c → S j e c) : RP s S (.sl true s (setNth (rowsOf x) i e)) l := by
 have := RP.setTo h hi hS hR
 rwa [set_self hi] at this
theorem RP.toRL {T : List TV → α → Prop} (h : RP s R x l) (hm : ∀ i e a, i < l.length → R i e a → T e a) : RL (some true) s T x l := by
 rcases h with ⟨rfl, rfl⟩ | ⟨xs, rfl, hl, hb, h⟩
 ·exact .nil
 ·refine .sl (by simp) (F2.of_get hl fun i e a he ha => hm i e a ?_ (h i e a he ha)) hb
  exact (List.getElem?_eq_some_iff.1 ha).1
theorem RL.toRP {T : List TV → α → Prop} (h : RL (some true) s T x l) (hm : ∀ i e a, T e a → R i e a) : RP s R x l := by
 rcases h with ⟨rfl, rfl⟩ | ⟨o, xs, rfl, hq, h, hb⟩
 ·exact .inl ⟨rfl, rfl⟩
 ·have : o = true := hq true rfl
  subst this
  refine .inr ⟨xs, rfl, h.length, hb, fun i e a he ha => ?_⟩
  obtain ⟨e', he', hr⟩ := h.get ha
  rw [he] at he'
  cases he'
  exact hm _ _ _ hr
end
theorem isOwnLL_all : ∀ (xs : List (List TV)), (∀ e ∈ xs, isOwnL e = true) → isOwnLL xs = true
 | [], _ => rfl
 | e :: xs, h => by
  simp only [isOwnLL, Bool.and_eq_true]
  exact ⟨h e List.mem_cons_self, isOwnLL_all xs fun e he => h e (List.mem_cons_of_mem _ he)⟩
theorem F2.memL {α β : Type} {R : α → β → Prop} {xs : List α} {l : List β} (h : F2 R xs l) {e : α} (he : e ∈ xs) : ∃ a, a ∈ l ∧ R e a := by
 obtain ⟨i, hi, rfl⟩ := List.mem_iff_getElem.1 he
 obtain ⟨a, ha, hr⟩ := h.getL (List.getElem?_eq_getElem hi)
 exact ⟨a, List.mem_of_getElem? ha, hr⟩
theorem RL.own {α : Type} {s : Nat} {R : List TV → α → Prop} {x : TV} {l : List α} (h : RL (some true) s R x l) (hm : ∀ e a, R e a → isOwnL e = true) : isOwn x = true := by
 rcases h with ⟨rfl, rfl⟩ | ⟨o, xs, rfl, hq, h, hb⟩
 ·rfl
 ·rw [hq true rfl]
  simp only [isOwn, Bool.true_and]
  refine isOwnLL_all _ fun e he => ?_
  obtain ⟨a, _, hr⟩ := h.memL he
  exact hm _ _ hr
theorem RI1.own {e : List TV} {n : Int} (h : RI1 e n) : isOwnL e = true := by obtain ⟨rfl, _⟩ := h; rfl
theorem RW1.own {e : List TV} {n : Int} (h : RW1 e n) : isOwnL e = true := by obtain ⟨rfl, _⟩ := h; rfl
theorem own_copy {α : Type} {q : Option Bool} {s : Nat} {R : List TV → α → Prop} {x : TV} {l : List α} (h : RL q s R x l) (z : List TV) {xs : List (List TV)} (hx : pelems s x = some xs) : ∃ y, pcopy s (.sl true s (List.replicate l.length z)) xs = some y ∧ RL (some true) s R y l := by
 have hl : F2 R xs l ∧ xs.length ≤ 9223372036854775807 := by
  rcases h with ⟨rfl, rfl⟩ | ⟨o, ys, rfl, hq, h, hb⟩
  ·change some [] = some xs at hx; cases hx; exact ⟨.nil, by simp⟩
  ·simp [pelems] at hx; subst hx; exact ⟨h, hb⟩
 have hlen := hl.1.length
 refine ⟨.sl true s (xs.take l.length ++ (List.replicate l.length z).drop xs.length), by simp [pcopy], ?_⟩
 rw [← hlen, List.take_length, List.drop_eq_nil_of_le (by simp), List.append_nil]
 exact .sl (by simp) hl.1 hl.2
end Go.Ab
namespace Go.Ab.G7
open Go Go.Ab Go.Proofs
theorem r7 {q : Option Bool} {e : List TV} {m : DMod} (hm : RMod q e m) : ∃ b, Runs prog 34 [.agg e] (B b) ∧ (b = true → shortM m) := by
 obtain ⟨x, rfl, hx⟩ := hm
 have no : ∀ {p : Prg TV}, Goes prog 34 p (B false) → ∃ b, Goes prog 34 p (B b) ∧ (b = true → shortM m) := fun h => ⟨false, h, fun h => nomatch h⟩
 by_cases hlen : m.funcs.length ≤ 20
 ·have outer : ∀ d i (n : Int), i + d = m.funcs.length → 0 ≤ n → n ≤ (i : Int) * 4900 → (∀ j, j < i → ∀ f, m.funcs[j]? = some f → shortF f) → ∃ b, Goes prog 34 (f34_0 (I n) (I i) x) (B b) ∧ (b = true → shortM m) := by
   intro d
   induction d with
   | zero =>
    intro i n hi h0 hn hs
    have hi : i = m.funcs.length := by omega
    subst hi
    refine ⟨decide (n ≤ 2000), ?_, fun _ => ⟨hlen, hs⟩⟩
    unfold f34_0
    refine Goes.tv (RL.len (by assumption)) (Goes.tv rfl (Goes.ite asB_end (fun h => nomatch h) fun _ => ?_))
    exact Goes.tv rfl Goes.ret
   | succ d ih =>
    intro i n hi h0 hn hs
    have hk : i < m.funcs.length := by omega
    have ha : m.funcs[i]? = some m.funcs[i] := List.getElem?_eq_getElem hk
    obtain ⟨e, he, hr⟩ := hx.idx (k := .i64) ha
    generalize m.funcs[i] = f at ha hr
    obtain ⟨y, rfl, hy, _⟩ := hr
    by_cases hbl : f.blocks.length ≤ 70
    ·have mid : ∀ d k (n : Int), k + d = f.blocks.length → 0 ≤ n → n ≤ (i : Int) * 4900 + k * 70 → (∀ j, j < k → ∀ b, f.blocks[j]? = some b → shortB b) → ∃ b, Goes prog 34 (f34_1 (I n) (I i) (I k) x) (B b) ∧ (b = true → shortM m) := by
      intro d
      induction d with
      | zero =>
       intro k n hk' h0 hn hsb
       have hk' : k = f.blocks.length := by omega
       subst hk'
       obtain ⟨b, hb, himp⟩ := ih (i + 1) n (by omega) h0 (by simp; omega) (fun j hj g hg => by
        by_cases hji : j = i
        ·subst hji; rw [ha] at hg; cases hg; exact ⟨hbl, fun j hj => hsb j hj⟩
        ·exact hs j (by omega) g hg)
       refine ⟨b, ?_, himp⟩
       unfold f34_1
       refine Goes.tvs he (Goes.chk rfl (Goes.tv hy.len (Goes.tv rfl (Goes.ite asB_end (fun h => nomatch h) fun _ => ?_))))
       exact Goes.tv (inc hk hx.bnd) (f34_0_J hb)
      | succ d ihm =>
       intro k n hk' h0 hn hsb
       have hkb : k < f.blocks.length := by omega
       have hab : f.blocks[k]? = some f.blocks[k] := List.getElem?_eq_getElem hkb
       obtain ⟨e2, he2, hr2⟩ := hy.idx (k := .i64) hab
       generalize f.blocks[k] = b at hab hr2
       obtain ⟨c, is, g, rfl, hc, hd, his, hg, ho⟩ := hr2
       have start : ∀ r, (¬ (b.ins.length ≤ 70 ∧ b.pad.catches.length ≤ 20 ∧ b.fin.args.length ≤ 20) → r = B false) → (b.ins.length ≤ 70 ∧ b.pad.catches.length ≤ 20 ∧ b.fin.args.length ≤ 20 → Goes prog 34 (f34_2 (I (n + b.ins.length)) (I i) (I k) (I (0 : Nat)) x (B b.landing) (I b.pad.dst) c (B b.pad.all) (B b.pad.cleanup) is (I b.fin.kind) (I b.fin.a) (I b.fin.dst) (I b.fin.f) g (I b.fin.to) (I b.fin.els) (I b.fin.pad)) r) → Goes prog 34 (f34_1 (I n) (I i) (I k) x) r := by
        intro r h1 h2
        unfold f34_1
        refine Goes.tvs he (Goes.chk rfl (Goes.tv hy.len (Goes.tv rfl (Goes.ite (asB_lt hkb) (fun _ => ?_) fun h => nomatch h))))
        refine Goes.tvs he (Goes.chk rfl (Goes.tvs he2 (Goes.chk rfl (Goes.tv his.len (Goes.tv rfl (Goes.ite rfl (fun h => ?_) fun g1 => ?_))))))
        ·rw [h1 (by simp at h; omega)]; exact Goes.ret
        ·refine Goes.tv hc.len (Goes.tv rfl (Goes.ite rfl (fun h => ?_) fun g2 => ?_))
         ·rw [h1 (by simp at h; omega)]; exact Goes.ret
         ·refine Goes.tv hg.len (Goes.tv rfl (Goes.ite rfl (fun h => ?_) fun g3 => ?_))
          ·rw [h1 (by simp at h; omega)]; exact Goes.ret
          ·simp at g1 g2 g3
           refine Goes.tv his.len (Goes.tv (padd (by constructor <;> omega)) (f34_2_J (h2 ⟨by omega, by omega, by omega⟩)))
       by_cases hsz : b.ins.length ≤ 70 ∧ b.pad.catches.length ≤ 20 ∧ b.fin.args.length ≤ 20
       ·have inner : ∀ d j, j + d = b.ins.length → (∀ t, t < j → ∀ x, b.ins[t]? = some x → x.args.length ≤ 20) → ∃ r, Goes prog 34 (f34_2 (I (n + b.ins.length)) (I i) (I k) (I j) x (B b.landing) (I b.pad.dst) c (B b.pad.all) (B b.pad.cleanup) is (I b.fin.kind) (I b.fin.a) (I b.fin.dst) (I b.fin.f) g (I b.fin.to) (I b.fin.els) (I b.fin.pad)) (B r) ∧ (r = true → shortM m) := by
         intro d
         induction d with
         | zero =>
          intro j hj hs2
          have hj : j = b.ins.length := by omega
          subst hj
          obtain ⟨r, hb, himp⟩ := ihm (k + 1) (n + b.ins.length) (by omega) (by omega) (by simp; omega) (fun j hj g hg => by
           by_cases hji : j = k
           ·subst hji; rw [hab] at hg; cases hg; exact ⟨hsz.1, hsz.2.1, hsz.2.2, hs2⟩
           ·exact hsb j (by omega) g hg)
          refine ⟨r, ?_, himp⟩
          unfold f34_2
          refine Goes.tv (RL.len (by assumption)) (Goes.tv rfl (Goes.ite asB_end (fun h => nomatch h) fun _ => ?_))
          exact Goes.tv (inc hkb hy.bnd) (f34_1_J hb)
         | succ d ihi =>
          intro j hj hs2
          have hjb : j < b.ins.length := by omega
          have hax : b.ins[j]? = some b.ins[j] := List.getElem?_eq_getElem hjb
          obtain ⟨e3, he3, hr3⟩ := his.idx (k := .i64) hax
          generalize b.ins[j] = u at hax hr3
          obtain ⟨v, rfl, hv, _⟩ := hr3
          by_cases hu : u.args.length ≤ 20
          ·obtain ⟨r, hb, himp⟩ := ihi (j + 1) (by omega) (fun t ht z hz => by
            by_cases htj : t = j
            ·subst htj; rw [hax] at hz; cases hz; exact hu
            ·exact hs2 t (by omega) z hz)
           refine ⟨r, ?_, himp⟩
           unfold f34_2
           refine Goes.tv (RL.len (by assumption)) (Goes.tv rfl (Goes.ite (asB_lt hjb) (fun _ => ?_) fun h => nomatch h))
           refine Goes.tvs he3 (Goes.chk rfl (Goes.tv hv.len (Goes.tv rfl (Goes.ite rfl (fun h => ?_) fun _ => ?_))))
           ·simp at h; omega
           ·exact Goes.tv (inc hjb his.bnd) (f34_2_J hb)
          ·refine no ?_
           unfold f34_2
           refine Goes.tv (RL.len (by assumption)) (Goes.tv rfl (Goes.ite (asB_lt hjb) (fun _ => ?_) fun h => nomatch h))
           refine Goes.tvs he3 (Goes.chk rfl (Goes.tv hv.len (Goes.tv rfl (Goes.ite rfl (fun h => Goes.ret) fun h => ?_))))
           simp at h; omega
        obtain ⟨r, hb, himp⟩ := inner b.ins.length 0 (by omega) (fun t ht => by omega)
        exact ⟨r, start _ (fun h => absurd hsz h) (fun _ => hb), himp⟩
       ·exact no (start _ (fun _ => rfl) (fun h => absurd h hsz))
     obtain ⟨b, hb, himp⟩ := mid f.blocks.length 0 n (by omega) h0 (by simp; omega) (fun j hj => by omega)
     refine ⟨b, ?_, himp⟩
     unfold f34_0
     refine Goes.tv (RL.len (by assumption)) (Goes.tv rfl (Goes.ite (asB_lt hk) (fun _ => ?_) fun h => nomatch h))
     refine Goes.tvs he (Goes.chk rfl (Goes.tv hy.len (Goes.tv rfl (Goes.ite rfl (fun h => ?_) fun _ => ?_))))
     ·simp at h; omega
     ·exact f34_1_J hb
    ·refine no ?_
     unfold f34_0
     refine Goes.tv (RL.len (by assumption)) (Goes.tv rfl (Goes.ite (asB_lt hk) (fun _ => ?_) fun h => nomatch h))
     refine Goes.tvs he (Goes.chk rfl (Goes.tv hy.len (Goes.tv rfl (Goes.ite rfl (fun h => Goes.ret) fun h => ?_))))
     simp at h; omega
  obtain ⟨b, hb, himp⟩ := outer m.funcs.length 0 0 (by omega) (by omega) (by simp) (fun j hj => by omega)
  refine ⟨b, ?_, himp⟩
  refine Runs.of (f34_MR _) ?_
  unfold f34_M
  refine Goes.chk rfl (Goes.tv hx.len (Goes.tv rfl (Goes.ite rfl (fun h => ?_) fun _ => f34_0_J hb)))
  simp at h; omega
 ·refine ⟨false, ?_, fun h => nomatch h⟩
  refine Runs.of (f34_MR _) ?_
  unfold f34_M
  refine Goes.chk rfl (Goes.tv hx.len (Goes.tv rfl (Goes.ite rfl (fun _ => Goes.ret) fun h => ?_)))
  simp at h; omega
theorem r39 {q : Option Bool} {x : TV} {l : List Int} (hx : RL q 1 RW1 x l) (hl : l.length ≤ 4294967296) : ∃ y, Runs prog 55 [x] y ∧ RL (some true) 1 RW1 y l := by
 obtain ⟨xs, hxs, _⟩ := hx.elems
 obtain ⟨y, hy, hr⟩ := own_copy hx [.lit (.int .u16 0)] hxs
 have hn := asNat_nat (k := l.length) (by omega)
 have hle : (Nat.ble l.length 4294967296) = true := by simpa using hl
 have hle' : (Nat.ble l.length l.length) = true := by simp
 have hown := hr.own fun _ _ h => h.own
 rcases hx with ⟨rfl, rfl⟩ | ⟨o, ys, rfl, hq, h, hb⟩
 ·refine ⟨.lit nilV, ?_, .nil⟩
  refine Runs.of (f55_MR _) ?_
  unfold f55_M
  exact Goes.tv rfl (Goes.ite rfl (fun _ => Goes.chk rfl Goes.ret) fun h => nomatch h)
 ·refine ⟨y, ?_, hr⟩
  refine Runs.of (f55_MR _) ?_
  unfold f55_M
  refine Goes.tv rfl (Goes.ite rfl (fun h => nomatch h) fun _ => ?_)
  refine Goes.tv (v := I l.length) (by simp [plen, h.length]) (Goes.nat hn (Goes.nat hn (Goes.chk (by rw [hle, hle']; rfl) (Goes.rws hxs (Goes.tv hy (Goes.nat rfl (Goes.chk hown Goes.ret)))))))
theorem r41 {q : Option Bool} {x : TV} {l : List Int} (hx : RL q 1 RI1 x l) (hl : l.length ≤ 4294967296) : ∃ y, Runs prog 73 [x] y ∧ RL (some true) 1 RI1 y l := by
 obtain ⟨xs, hxs, _⟩ := hx.elems
 obtain ⟨y, hy, hr⟩ := own_copy hx [.lit (.int .i64 0)] hxs
 have hn := asNat_nat (k := l.length) (by omega)
 have hle : (Nat.ble l.length 4294967296) = true := by simpa using hl
 have hle' : (Nat.ble l.length l.length) = true := by simp
 have hown := hr.own fun _ _ h => h.own
 rcases hx with ⟨rfl, rfl⟩ | ⟨o, ys, rfl, hq, h, hb⟩
 ·refine ⟨.lit nilV, ?_, .nil⟩
  refine Runs.of (f73_MR _) ?_
  unfold f73_M
  exact Goes.tv rfl (Goes.ite rfl (fun _ => Goes.chk rfl Goes.ret) fun h => nomatch h)
 ·refine ⟨y, ?_, hr⟩
  refine Runs.of (f73_MR _) ?_
  unfold f73_M
  refine Goes.tv rfl (Goes.ite rfl (fun h => nomatch h) fun _ => ?_)
  refine Goes.tv (v := I l.length) (by simp [plen, h.length]) (Goes.nat hn (Goes.nat hn (Goes.chk (by rw [hle, hle']; rfl) (Goes.rws hxs (Goes.tv hy (Goes.nat rfl (Goes.chk hown Goes.ret)))))))
end Go.Ab.G7
end
section
set_option linter.unusedVariables false
set_option maxRecDepth 10000
namespace Go.Ab
structure DFrame where
 f : Int
 block : Int
 at_ : Int
 regs : List Int
 fly : Int
def DFrame.ok (x : DFrame) : Prop := inI x.f ∧ inI x.block ∧ inI x.at_ ∧ inW x.fly
def RFrame (q : Option Bool) (e : List TV) (x : DFrame) : Prop := ∃ g, e = [I x.f, I x.block, I x.at_, g, W x.fly] ∧ RWords q g x.regs ∧ x.ok
theorem RFrame.weak {q : Option Bool} {e : List TV} {x : DFrame} (h : RFrame q e x) : RFrame none e x := by
 obtain ⟨g, rfl, hg, ho⟩ := h
 exact ⟨g, rfl, hg.weak fun _ _ h => h, ho⟩
theorem RFrame.frz {q : Option Bool} {e : List TV} {x : DFrame} (h : RFrame q e x) : RFrame (some false) (frzL e) x := by
 obtain ⟨g, rfl, hg, ho⟩ := h
 exact ⟨Go.Ab.frz g, rfl, hg.frz fun _ _ h => h.frz, ho⟩
theorem RFrame.own {e : List TV} {x : DFrame} (h : RFrame (some true) e x) : isOwnL e = true := by
 obtain ⟨g, rfl, hg, _⟩ := h
 simp [isOwnL, isOwn, hg.own fun _ _ h => h.own]
theorem frame_eq {a b : DFrame} : a = b ↔ a.f = b.f ∧ a.block = b.block ∧ a.at_ = b.at_ ∧ a.regs = b.regs ∧ a.fly = b.fly := by
 cases a; cases b; simp
theorem u16_mod (n : Int) : IntKind.u16.wrap n = n % 65536 := by simp [IntKind.wrap, IntKind.bits, IntKind.signed]
theorem wrap_u16 (n : Int) : inW (IntKind.u16.wrap n) := by rw [u16_mod]; constructor <;> omega
theorem wrap_i64 (n : Int) : inI (IntKind.i64.wrap n) := by rw [IntKind.wrap_i64]; constructor <;> omega
def doW (op a b : Int) : Option Int :=
 if op = 2 then some a else if op = 3 then some (IntKind.u16.wrap (a + b)) else if op = 4 then some (IntKind.u16.wrap (a - b)) else if op = 5 then some (IntKind.u16.wrap (a * b)) else
 if op = 6 then (if b = 0 then none else some (IntKind.u16.wrap (a.tdiv b))) else if op = 7 then some (if a = b then 1 else 0) else if op = 8 then some (if a < b then 1 else 0) else none
theorem doW_in {op a b v : Int} (ha : inW a) (h : doW op a b = some v) : inW v := by
 have h0 : inW 0 := ⟨by decide, by decide⟩
 have h1 : inW 1 := ⟨by decide, by decide⟩
 unfold doW at h
 repeat' split at h
 all_goals first | (cases h; done) | (cases h; first | exact ha | exact wrap_u16 _ | exact h0 | exact h1 | (split <;> assumption))
def ansW : Option Int → TV
 | some v => .tup [W v, B true]
 | none => .tup [W 0, B false]
def regAt (l : List Int) (n : Int) : Option Int := if 0 ≤ n then l[n.toNat]? else none
def answerT (l : List Int) (x : DIns) : Option Int :=
 if x.op = 1 then some x.k else (regAt l x.a).bind fun a => if 3 ≤ x.op ∧ x.op ≤ 8 then (regAt l x.b).bind fun b => doW x.op a b else doW x.op a 0
def reckonT (f : DFrame) (x : DIns) : DFrame × Bool :=
 match answerT f.regs x with
 | none => (f, false)
 | some w => if 0 ≤ x.dst ∧ x.dst < f.regs.length then ({ f with regs := f.regs.set x.dst.toNat w, at_ := IntKind.i64.wrap (f.at_ + 1) }, true) else (f, false)
theorem within_at {l : List Int} {n : Int} (h : within n l.length) : ∃ a, l[n.toNat]? = some a ∧ n.toNat < l.length := by
 have : n.toNat < l.length := by have := h.1; have := h.2; omega
 exact ⟨_, List.getElem?_eq_getElem this, this⟩
theorem regAt_some {l : List Int} {n a : Int} (h0 : 0 ≤ n) (h : l[n.toNat]? = some a) : regAt l n = some a := by simp [regAt, h0, h]
theorem regAt_none {l : List Int} {n : Int} (h : ¬ within n l.length) : regAt l n = none := by
 unfold regAt
 split
 ·rename_i h0
  exact List.getElem?_eq_none (by have : ¬ n < l.length := fun h1 => h ⟨h0, h1⟩; omega)
 ·rfl
section
variable {q : Option Bool} {v : TV} {l : List Int}
theorem RWords.at_ (h : RWords q v l) {k : IntKind} {n a : Int} (h0 : 0 ≤ n) (hn : l[n.toNat]? = some a) : pidx 1 v (.lit (.int k n)) = some [W a] ∧ inW a := by
 obtain ⟨e, he, rfl, hw⟩ := h.idxI (k := k) h0 hn
 exact ⟨he, hw⟩
theorem RWords.mem (h : RWords q v l) {n : Nat} {a : Int} (hn : l[n]? = some a) : inW a := (RWords.at_ h (k := .i64) (n := (n : Int)) (by omega) (by simpa using hn)).2
theorem RWords.put (h : RWords (some true) v l) {n : Nat} {w : Int} (hn : n < l.length) (hw : inW w) : ∃ a v', pel v n = some [W a] ∧ setC [] v n 0 [W w] = some v' ∧ RWords (some true) v' (l.set n w) := by
 have hi : l[n]? = some l[n] := List.getElem?_eq_getElem hn
 have hp := h.toRP (R := fun _ e a => RW1 e a) fun _ _ _ h => h
 obtain ⟨e, he, ⟨rfl, _⟩, _, hset⟩ := hp.row hi
 exact ⟨_, _, he, hset 0 _, (hp.setTo hi (b := w) (S := fun _ e a => RW1 e a) ⟨rfl, hw⟩ fun _ _ _ _ h => h).toRL fun _ _ _ _ h => h⟩
theorem RWords.isOwn (h : RWords (some true) v l) : Go.Ab.isOwn v = true := RL.own h fun _ _ h => h.own
end
theorem RL.app1 {α : Type} {s : Nat} {R : List TV → α → Prop} {y : TV} {l : List α} (hy : RL (some true) s R y l) {e : List TV} {a : α} (hR : R e a) (hl : l.length + 1 ≤ 4294967296) : ∃ y', papp s y [e] = some y' ∧ RL (some true) s R y' (l ++ [a]) := by
 rcases hy with ⟨rfl, rfl⟩ | ⟨o, xs, rfl, hq, h, hb⟩
 ·refine ⟨.sl true s [e], by simp [papp, nilV, room, rowT], .sl (by simp) (.cons hR .nil) (by simp)⟩
 ·have hlen := h.length
  rw [hq true rfl]
  refine ⟨.sl true s (xs ++ [e]), ?_, .sl (by simp) (h.append (.cons hR .nil)) (by simp; omega)⟩
  simp [papp, room]; omega
end Go.Ab
namespace Go.Ab.G7
open Go Go.Ab Go.Proofs
theorem rQuot0 {a b : Int} (h : b = 0) : Runs prog 123 [W a, W b] (.tup [W 0, B false]) := by
 refine Runs.of (f123_MR _ _) ?_
 unfold f123_M
 repeat' (first
  | refine Goes.chk rfl ?_
  | refine Goes.tv rfl ?_
  | refine Goes.tv (RL.len (by assumption)) ?_
  | refine Goes.nat rfl ?_
  | refine Goes.ite rfl (fun _ => ?_) (fun _ => ?_)
  | refine Goes.call (by assumption) ?_
  | refine Goes.tvs (by assumption) ?_)
 ·exact Goes.ret
 ·rename_i h'; simp [h] at h'
theorem rQuot {a b : Int} (h : ¬ b = 0) : Runs prog 123 [W a, W b] (.tup [W (IntKind.u16.wrap (a.tdiv b)), B true]) := by
 refine Runs.of (f123_MR _ _) ?_
 unfold f123_M
 refine Goes.tv rfl (Goes.ite rfl (fun h' => ?_) fun _ => ?_)
 ·simp at h'; exact absurd h' h
 ·exact Goes.tv (by simp only [pbin, intBin, if_true, if_neg h]) Goes.ret
theorem rTruth (b : Bool) : Runs prog 124 [B b] (W (if b then 1 else 0)) := by
  cases b
  · refine Runs.of (f124_MR _) ?_
    unfold f124_M
    repeat' (first
      | refine Goes.chk rfl ?_
      | refine Goes.tv rfl ?_
      | refine Goes.tv (RL.len (by assumption)) ?_
      | refine Goes.nat rfl ?_
      | refine Goes.ite (v := true) rfl (fun _ => ?_) (fun h => nomatch h)
      | refine Goes.ite (v := false) rfl (fun h => nomatch h) (fun _ => ?_)
      | refine Goes.ite rfl (fun _ => ?_) (fun _ => ?_)
      | refine Goes.call (by assumption) ?_
      | refine Goes.tvs (by assumption) ?_
       )
    exact Goes.ret
  · refine Runs.of (f124_MR _) ?_
    unfold f124_M
    repeat' (first
      | refine Goes.chk rfl ?_
      | refine Goes.tv rfl ?_
      | refine Goes.tv (RL.len (by assumption)) ?_
      | refine Goes.nat rfl ?_
      | refine Goes.ite (v := true) rfl (fun _ => ?_) (fun h => nomatch h)
      | refine Goes.ite (v := false) rfl (fun h => nomatch h) (fun _ => ?_)
      | refine Goes.ite rfl (fun _ => ?_) (fun _ => ?_)
      | refine Goes.call (by assumption) ?_
      | refine Goes.tvs (by assumption) ?_
       )
    exact Goes.ret
theorem rDo (op a b : Int) : Runs prog 120 [I op, W a, W b] (ansW (doW op a b)) := by
 by_cases hb : b = 0
 ·have hq := rQuot0 (a := a) hb
  refine Runs.of (f120_MR _ _ _) ?_
  unfold f120_M
  repeat' (first
   | refine Goes.chk rfl ?_
   | refine Goes.tv rfl ?_
   | refine Goes.tv (RL.len (by assumption)) ?_
   | refine Goes.nat rfl ?_
   | refine Goes.ite (v := true) rfl (fun _ => ?_) (fun h => nomatch h)
   | refine Goes.ite (v := false) rfl (fun h => nomatch h) (fun _ => ?_)
   | refine Goes.ite rfl (fun _ => ?_) (fun _ => ?_)
   | refine Goes.call (by assumption) ?_
   | refine Goes.tvs (by assumption) ?_
   | refine Goes.call (rTruth _) ?_)
  all_goals (refine goes_ret.2 ?_; simp_all [doW, ansW, TV.comp, nth])
 ·have hq := rQuot (a := a) hb
  refine Runs.of (f120_MR _ _ _) ?_
  unfold f120_M
  repeat' (first
   | refine Goes.chk rfl ?_
   | refine Goes.tv rfl ?_
   | refine Goes.tv (RL.len (by assumption)) ?_
   | refine Goes.nat rfl ?_
   | refine Goes.ite (v := true) rfl (fun _ => ?_) (fun h => nomatch h)
   | refine Goes.ite (v := false) rfl (fun h => nomatch h) (fun _ => ?_)
   | refine Goes.ite rfl (fun _ => ?_) (fun _ => ?_)
   | refine Goes.call (by assumption) ?_
   | refine Goes.tvs (by assumption) ?_
   | refine Goes.call (rTruth _) ?_)
  all_goals (refine goes_ret.2 ?_; simp_all [doW, ansW, TV.comp, nth])
theorem rPure (op : Int) : Runs prog 122 [I op] (B (decide (2 ≤ op ∧ op ≤ 8))) := by
 refine Runs.of (f122_MR _) ?_
 unfold f122_M
 repeat' (first
  | refine Goes.chk rfl ?_
  | refine Goes.tv rfl ?_
  | refine Goes.tv (RL.len (by assumption)) ?_
  | refine Goes.nat rfl ?_
  | refine Goes.ite rfl (fun _ => ?_) (fun _ => ?_)
  | refine Goes.call (by assumption) ?_
  | refine Goes.tvs (by assumption) ?_)
 all_goals (refine goes_ret.2 ?_; simp_all <;> omega)
theorem rTwo (op : Int) : Runs prog 119 [I op] (B (decide (3 ≤ op ∧ op ≤ 8))) := by
 have h := rPure op
 refine Runs.of (f119_MR _) ?_
 unfold f119_M
 refine Goes.call h (Goes.chk rfl (Goes.ite rfl (fun h => ?_) fun h => ?_))
 ·simp at h
  refine Goes.tv rfl (goes_ret.2 ?_)
  have : (op != 2) = decide (3 ≤ op ∧ op ≤ 8) := by rw [Bool.eq_iff_iff]; simp; omega
  rw [this]
 ·refine goes_ret.2 ?_
  have h' : ¬ (2 ≤ op ∧ op ≤ 8) := by simpa using h
  simp; omega
end Go.Ab.G7
end
section
set_option linter.unusedVariables false
set_option maxRecDepth 10000
namespace Go.Ab
def frameQ (m : DMod) (f : DFrame) : Prop := 0 ≤ f.f ∧ ∃ g, m.funcs[f.f.toNat]? = some g ∧ (f.regs.length : Int) = g.regs ∧ 0 ≤ f.block ∧ ∃ b, g.blocks[f.block.toNat]? = some b ∧ 0 ≤ f.at_ ∧ f.at_ ≤ b.ins.length
def newT (m : DMod) (n : Int) (args : List Int) : Option DFrame :=
 if 0 ≤ n then (m.funcs[n.toNat]?).bind fun g => if (args.length : Int) = g.params then some ⟨n, 0, 0, args.take g.regs.toNat ++ List.replicate (g.regs.toNat - args.length) 0, 0⟩ else none else none
def noFrame : DFrame := ⟨0, 0, 0, [], 0⟩
def landT (m : DMod) (f : DFrame) (pad w : Int) : Option DFrame :=
 (m.funcs[f.f.toNat]?).bind fun g => if 0 ≤ pad then (g.blocks[pad.toNat]?).bind fun b => if b.landing then some ⟨f.f, pad, 0, f.regs.set b.pad.dst.toNat w, w⟩ else none else none
def errOf : Option DFrame → Int
 | some _ => 0
 | none => 1
theorem within_none {α : Type} {l : List α} {n : Int} (h0 : 0 ≤ n) (h : ¬ n < l.length) : l[n.toNat]? = none := List.getElem?_eq_none (by omega)
theorem RNo : RFrame (some true) [I 0, I 0, I 0, .lit nilV, W 0] noFrame := ⟨_, rfl, .nil, ⟨by decide, by decide⟩, ⟨by decide, by decide⟩, ⟨by decide, by decide⟩, ⟨by decide, by decide⟩⟩
def zFrame : List Value := [.int .i64 0, .int .i64 0, .int .i64 0, .slice none 0 0, .int .u16 0]
theorem fit_frame {a b c d : Int} {y : TV} (h : y.isSl = true) : (Bool.and ((TV.agg [I a, I b, I c, y, W d]).isAgg 5) (fitsAt zFrame ((TV.agg [I a, I b, I c, y, W d]).cellsL true) 0)) = true := by
 simp [fitsAt, TV.isAgg, TV.cellsL, zFrame, isSlV, h, TV.isSc, scV]
theorem in0 : inI 0 := ⟨by decide, by decide⟩
theorem inW0 : inW 0 := ⟨by decide, by decide⟩
end Go.Ab
namespace Go.Ab.G7
open Go Go.Ab Go.Proofs
theorem rOneOf (c n : Int) : Runs prog 71 [I c, I n] (B (tt (within n c))) := by
 refine Runs.of (f71_MR _ _) ?_
 unfold f71_M
 repeat' (first
  | refine Goes.chk rfl ?_
  | refine Goes.tv rfl ?_
  | refine Goes.tv (RL.len (by assumption)) ?_
  | refine Goes.nat rfl ?_
  | refine Goes.ite rfl (fun _ => ?_) (fun _ => ?_)
  | refine Goes.call (by assumption) ?_
  | refine Goes.tvs (by assumption) ?_)
 all_goals (apply ret_tt; simp_all [within] <;> omega)
theorem rOwn {q : Option Bool} {e : List TV} {x : DFrame} (he : RFrame q e x) (hl : x.regs.length ≤ 4294967296) : ∃ e', Runs prog 101 [.agg e] (.agg e') ∧ RFrame (some true) e' x := by
 obtain ⟨g, rfl, hg, ho⟩ := he
 obtain ⟨y, hc, hr⟩ := r39 hg hl
 have hr : RWords (some true) y x.regs := hr
 refine ⟨[I x.f, I x.block, I x.at_, y, W x.fly], ?_, ⟨_, rfl, hr, ho⟩⟩
 refine Runs.of (f101_MR _) ?_
 unfold f101_M
 refine Goes.chk rfl (Goes.call hc (Goes.chk ?_ (Goes.chk ?_ Goes.ret)))
 ·simp [zSl, fitsAt, isSlV, hr.isSl]
 ·simp [isOwn, isOwnL, RWords.isOwn hr, TV.cell, nth]
theorem rGo {q : Option Bool} {e : List TV} {x : DFrame} {b : Int} (he : RFrame q e x) (hl : x.regs.length ≤ 4294967296) (hb : inI b) : ∃ e', Runs prog 85 [.agg e, I b] (.agg e') ∧ RFrame (some true) e' { x with block := b, at_ := 0 } := by
 obtain ⟨e', hr, he'⟩ := rOwn he hl
 obtain ⟨g, rfl, hg, ho⟩ := he
 obtain ⟨y, rfl, hy, ho'⟩ := he'
 refine ⟨[I x.f, I b, I 0, y, W x.fly], ?_, ⟨_, rfl, hy, ho.1, hb, in0, ho.2.2.2⟩⟩
 refine Runs.of (f85_MR _ _) ?_
 unfold f85_M
 refine Goes.chk rfl (Goes.call hr (Goes.chk (fit_frame hy.isSl) (Goes.chk rfl (Goes.chk ?_ Goes.ret))))
 simp [isOwn, isOwnL, TV.cell, nth, RWords.isOwn hy]
theorem rAnswer {q q' : Option Bool} {g : TV} {l : List Int} {e : List TV} {x : DIns} (hg : RWords q g l) (he : RIns q' e x) : Runs prog 112 [g, .agg e] (ansW (answerT l x)) := by
 obtain ⟨a, rfl, ha, ho⟩ := he
 have h2 := rTwo x.op
 refine Runs.of (f112_MR _ _) ?_
 unfold f112_M
 refine Goes.chk rfl (Goes.tv rfl (Goes.ite rfl (fun h => ?_) fun h1 => ?_))
 ·refine goes_ret.2 ?_
  simp at h
  simp [answerT, h, ansW, TV.cell, nth]
 have h1 : ¬ x.op = 1 := by simpa using h1
 refine Goes.tv hg.len (Goes.call (rOneOf _ _) (Goes.chk rfl (Goes.tv rfl (Goes.ite rfl (fun h => ?_) fun h => ?_))))
 ·have h : ¬ within x.a l.length := tt_iff0.1 (by simpa using h)
  refine goes_ret.2 ?_
  simp [answerT, h1, regAt_none h, ansW]
 have hA : within x.a l.length := tt_iff.1 (by simpa using h)
 obtain ⟨u, hu, hul⟩ := within_at hA
 obtain ⟨hi, hui⟩ := RWords.at_ hg (k := .i64) hA.1 hu
 refine Goes.tvs hi (Goes.chk rfl (Goes.call h2 (Goes.chk rfl (Goes.tv rfl (Goes.ite rfl (fun h => ?_) fun h => ?_)))))
 ·have h : ¬ (3 ≤ x.op ∧ x.op ≤ 8) := by simp at h; omega
  have hd := rDo x.op u 0
  have hT : answerT l x = doW x.op u 0 := by simp [answerT, h1, regAt_some hA.1 hu, h]
  rw [hT]
  refine Goes.call hd ?_
  cases doW x.op u 0 with
  | none => exact Goes.chk rfl (Goes.chk rfl (Goes.chk rfl Goes.ret))
  | some v => exact Goes.chk rfl (Goes.chk rfl (Goes.chk rfl Goes.ret))
 have h3 : 3 ≤ x.op ∧ x.op ≤ 8 := by simpa using h
 refine Goes.tv hg.len (Goes.call (rOneOf _ _) (Goes.chk rfl (Goes.tv rfl (Goes.ite rfl (fun h => ?_) fun h => ?_))))
 ·have h : ¬ within x.b l.length := tt_iff0.1 (by simpa using h)
  refine goes_ret.2 ?_
  simp [answerT, h1, regAt_some hA.1 hu, h3, regAt_none h, ansW]
 have hB : within x.b l.length := tt_iff.1 (by simpa using h)
 obtain ⟨v, hv, hvl⟩ := within_at hB
 obtain ⟨hi', hvi⟩ := RWords.at_ hg (k := .i64) hB.1 hv
 have hd := rDo x.op u v
 have hT : answerT l x = doW x.op u v := by simp [answerT, h1, regAt_some hA.1 hu, h3, regAt_some hB.1 hv]
 rw [hT]
 refine Goes.tvs hi' (Goes.chk rfl (Goes.call hd ?_))
 cases doW x.op u v with
 | none => exact Goes.chk rfl (Goes.chk rfl (Goes.chk rfl Goes.ret))
 | some v => exact Goes.chk rfl (Goes.chk rfl (Goes.chk rfl Goes.ret))
theorem answer_in {q q' : Option Bool} {g : TV} {l : List Int} {e : List TV} {x : DIns} (hg : RWords q g l) (he : RIns q' e x) {v : Int} (h : answerT l x = some v) : inW v := by
 obtain ⟨a, rfl, ha, ho⟩ := he
 unfold answerT at h
 split at h
 ·cases h; exact ho.2.2.2.2.1
 ·cases ha' : regAt l x.a with
  | none => rw [ha'] at h; cases h
  | some u =>
   have hu : inW u := by
    unfold regAt at ha'
    split at ha'
    ·exact RWords.mem hg ha'
    ·cases ha'
   rw [ha'] at h
   simp only [Option.bind_some] at h
   split at h
   ·cases hb : regAt l x.b with
    | none => rw [hb] at h; cases h
    | some w => rw [hb] at h; exact doW_in hu h
   ·exact doW_in hu h
theorem rReckon {q q' : Option Bool} {e e' : List TV} {f : DFrame} {x : DIns} (hf : RFrame q e f) (hx : RIns q' e' x) (hl : f.regs.length ≤ 4294967296) :
  ∃ e2, Runs prog 99 [.agg e, .agg e'] (.tup [.agg e2, B (reckonT f x).2]) ∧ RFrame (some true) e2 (reckonT f x).1 := by
 obtain ⟨e1, hr, hf1⟩ := rOwn hf hl
 have hf1' := hf1
 obtain ⟨g0, rfl, hg0, _⟩ := hf
 obtain ⟨y, rfl, hy, ho'⟩ := hf1
 have hans := rAnswer (hy.frz (S := RW1) fun _ _ h => h.frz) hx
 have hx' := hx
 obtain ⟨z, rfl, hz, hxo⟩ := hx
 have hfit := fit_frame (a := f.f) (b := f.block) (c := f.at_) (d := f.fly) hy.isSl
 have hown : isOwnL [TV.agg [I f.f, I f.block, I f.at_, y, W f.fly], B false] = true := by simp [isOwn, isOwnL, RWords.isOwn hy]
 cases hT : answerT f.regs x with
 | none =>
  rw [hT] at hans
  have hR : reckonT f x = (f, false) := by simp [reckonT, hT]
  rw [hR]
  refine ⟨_, ?_, hf1'⟩
  refine Runs.of (f99_MR _ _) ?_
  unfold f99_M
  exact Goes.chk rfl (Goes.chk rfl (Goes.call hr (Goes.chk hfit (Goes.call hans (Goes.chk rfl (Goes.chk rfl (Goes.chk rfl (Goes.tv rfl (Goes.ite rfl (fun _ => Goes.chk hown Goes.ret) fun h => nomatch h)))))))))
 | some v =>
  rw [hT] at hans
  have hv := answer_in hy hx' hT
  by_cases hD : within x.dst f.regs.length
  ·have hD' : 0 ≤ x.dst ∧ x.dst < f.regs.length := hD
   have hR : reckonT f x = ({ f with regs := f.regs.set x.dst.toNat v, at_ := IntKind.i64.wrap (f.at_ + 1) }, true) := by simp [reckonT, hT, hD']
   have hlt : x.dst.toNat < f.regs.length := by omega
   obtain ⟨a, v', hp, hs, hrl⟩ := RWords.put hy hlt hv
   have hbl : Nat.blt x.dst.toNat f.regs.length = true := by simpa using hlt
   rw [hR]
   refine ⟨[I f.f, I f.block, I (IntKind.i64.wrap (f.at_ + 1)), v', W f.fly], ?_, ⟨_, rfl, hrl, ho'.1, ho'.2.1, wrap_i64 _, ho'.2.2.2⟩⟩
   refine Runs.of (f99_MR _ _) ?_
   unfold f99_M
   refine Goes.chk rfl (Goes.chk rfl (Goes.call hr (Goes.chk hfit (Goes.call hans (Goes.chk rfl (Goes.chk rfl (Goes.chk rfl (Goes.tv rfl (Goes.ite rfl (fun h => nomatch h) fun _ => ?_)))))))))
   refine Goes.tv hy.len (Goes.call (rOneOf _ _) (Goes.chk rfl (Goes.tv rfl (Goes.ite rfl (fun h => ?_) fun _ => ?_))))
   ·exact absurd hD (tt_iff0.1 (by simpa using h))
   ·have hdn : asNat (I x.dst) = some x.dst.toNat := by
     have := hxo.2.1.2
     simp [asNat, hD.1]; omega
    refine Goes.nat hy.slLen (Goes.nat hdn (Goes.chk ?_ (Goes.tvs hp (Goes.chk rfl (Goes.tv hs (Goes.tv rfl (Goes.chk ?_ Goes.ret)))))))
    ·rw [hbl]; exact (Bool.and_true _).trans hy.slSize
    ·simp [isOwn, isOwnL, RWords.isOwn hrl, TV.cell, nth]
  ·have hD' : ¬ (0 ≤ x.dst ∧ x.dst < f.regs.length) := hD
   have hR : reckonT f x = (f, false) := by simp only [reckonT, hT]; rw [if_neg hD']
   rw [hR]
   refine ⟨_, ?_, hf1'⟩
   refine Runs.of (f99_MR _ _) ?_
   unfold f99_M
   refine Goes.chk rfl (Goes.chk rfl (Goes.call hr (Goes.chk hfit (Goes.call hans (Goes.chk rfl (Goes.chk rfl (Goes.chk rfl (Goes.tv rfl (Goes.ite rfl (fun h => nomatch h) fun _ => ?_)))))))))
   refine Goes.tv hy.len (Goes.call (rOneOf _ _) (Goes.chk rfl (Goes.tv rfl (Goes.ite rfl (fun _ => Goes.chk hown Goes.ret) fun h => ?_))))
   exact absurd (tt_iff.1 (by simpa using h)) hD
theorem rCatches {q : Option Bool} {e : List TV} {p : DPad} {w : Int} (he : RPad q e p) : Runs prog 104 [.agg e, W w] (B (tt (p.all = true ∨ w ∈ p.catches))) := by
 obtain ⟨x, rfl, hx, _⟩ := he
 have h56 := r56 (w := w) hx
 refine Runs.of (f104_MR _ _) ?_
 unfold f104_M
 repeat' (first
  | refine Goes.chk rfl ?_
  | refine Goes.tv rfl ?_
  | refine Goes.tv (RL.len (by assumption)) ?_
  | refine Goes.nat rfl ?_
  | refine Goes.ite rfl (fun _ => ?_) (fun _ => ?_)
  | refine Goes.call (by assumption) ?_
  | refine Goes.tvs (by assumption) ?_)
 ·rename_i h
  have h : p.all = true := by simpa [TV.cell, nth] using h
  exact ret_yes (.inl h)
 ·rename_i h
  have h : p.all = false := by simpa [TV.cell, nth] using h
  apply ret_tt
  simp [tt_iff, h]
end Go.Ab.G7
end
section
set_option linter.unusedVariables false
set_option maxRecDepth 10000
namespace Go.Ab
theorem asNat_in {n : Int} (h0 : 0 ≤ n) (h : inI n) : asNat (I n) = some n.toNat := by
 have := h.2
 simp [asNat, h0]; omega
theorem words_make {xs : List (List TV)} {args : List Int} (h : F2 RW1 xs args) {n : Nat} (hn : n ≤ 4294967296) : RWords (some true) (.sl true 1 (xs.take (List.replicate n [W 0]).length ++ (List.replicate n [W 0]).drop xs.length)) (args.take n ++ List.replicate (n - args.length) 0) := by
 have hlen := h.length
 refine .sl (by simp) ?_ (by simp; omega)
 rw [List.length_replicate, List.drop_replicate, hlen]
 refine (h.take n).append ?_
 exact F2.of_get (by simp) fun i e a he ha => by
  have h1 := (List.getElem?_eq_some_iff.1 he)
  have h2 := (List.getElem?_eq_some_iff.1 ha)
  obtain ⟨_, h1⟩ := h1
  obtain ⟨_, h2⟩ := h2
  simp at h1 h2
  subst h1 h2
  exact ⟨rfl, by decide, by decide⟩
theorem own_tup {a b c d e : Int} {y : TV} (h : isOwn y = true) : isOwnL [.agg [I a, I b, I c, y, W d], I e] = true := by
 simp [isOwn, isOwnL, h]
theorem RW0 : RW1 [W 0] 0 := ⟨rfl, by decide, by decide⟩
end Go.Ab
namespace Go.Ab.G7
open Go Go.Ab Go.Proofs
theorem mod_func {m : DMod} {g : DFunc} {n : Nat} (h : modP m) (hg : m.funcs[n]? = some g) : funcP m.funcs g := h.2.2 n (List.getElem?_eq_some_iff.1 hg).1 g hg
theorem mod_regs {m : DMod} {g : DFunc} {n : Nat} (h : modP m) (hg : m.funcs[n]? = some g) : 0 ≤ g.regs ∧ g.regs ≤ 256 := by
 obtain ⟨⟨h1, h2, h3, h4⟩, _⟩ := mod_func h hg
 exact ⟨by omega, h4⟩
noncomputable def newD (m : DMod) (n : Int) (args : List Int) : Option DFrame := bif tt (modP m) then newT m n args else none
theorem rFRight {q q' : Option Bool} {e e' : List TV} {m : DMod} {f : DFrame} (hm : RMod q e m) (hf : RFrame q' e' f) : Runs prog 42 [.agg e, .agg e'] (B (tt (modP m ∧ frameQ m f))) := by
 have h8 := r8 hm
 obtain ⟨x, rfl, hx⟩ := hm
 obtain ⟨g, rfl, hg, ho⟩ := hf
 refine Runs.of (f42_MR _ _) ?_
 unfold f42_M
 refine Goes.chk rfl (Goes.chk rfl (Goes.call h8 (Goes.chk rfl (Goes.tv rfl (Goes.ite rfl (fun h => ?_) fun h => ?_)))))
 ·exact ret_no fun h' => tt_iff0.1 (by simpa using h) h'.1
 have hM : modP m := tt_iff.1 (by simpa using h)
 refine Goes.tv hx.len (Goes.call (rOneOf _ _) (Goes.chk rfl (Goes.tv rfl (Goes.ite rfl (fun h => ?_) fun h => ?_))))
 ·have h : ¬ within f.f m.funcs.length := tt_iff0.1 (by simpa using h)
  refine ret_no ?_
  rintro ⟨_, h0, u, hu, _⟩
  have := (List.getElem?_eq_some_iff.1 hu).1
  exact h ⟨h0, by omega⟩
 have hF : within f.f m.funcs.length := tt_iff.1 (by simpa using h)
 have hlt : f.f.toNat < m.funcs.length := by have := hF.1; have := hF.2; omega
 have hu : m.funcs[f.f.toNat]? = some m.funcs[f.f.toNat] := List.getElem?_eq_getElem hlt
 obtain ⟨e, he, hr⟩ := hx.idxI (k := .i64) hF.1 hu
 generalize m.funcs[f.f.toNat] = u at hu hr
 obtain ⟨b, rfl, hb, _⟩ := hr
 refine Goes.tvs he (Goes.chk rfl (Goes.tv hg.len (Goes.tv rfl (Goes.ite rfl (fun h => ?_) fun h => ?_))))
 ·refine ret_no ?_
  rintro ⟨_, h0, u', hu', hl, _⟩
  rw [hu] at hu'
  cases hu'
  simp at h
  exact h hl
 have hL : (f.regs.length : Int) = u.regs := by simpa [nth] using h
 refine Goes.tv (RL.len hb) (Goes.call (rOneOf _ _) (Goes.chk rfl (Goes.tv rfl (Goes.ite rfl (fun h => ?_) fun h => ?_))))
 ·have h : ¬ within f.block u.blocks.length := tt_iff0.1 (by simpa using h)
  refine ret_no ?_
  rintro ⟨_, h0, u', hu', hl, h1, v, hv, _⟩
  rw [hu] at hu'
  cases hu'
  have := (List.getElem?_eq_some_iff.1 hv).1
  exact h ⟨h1, by omega⟩
 have hB : within f.block u.blocks.length := tt_iff.1 (by simpa using h)
 have hlt2 : f.block.toNat < u.blocks.length := by have := hB.1; have := hB.2; omega
 have hv : u.blocks[f.block.toNat]? = some u.blocks[f.block.toNat] := List.getElem?_eq_getElem hlt2
 obtain ⟨e2, he2, hr2⟩ := hb.idxI (k := .i64) hB.1 hv
 generalize u.blocks[f.block.toNat] = v at hv hr2
 obtain ⟨c, i, g2, rfl, _, _, hi, _⟩ := hr2
 have hiff : (modP m ∧ frameQ m f) ↔ 0 ≤ f.at_ ∧ f.at_ ≤ v.ins.length := by
  constructor
  ·rintro ⟨_, _, u', hu', _, _, v', hv', h⟩
   rw [hu] at hu'
   cases hu'
   rw [hv] at hv'
   cases hv'
   exact h
  ·intro h
   exact ⟨hM, hF.1, u, hu, hL, hB.1, v, hv, h⟩
 rw [tt_congr hiff]
 refine Goes.tv rfl (Goes.ite rfl (fun h => ?_) fun h => ?_)
 ·refine Goes.tvs he2 (Goes.chk rfl (Goes.tv (RL.len hi) (Goes.tv rfl ?_)))
  apply ret_tt
  have h : 0 ≤ f.at_ := by simpa [TV.cell, nth] using h
  simp [h]
 ·refine ret_no fun h' => ?_
  have h : ¬ 0 ≤ f.at_ := by simpa [TV.cell, nth] using h
  exact h h'.1
theorem rNew {q q' : Option Bool} {e : List TV} {x : TV} {m : DMod} {n : Int} {args : List Int} (hm : RMod q e m) (hn : inI n) (hx : RWords q' x args) : ∃ e', Runs prog 54 [.agg e, I n, x] (.tup [.agg e', I (errOf (newD m n args))]) ∧ RFrame (some true) e' ((newD m n args).getD noFrame) := by
 have h8 := r8 hm
 obtain ⟨y, rfl, hy⟩ := hm
 have no : newD m n args = none → Runs prog 54 [.agg [y], I n, x] (.tup [.agg [I 0, I 0, I 0, .lit nilV, W 0], I 1]) → ∃ e', Runs prog 54 [.agg [y], I n, x] (.tup [.agg e', I (errOf (newD m n args))]) ∧ RFrame (some true) e' ((newD m n args).getD noFrame) := by
  intro h hr
  rw [h]
  exact ⟨_, hr, RNo⟩
 by_cases hM : modP m
 rotate_left
 ·refine no (by simp [newD, tt_false hM]) ?_
  rw [tt_false hM] at h8
  refine Runs.of (f54_MR _ _ _) ?_
  unfold f54_M
  exact Goes.chk rfl (Goes.call h8 (Goes.chk rfl (Goes.tv rfl (Goes.ite rfl (fun _ => Goes.chk rfl Goes.ret) fun h => nomatch h))))
 rw [tt_true hM] at h8
 have hD : newD m n args = newT m n args := by simp [newD, tt_true hM]
 by_cases hF : within n m.funcs.length
 rotate_left
 ·have hN : newD m n args = none := by
   rw [hD]
   unfold newT
   split
   ·rename_i h0
    rw [within_none h0 fun h => hF ⟨h0, h⟩]
    rfl
   ·rfl
  refine no hN ?_
  refine Runs.of (f54_MR _ _ _) ?_
  unfold f54_M
  refine Goes.chk rfl (Goes.call h8 (Goes.chk rfl (Goes.tv rfl (Goes.ite rfl (fun h => nomatch h) fun _ => ?_))))
  refine Goes.tv hy.len (Goes.call (rOneOf _ _) (Goes.chk rfl (Goes.tv rfl (Goes.ite rfl (fun _ => Goes.chk rfl Goes.ret) fun h => ?_))))
  exact absurd (tt_iff.1 (by simpa using h)) hF
 have hlt : n.toNat < m.funcs.length := by have := hF.1; have := hF.2; omega
 have hu : m.funcs[n.toNat]? = some m.funcs[n.toNat] := List.getElem?_eq_getElem hlt
 obtain ⟨e, he, hr⟩ := hy.idxI (k := .i64) hF.1 hu
 generalize m.funcs[n.toNat] = u at hu hr
 obtain ⟨hr0, hr1⟩ := mod_regs hM hu
 obtain ⟨b, rfl, hb, _⟩ := hr
 have hT : newT m n args = if (args.length : Int) = u.params then some ⟨n, 0, 0, args.take u.regs.toNat ++ List.replicate (u.regs.toNat - args.length) 0, 0⟩ else none := by simp [newT, hF.1, hu]
 by_cases hP : (args.length : Int) = u.params
 rotate_left
 ·refine no (by rw [hD, hT, if_neg hP]) ?_
  refine Runs.of (f54_MR _ _ _) ?_
  unfold f54_M
  refine Goes.chk rfl (Goes.call h8 (Goes.chk rfl (Goes.tv rfl (Goes.ite rfl (fun h => nomatch h) fun _ => ?_))))
  refine Goes.tv hy.len (Goes.call (rOneOf _ _) (Goes.chk rfl (Goes.tv rfl (Goes.ite rfl (fun h => ?_) fun _ => ?_))))
  ·exact absurd hF (tt_iff0.1 (by simpa using h))
  refine Goes.tv hx.len (Goes.tvs he (Goes.chk rfl (Goes.tv rfl (Goes.ite rfl (fun _ => Goes.chk rfl Goes.ret) fun h => ?_))))
  simp at h
  exact absurd h hP
 rw [hD, hT, if_pos hP]
 obtain ⟨xs, hxs, hF2⟩ := hx.elems
 have hmk := words_make hF2 (n := u.regs.toNat) (by omega)
 have hnat : asNat (I u.regs) = some u.regs.toNat := asNat_in hr0 ⟨by omega, by omega⟩
 refine ⟨[I n, I 0, I 0, _, W 0], ?_, ⟨_, rfl, hmk, hn, in0, in0, inW0⟩⟩
 refine Runs.of (f54_MR _ _ _) ?_
 unfold f54_M
 refine Goes.chk rfl (Goes.call h8 (Goes.chk rfl (Goes.tv rfl (Goes.ite rfl (fun h => nomatch h) fun _ => ?_))))
 refine Goes.tv hy.len (Goes.call (rOneOf _ _) (Goes.chk rfl (Goes.tv rfl (Goes.ite rfl (fun h => ?_) fun _ => ?_))))
 ·exact absurd hF (tt_iff0.1 (by simpa using h))
 refine Goes.tv hx.len (Goes.tvs he (Goes.chk rfl (Goes.tv rfl (Goes.ite rfl (fun h => ?_) fun _ => ?_))))
 ·simp at h
  exact absurd hP h
 refine Goes.tvs he (Goes.chk rfl (Goes.nat hnat (Goes.nat hnat (Goes.chk ?_ (Goes.rws hxs (Goes.tv (by simp only [pcopy, if_true]) (Goes.nat rfl (Goes.chk rfl (Goes.chk ?_ Goes.ret)))))))))
 ·have : u.regs.toNat ≤ 4294967296 := by omega
  simp [this]
 ·exact own_tup (RWords.isOwn hmk)
end Go.Ab.G7
end

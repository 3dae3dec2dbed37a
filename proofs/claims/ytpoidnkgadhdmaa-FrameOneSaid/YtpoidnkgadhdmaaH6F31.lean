
/- What layer 1's functions and one frame's steps answer: words, places, and frames as plain data. No condition. -/
import Derived.Test.YtpoidnkgadhdmaaH6F6
set_option linter.unusedVariables false
set_option maxRecDepth 10000
namespace Go.Ab
structure DFrame where
  f : Int
  block : Int
  at_ : Int
  regs : List Int
  fly : Int
def DFrame.ok (x : DFrame) : Prop := inI x.f ∧ inI x.block ∧ inI x.at_ ∧ inW x.fly
def RFrame (q : Option Bool) (e : List TV) (x : DFrame) : Prop := ∃ g, e = [I x.f, I x.block, I x.at_, g, W x.fly] ∧ RWords q g x.regs ∧ x.ok
theorem RFrame.weak {q : Option Bool} {e : List TV} {x : DFrame} (h : RFrame q e x) : RFrame none e x := by
  obtain ⟨g, rfl, hg, ho⟩ := h
  exact ⟨g, rfl, hg.weak fun _ _ h => h, ho⟩
theorem RFrame.frz {q : Option Bool} {e : List TV} {x : DFrame} (h : RFrame q e x) : RFrame (some false) (frzL e) x := by
  obtain ⟨g, rfl, hg, ho⟩ := h
  exact ⟨Go.Ab.frz g, rfl, hg.frz fun _ _ h => h.frz, ho⟩
theorem RFrame.own {e : List TV} {x : DFrame} (h : RFrame (some true) e x) : isOwnL e = true := by
  obtain ⟨g, rfl, hg, _⟩ := h
  simp [isOwnL, isOwn, hg.own fun _ _ h => h.own]
theorem frame_eq {a b : DFrame} : a = b ↔ a.f = b.f ∧ a.block = b.block ∧ a.at_ = b.at_ ∧ a.regs = b.regs ∧ a.fly = b.fly := by
  cases a; cases b; simp

/-! ### words -/
theorem u16_mod (n : Int) : IntKind.u16.wrap n = n % 65536 := by simp [IntKind.wrap, IntKind.bits, IntKind.signed]
theorem wrap_u16 (n : Int) : inW (IntKind.u16.wrap n) := by rw [u16_mod]; constructor <;> omega
theorem wrap_i64 (n : Int) : inI (IntKind.i64.wrap n) := by rw [IntKind.wrap_i64]; constructor <;> omega
/-- What an operation answers. -/
def doW (op a b : Int) : Option Int :=
  if op = 2 then some a else if op = 3 then some (IntKind.u16.wrap (a + b)) else if op = 4 then some (IntKind.u16.wrap (a - b)) else if op = 5 then some (IntKind.u16.wrap (a * b)) else
  if op = 6 then (if b = 0 then none else some (IntKind.u16.wrap (a.tdiv b))) else if op = 7 then some (if a = b then 1 else 0) else if op = 8 then some (if a < b then 1 else 0) else none
theorem doW_in {op a b v : Int} (ha : inW a) (h : doW op a b = some v) : inW v := by
  have h0 : inW 0 := ⟨by decide, by decide⟩
  have h1 : inW 1 := ⟨by decide, by decide⟩
  unfold doW at h
  repeat' split at h
  all_goals first | (cases h; done) | (cases h; first | exact ha | exact wrap_u16 _ | exact h0 | exact h1 | (split <;> assumption))
def ansW : Option Int → TV
  | some v => .tup [W v, B true]
  | none => .tup [W 0, B false]
theorem u64w {a : Int} (h : inW a) : IntKind.u64.wrap a = a := IntWalk.u64_in _ ⟨h.1, by have := h.2; omega⟩
theorem u64mul {a b : Int} (ha : inW a) (hb : inW b) : IntKind.u64.wrap (a * b) = a * b := by
  obtain ⟨a0, a1⟩ := ha
  obtain ⟨b0, b1⟩ := hb
  have h0 := Int.mul_nonneg a0 b0
  have h1 : a * b ≤ 65535 * 65535 := Int.mul_le_mul a1 b1 b0 (by decide)
  exact IntWalk.u64_in _ ⟨h0, by omega⟩
/-- The word of a place. -/
def regAt (l : List Int) (n : Int) : Option Int := if 0 ≤ n then l[n.toNat]? else none
def answerT (l : List Int) (x : DIns) : Option Int :=
  if x.op = 1 then some x.k else (regAt l x.a).bind fun a => if 3 ≤ x.op ∧ x.op ≤ 8 then (regAt l x.b).bind fun b => doW x.op a b else doW x.op a 0
def reckonT (f : DFrame) (x : DIns) : DFrame × Bool :=
  match answerT f.regs x with
  | none => (f, false)
  | some w => if 0 ≤ x.dst ∧ x.dst < f.regs.length then ({ f with regs := f.regs.set x.dst.toNat w, at_ := IntKind.i64.wrap (f.at_ + 1) }, true) else (f, false)
theorem within_at {l : List Int} {n : Int} (h : within n l.length) : ∃ a, l[n.toNat]? = some a ∧ n.toNat < l.length := by
  have : n.toNat < l.length := by have := h.1; have := h.2; omega
  exact ⟨_, List.getElem?_eq_getElem this, this⟩
theorem regAt_some {l : List Int} {n a : Int} (h0 : 0 ≤ n) (h : l[n.toNat]? = some a) : regAt l n = some a := by simp [regAt, h0, h]
theorem regAt_none {l : List Int} {n : Int} (h : ¬ within n l.length) : regAt l n = none := by
  unfold regAt
  split
  · rename_i h0
    exact List.getElem?_eq_none (by have : ¬ n < l.length := fun h1 => h ⟨h0, h1⟩; omega)
  · rfl
section
variable {q : Option Bool} {v : TV} {l : List Int}
theorem RWords.at_ (h : RWords q v l) {k : IntKind} {n a : Int} (h0 : 0 ≤ n) (hn : l[n.toNat]? = some a) : pidx 1 v (.lit (.int k n)) = some [W a] ∧ inW a := by
  obtain ⟨e, he, rfl, hw⟩ := h.idxI (k := k) h0 hn
  exact ⟨he, hw⟩
theorem RWords.mem (h : RWords q v l) {n : Nat} {a : Int} (hn : l[n]? = some a) : inW a := (RWords.at_ h (k := .i64) (n := (n : Int)) (by omega) (by simpa using hn)).2
/-- Another word in a place of a list of its own. -/
theorem RWords.put (h : RWords (some true) v l) {n : Nat} {w : Int} (hn : n < l.length) (hw : inW w) : ∃ a v', pel v n = some [W a] ∧ setC [] v n 0 [W w] = some v' ∧ RWords (some true) v' (l.set n w) := by
  have hi : l[n]? = some l[n] := List.getElem?_eq_getElem hn
  have hp := h.toRP (R := fun _ e a => RW1 e a) fun _ _ _ h => h
  obtain ⟨e, he, ⟨rfl, _⟩, _, hset⟩ := hp.row hi
  exact ⟨_, _, he, hset 0 _, (hp.setTo hi (b := w) (S := fun _ e a => RW1 e a) ⟨rfl, hw⟩ fun _ _ _ _ h => h).toRL fun _ _ _ _ h => h⟩
theorem RWords.isOwn (h : RWords (some true) v l) : Go.Ab.isOwn v = true := RL.own h fun _ _ h => h.own
end
theorem RL.app1 {α : Type} {s : Nat} {R : List TV → α → Prop} {y : TV} {l : List α} (hy : RL (some true) s R y l) {e : List TV} {a : α} (hR : R e a) (hl : l.length + 1 ≤ 4294967296) : ∃ y', papp s y [e] = some y' ∧ RL (some true) s R y' (l ++ [a]) := by
  rcases hy with ⟨rfl, rfl⟩ | ⟨o, xs, rfl, hq, h, hb⟩
  · refine ⟨.sl true s [e], by simp [papp, nilV, room, rowT], .sl (by simp) (.cons hR .nil) (by simp)⟩
  · have hlen := h.length
    rw [hq true rfl]
    refine ⟨.sl true s (xs ++ [e]), ?_, .sl (by simp) (h.append (.cons hR .nil)) (by simp; omega)⟩
    simp [papp, room]; omega
end Go.Ab
namespace Go.Ab.H6
open Go Go.Ab Go.Proofs
theorem rQuot0 {a b : Int} (h : b = 0) : Runs prog 107 [W a, W b] (.tup [W 0, B false]) := by
  refine Runs.of (f107_MR _ _) ?_
  unfold f107_M
  repeat' (first
    | refine Goes.chk rfl ?_
    | refine Goes.tv rfl ?_
    | refine Goes.tv (RL.len (by assumption)) ?_
    | refine Goes.nat rfl ?_
    | refine Goes.ite rfl (fun _ => ?_) (fun _ => ?_)
    | refine Goes.call (by assumption) ?_
    | refine Goes.tvs (by assumption) ?_)
  · exact Goes.ret
  · rename_i h'; simp [h] at h'
theorem rQuot {a b : Int} (h : ¬ b = 0) : Runs prog 107 [W a, W b] (.tup [W (IntKind.u16.wrap (a.tdiv b)), B true]) := by
  refine Runs.of (f107_MR _ _) ?_
  unfold f107_M
  refine Goes.tv rfl (Goes.ite rfl (fun h' => ?_) fun _ => ?_)
  · simp at h'; exact absurd h' h
  · exact Goes.tv (by simp only [pbin, intBin, if_true, if_neg h]) Goes.ret
theorem rTruth (b : Bool) : Runs prog 108 [B b] (W (if b then 1 else 0)) := by
  cases b
  · refine Runs.of (f108_MR _) ?_
    unfold f108_M
    repeat' (first
      | refine Goes.chk rfl ?_
      | refine Goes.tv rfl ?_
      | refine Goes.tv (RL.len (by assumption)) ?_
      | refine Goes.nat rfl ?_
      | refine Goes.ite (v := true) rfl (fun _ => ?_) (fun h => nomatch h)
      | refine Goes.ite (v := false) rfl (fun h => nomatch h) (fun _ => ?_)
      | refine Goes.ite rfl (fun _ => ?_) (fun _ => ?_)
      | refine Goes.call (by assumption) ?_
      | refine Goes.tvs (by assumption) ?_
       )
    exact Goes.ret
  · refine Runs.of (f108_MR _) ?_
    unfold f108_M
    repeat' (first
      | refine Goes.chk rfl ?_
      | refine Goes.tv rfl ?_
      | refine Goes.tv (RL.len (by assumption)) ?_
      | refine Goes.nat rfl ?_
      | refine Goes.ite (v := true) rfl (fun _ => ?_) (fun h => nomatch h)
      | refine Goes.ite (v := false) rfl (fun h => nomatch h) (fun _ => ?_)
      | refine Goes.ite rfl (fun _ => ?_) (fun _ => ?_)
      | refine Goes.call (by assumption) ?_
      | refine Goes.tvs (by assumption) ?_
       )
    exact Goes.ret
/-- word.Do -/
theorem rDo (op a b : Int) : Runs prog 82 [I op, W a, W b] (ansW (doW op a b)) := by
  by_cases hb : b = 0
  · have hq := rQuot0 (a := a) hb
    refine Runs.of (f82_MR _ _ _) ?_
    unfold f82_M
    repeat' (first
      | refine Goes.chk rfl ?_
      | refine Goes.tv rfl ?_
      | refine Goes.tv (RL.len (by assumption)) ?_
      | refine Goes.nat rfl ?_
      | refine Goes.ite (v := true) rfl (fun _ => ?_) (fun h => nomatch h)
      | refine Goes.ite (v := false) rfl (fun h => nomatch h) (fun _ => ?_)
      | refine Goes.ite rfl (fun _ => ?_) (fun _ => ?_)
      | refine Goes.call (by assumption) ?_
      | refine Goes.tvs (by assumption) ?_
      | refine Goes.call (rTruth _) ?_)
    all_goals (refine goes_ret.2 ?_; simp_all [doW, ansW, TV.comp, nth])
  · have hq := rQuot (a := a) hb
    refine Runs.of (f82_MR _ _ _) ?_
    unfold f82_M
    repeat' (first
      | refine Goes.chk rfl ?_
      | refine Goes.tv rfl ?_
      | refine Goes.tv (RL.len (by assumption)) ?_
      | refine Goes.nat rfl ?_
      | refine Goes.ite (v := true) rfl (fun _ => ?_) (fun h => nomatch h)
      | refine Goes.ite (v := false) rfl (fun h => nomatch h) (fun _ => ?_)
      | refine Goes.ite rfl (fun _ => ?_) (fun _ => ?_)
      | refine Goes.call (by assumption) ?_
      | refine Goes.tvs (by assumption) ?_
      | refine Goes.call (rTruth _) ?_)
    all_goals (refine goes_ret.2 ?_; simp_all [doW, ansW, TV.comp, nth])
theorem rPure (op : Int) : Runs prog 106 [I op] (B (decide (2 ≤ op ∧ op ≤ 8))) := by
  refine Runs.of (f106_MR _) ?_
  unfold f106_M
  repeat' (first
    | refine Goes.chk rfl ?_
    | refine Goes.tv rfl ?_
    | refine Goes.tv (RL.len (by assumption)) ?_
    | refine Goes.nat rfl ?_
    | refine Goes.ite rfl (fun _ => ?_) (fun _ => ?_)
    | refine Goes.call (by assumption) ?_
    | refine Goes.tvs (by assumption) ?_)
  all_goals (refine goes_ret.2 ?_; simp_all <;> omega)
theorem rTwo (op : Int) : Runs prog 81 [I op] (B (decide (3 ≤ op ∧ op ≤ 8))) := by
  have h := rPure op
  refine Runs.of (f81_MR _) ?_
  unfold f81_M
  refine Goes.call h (Goes.chk rfl (Goes.ite rfl (fun h => ?_) fun h => ?_))
  · simp at h
    refine Goes.tv rfl (goes_ret.2 ?_)
    have : (op != 2) = decide (3 ≤ op ∧ op ≤ 8) := by rw [Bool.eq_iff_iff]; simp; omega
    rw [this]
  · refine goes_ret.2 ?_
    have h' : ¬ (2 ≤ op ∧ op ≤ 8) := by simpa using h
    simp; omega
/-- davitref01.Do -/
theorem rDo' (op : Int) {a b : Int} (ha : inW a) (hb : inW b) : Runs prog 57 [I op, W a, W b] (ansW (doW op a b)) := by
  have hb0 := hb.1
  have hb1 := hb.2
  have ha0 := ha.1
  have ha1 := ha.2
  refine Runs.of (f57_MR _ _ _) ?_
  unfold f57_M
  refine Goes.tv (v := .lit (.int .u64 a)) (by simp [pconv, u64w ha]) (Goes.tv (v := .lit (.int .u64 b)) (by simp [pconv, u64w hb]) ?_)
  refine Goes.tv rfl (Goes.ite rfl (fun h => ?_) fun h2 => ?_)
  · refine goes_ret.2 ?_; simp_all [doW, ansW]
  refine Goes.tv rfl (Goes.ite rfl (fun h => ?_) fun h3 => ?_)
  · refine Goes.tv (v := .lit (.int .u64 (a + b))) (by simp [pbin, intBin]; exact IntWalk.u64_in _ (by omega)) (Goes.tv rfl (Goes.tv rfl (goes_ret.2 ?_)))
    simp at h
    subst h
    simp only [doW, ansW, u16_mod, Int.tmod_eq_emod_of_nonneg (show 0 ≤ a + b by omega)]
    simp
  refine Goes.tv rfl (Goes.ite rfl (fun h => ?_) fun h4 => ?_)
  · refine Goes.tv (v := .lit (.int .u64 (a + 65536))) (by simp [pbin, intBin]; exact IntWalk.u64_in _ (by omega)) (Goes.tv (v := .lit (.int .u64 (a + 65536 - b))) (by simp [pbin, intBin]; exact IntWalk.u64_in _ (by omega)) (Goes.tv rfl (Goes.tv rfl (goes_ret.2 ?_))))
    simp at h
    subst h
    simp only [doW, ansW, u16_mod, Int.tmod_eq_emod_of_nonneg (show 0 ≤ a + 65536 - b by omega)]
    simp
    omega
  refine Goes.tv rfl (Goes.ite rfl (fun h => ?_) fun h5 => ?_)
  · refine Goes.tv (v := .lit (.int .u64 (a * b))) (by simp [pbin, intBin]; exact u64mul ha hb) (Goes.tv rfl (Goes.tv rfl (goes_ret.2 ?_)))
    simp at h
    subst h
    simp only [doW, ansW, u16_mod, Int.tmod_eq_emod_of_nonneg (Int.mul_nonneg ha0 hb0)]
    simp
  refine Goes.tv rfl (Goes.ite rfl (fun h => ?_) fun h6 => ?_)
  · refine Goes.tv rfl (Goes.ite rfl (fun g => ?_) fun g => ?_)
    · have hbp : 0 < b := by simpa using g
      have hd := IntWalk.tdiv_le a b ha0 (by omega)
      have he : a.tdiv b = a / b := Int.tdiv_eq_ediv_of_nonneg ha0
      refine Goes.tv (v := .lit (.int .u64 (a.tdiv b))) (by simp only [pbin, intBin, if_true, if_neg (show ¬ b = 0 by omega)]; rw [IntWalk.u64_in _ (by rw [he]; omega)]) (Goes.tv rfl (goes_ret.2 ?_))
      simp at h
      subst h
      simp [doW, ansW, show ¬ b = 0 by omega]
    · have hb' : b = 0 := by simp at g; omega
      simp at h
      subst h hb'
      refine f57_0_J ?_
      unfold f57_0
      refine Goes.tv rfl (Goes.ite rfl (fun h => nomatch h) fun _ => Goes.tv rfl (Goes.ite rfl (fun h => nomatch h) fun _ => f57_1_J ?_))
      unfold f57_1
      refine Goes.tv rfl (Goes.ite rfl (fun h => nomatch h) fun _ => Goes.tv rfl (goes_ret.2 ?_))
      rfl
  · refine f57_0_J ?_
    unfold f57_0
    simp at h2 h3 h4 h5 h6
    refine Goes.tv rfl (Goes.ite rfl (fun h => ?_) fun h7 => ?_)
    · simp at h
      subst h
      refine Goes.tv rfl (Goes.ite rfl (fun g => ?_) fun g => ?_)
      · simp at g; refine goes_ret.2 ?_; simp [doW, ansW, g]
      · simp at g
        refine Goes.tv rfl (Goes.ite rfl (fun h => nomatch h) fun _ => f57_1_J ?_)
        unfold f57_1
        refine Goes.tv rfl (Goes.ite rfl (fun _ => goes_ret.2 ?_) fun h => nomatch h)
        simp [doW, ansW, g]
    · simp at h7
      refine Goes.tv rfl (Goes.ite rfl (fun h => ?_) fun h8 => ?_)
      · simp at h
        subst h
        refine Goes.tv rfl (Goes.ite rfl (fun g => ?_) fun g => ?_)
        · simp at g; refine goes_ret.2 ?_; simp [doW, ansW, g]
        · simp at g
          refine f57_1_J ?_
          unfold f57_1
          refine Goes.tv rfl (Goes.ite rfl (fun h => nomatch h) fun _ => Goes.tv rfl (goes_ret.2 ?_))
          simp [doW, ansW, show ¬ a < b by omega]
      · simp at h8
        refine f57_1_J ?_
        unfold f57_1
        refine Goes.tv rfl (Goes.ite rfl (fun h => ?_) fun _ => Goes.tv rfl (goes_ret.2 ?_))
        · simp at h; exact absurd h h7
        · simp [doW, ansW, h2, h3, h4, h5, h6, h7, h8]
end Go.Ab.H6

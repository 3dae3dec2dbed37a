/- Modules as plain data, and which closed values stand for them. No condition. -/
import Derived.Test.YtpoidnkgadhdmaaF0
import Derived.IntWalk
namespace Go.Ab
set_option linter.unusedVariables false

/-- Two rows, one by one. -/
inductive F2 {α β : Type} (R : α → β → Prop) : List α → List β → Prop
  | nil : F2 R [] []
  | cons {a b l m} : R a b → F2 R l m → F2 R (a :: l) (b :: m)

section
variable {α β γ : Type} {R S : α → β → Prop}
theorem F2.length {xs : List α} {l : List β} (h : F2 R xs l) : xs.length = l.length := by
  induction h with
  | nil => rfl
  | cons _ _ ih => simp [ih]
theorem F2.get {xs : List α} {l : List β} (h : F2 R xs l) : ∀ {i : Nat} {a : β}, l[i]? = some a → ∃ e, xs[i]? = some e ∧ R e a := by
  induction h with
  | nil => intro i a h; simp at h
  | cons hr _ ih =>
    intro i a h
    cases i with
    | zero => simp at h; subst h; exact ⟨_, rfl, hr⟩
    | succ i => simp at h; simpa using ih h
theorem F2.getL {xs : List α} {l : List β} (h : F2 R xs l) : ∀ {i : Nat} {e : α}, xs[i]? = some e → ∃ a, l[i]? = some a ∧ R e a := by
  induction h with
  | nil => intro i a h; simp at h
  | cons hr _ ih =>
    intro i a h
    cases i with
    | zero => simp at h; subst h; exact ⟨_, rfl, hr⟩
    | succ i => simp at h; simpa using ih h
theorem F2.mono (hm : ∀ e a, R e a → S e a) {xs : List α} {l : List β} (h : F2 R xs l) : F2 S xs l := by
  induction h with
  | nil => exact .nil
  | cons hr _ ih => exact .cons (hm _ _ hr) ih
theorem F2.append {xs ys : List α} {l m : List β} (h : F2 R xs l) (h' : F2 R ys m) : F2 R (xs ++ ys) (l ++ m) := by
  induction h with
  | nil => exact h'
  | cons hr _ ih => exact .cons hr ih
theorem F2.take {xs : List α} {l : List β} (h : F2 R xs l) : ∀ n, F2 R (xs.take n) (l.take n) := by
  induction h with
  | nil => intro n; simp; exact .nil
  | cons hr _ ih => intro n; cases n with
    | zero => exact .nil
    | succ n => exact .cons hr (ih n)
theorem F2.drop {xs : List α} {l : List β} (h : F2 R xs l) : ∀ n, F2 R (xs.drop n) (l.drop n) := by
  induction h with
  | nil => intro n; simp; exact .nil
  | cons hr h ih => intro n; cases n with
    | zero => exact .cons hr h
    | succ n => exact ih n
theorem F2.set {xs : List α} {l : List β} (h : F2 R xs l) : ∀ {i : Nat} {e : α} {a : β}, R e a → F2 R (setNth xs i e) (l.set i a) := by
  induction h with
  | nil => intro i e a _; exact .nil
  | cons hr h ih => intro i e a hea; cases i with
    | zero => exact .cons hea h
    | succ i => exact .cons hr (ih hea)
theorem F2.map {f : γ → α} {g : γ → β} : ∀ {l : List γ}, (∀ x, x ∈ l → R (f x) (g x)) → F2 R (l.map f) (l.map g)
  | [], _ => .nil
  | x :: l, h => .cons (h x List.mem_cons_self) (F2.map fun y hy => h y (List.mem_cons_of_mem _ hy))
theorem F2.mapL {f : γ → α} {Q : γ → β → Prop} {xs : List γ} {l : List β} (h : F2 Q xs l) (hf : ∀ x a, Q x a → R (f x) a) : F2 R (xs.map f) l := by
  induction h with
  | nil => exact .nil
  | cons hr _ ih => exact .cons (hf _ _ hr) ih
theorem F2.of_get {xs : List α} : ∀ {l : List β}, xs.length = l.length → (∀ (i : Nat) e a, xs[i]? = some e → l[i]? = some a → R e a) → F2 R xs l := by
  induction xs with
  | nil => intro l h _; cases l with
    | nil => exact .nil
    | cons _ _ => simp at h
  | cons x xs ih => intro l h hg; cases l with
    | nil => simp at h
    | cons a l => exact .cons (hg 0 x a rfl rfl) (ih (by simpa using h) fun i e b he hb => hg (i + 1) e b (by simpa using he) (by simpa using hb))
end

/-- A number; a word; a truth. -/
abbrev I (n : Int) : TV := .lit (.int .i64 n)
abbrev W (n : Int) : TV := .lit (.int .u16 n)
abbrev B (b : Bool) : TV := .lit (.bool b)
def inI (n : Int) : Prop := -9223372036854775808 ≤ n ∧ n ≤ 9223372036854775807
def inW (n : Int) : Prop := 0 ≤ n ∧ n ≤ 65535

/-- A slice of things; where q, its own. -/
def RL {α : Type} (q : Option Bool) (s : Nat) (R : List TV → α → Prop) (x : TV) (l : List α) : Prop :=
  (x = .lit nilV ∧ l = []) ∨ ∃ o xs, x = .sl o s xs ∧ (∀ b, q = some b → o = b) ∧ F2 R xs l ∧ xs.length ≤ 9223372036854775807

theorem frzLL_map : ∀ ys : List (List TV), frzLL ys = ys.map frzL
  | [] => rfl
  | y :: ys => by simp [frzLL, frzLL_map ys]

section
variable {α : Type} {q : Option Bool} {s : Nat} {R S : List TV → α → Prop} {x : TV} {l : List α}
theorem RL.nil : RL q s R (.lit nilV) [] := .inl ⟨rfl, rfl⟩
theorem RL.sl {o : Bool} {xs : List (List TV)} (hq : ∀ b, q = some b → o = b) (h : F2 R xs l) (hb : xs.length ≤ 9223372036854775807) : RL q s R (.sl o s xs) l := .inr ⟨o, xs, rfl, hq, h, hb⟩
theorem RL.bnd (h : RL q s R x l) : l.length ≤ 9223372036854775807 := by
  rcases h with ⟨rfl, rfl⟩ | ⟨o, xs, rfl, hq, h, hb⟩
  · simp
  · rw [← h.length]; exact hb
theorem RL.weak (h : RL q s R x l) (hm : ∀ e a, R e a → S e a) : RL none s S x l := by
  rcases h with ⟨rfl, rfl⟩ | ⟨o, xs, rfl, hq, h, hb⟩
  · exact .nil
  · exact .sl (by simp) (h.mono hm) hb
theorem RL.len {t : TypeId} (h : RL q s R x l) : plen (.slice t) x = some (I l.length) := by
  rcases h with ⟨rfl, rfl⟩ | ⟨o, xs, rfl, hq, h, hb⟩
  · rfl
  · simp [plen, h.length]
theorem RL.slLen (h : RL q s R x l) : Go.Ab.slLen x = some l.length := by
  rcases h with ⟨rfl, rfl⟩ | ⟨o, xs, rfl, hq, h, hb⟩
  · rfl
  · simp [Go.Ab.slLen, h.length]
theorem RL.slSize (h : RL q s R x l) : Go.Ab.slSize x s = true := by
  rcases h with ⟨rfl, rfl⟩ | ⟨o, xs, rfl, hq, h, hb⟩
  · rfl
  · simp [Go.Ab.slSize]
theorem RL.isSl (h : RL q s R x l) : x.isSl = true := by
  rcases h with ⟨rfl, rfl⟩ | ⟨o, xs, rfl, hq, h, hb⟩ <;> rfl
theorem RL.idx (h : RL q s R x l) {k : IntKind} {i : Nat} {a : α} (hi : l[i]? = some a) : ∃ e, pidx s x (.lit (.int k i)) = some e ∧ R e a := by
  rcases h with ⟨rfl, rfl⟩ | ⟨o, xs, rfl, hq, h, hb⟩
  · simp at hi
  · obtain ⟨e, he, hr⟩ := h.get hi
    exact ⟨e, by simp [pidx, he], hr⟩
theorem RL.elems (h : RL q s R x l) : ∃ xs, pelems s x = some xs ∧ F2 R xs l := by
  rcases h with ⟨rfl, rfl⟩ | ⟨o, xs, rfl, hq, h, hb⟩
  · exact ⟨[], rfl, .nil⟩
  · exact ⟨xs, by simp [pelems], h⟩
theorem RL.pel (h : RL q s R x l) {i : Nat} {a : α} (hi : l[i]? = some a) : ∃ e, Go.Ab.pel x i = some e ∧ R e a := by
  rcases h with ⟨rfl, rfl⟩ | ⟨o, xs, rfl, hq, h, hb⟩
  · simp at hi
  · exact h.get hi
theorem RL.frz (h : RL q s R x l) (hm : ∀ e a, R e a → S (frzL e) a) : RL (some false) s S (frz x) l := by
  rcases h with ⟨rfl, rfl⟩ | ⟨o, xs, rfl, hq, h, hb⟩
  · exact .nil
  · refine .sl (by simp) ?_ ?_
    rotate_left
    · rw [frzLL_map, List.length_map]; exact hb
    rw [frzLL_map]
    exact h.mapL hm
end

/-- An element that is a number, or a word, or a truth. -/
def RI1 (e : List TV) (n : Int) : Prop := e = [I n] ∧ inI n
def RW1 (e : List TV) (n : Int) : Prop := e = [W n] ∧ inW n
def RB1 (e : List TV) (b : Bool) : Prop := e = [B b]
abbrev RInts (q : Option Bool) : TV → List Int → Prop := RL q 1 RI1
abbrev RWords (q : Option Bool) : TV → List Int → Prop := RL q 1 RW1
abbrev RBools (q : Option Bool) : TV → List Bool → Prop := RL q 1 RB1

structure DIns where
  op : Int
  dst : Int
  a : Int
  b : Int
  k : Int
  f : Int
  args : List Int
structure DEnd where
  kind : Int
  a : Int
  dst : Int
  f : Int
  args : List Int
  to : Int
  els : Int
  pad : Int
structure DPad where
  dst : Int
  catches : List Int
  all : Bool
  cleanup : Bool
structure DBlock where
  landing : Bool
  pad : DPad
  ins : List DIns
  fin : DEnd
structure DFunc where
  params : Int
  regs : Int
  blocks : List DBlock
structure DMod where
  funcs : List DFunc

def DIns.ok (x : DIns) : Prop := inI x.op ∧ inI x.dst ∧ inI x.a ∧ inI x.b ∧ inW x.k ∧ inI x.f
def DEnd.ok (x : DEnd) : Prop := inI x.kind ∧ inI x.a ∧ inI x.dst ∧ inI x.f ∧ inI x.to ∧ inI x.els ∧ inI x.pad

def RIns (q : Option Bool) (e : List TV) (x : DIns) : Prop := ∃ g, e = [I x.op, I x.dst, I x.a, I x.b, W x.k, I x.f, g] ∧ RInts q g x.args ∧ x.ok
def REnd (q : Option Bool) (e : List TV) (x : DEnd) : Prop := ∃ g, e = [I x.kind, I x.a, I x.dst, I x.f, g, I x.to, I x.els, I x.pad] ∧ RInts q g x.args ∧ x.ok
def RPad (q : Option Bool) (e : List TV) (x : DPad) : Prop := ∃ g, e = [I x.dst, g, B x.all, B x.cleanup] ∧ RWords q g x.catches ∧ inI x.dst
def RBlock (q : Option Bool) (e : List TV) (x : DBlock) : Prop := ∃ c i g, e = [B x.landing, I x.pad.dst, c, B x.pad.all, B x.pad.cleanup, i, I x.fin.kind, I x.fin.a, I x.fin.dst, I x.fin.f, g, I x.fin.to, I x.fin.els, I x.fin.pad] ∧
  RWords q c x.pad.catches ∧ inI x.pad.dst ∧ RL q 7 (RIns q) i x.ins ∧ RInts q g x.fin.args ∧ x.fin.ok
def RFunc (q : Option Bool) (e : List TV) (x : DFunc) : Prop := ∃ b, e = [I x.params, I x.regs, b] ∧ RL q 14 (RBlock q) b x.blocks ∧ inI x.params ∧ inI x.regs
def RMod (q : Option Bool) (e : List TV) (x : DMod) : Prop := ∃ b, e = [b] ∧ RL q 3 (RFunc q) b x.funcs

theorem RIns.weak {q : Option Bool} {e : List TV} {x : DIns} (h : RIns q e x) : RIns none e x := by
  obtain ⟨g, rfl, hg, ho⟩ := h
  exact ⟨g, rfl, hg.weak fun _ _ h => h, ho⟩
theorem REnd.weak {q : Option Bool} {e : List TV} {x : DEnd} (h : REnd q e x) : REnd none e x := by
  obtain ⟨g, rfl, hg, ho⟩ := h
  exact ⟨g, rfl, hg.weak fun _ _ h => h, ho⟩
theorem RPad.weak {q : Option Bool} {e : List TV} {x : DPad} (h : RPad q e x) : RPad none e x := by
  obtain ⟨g, rfl, hg, ho⟩ := h
  exact ⟨g, rfl, hg.weak fun _ _ h => h, ho⟩
theorem RBlock.weak {q : Option Bool} {e : List TV} {x : DBlock} (h : RBlock q e x) : RBlock none e x := by
  obtain ⟨c, i, g, rfl, hc, hd, hi, hg, ho⟩ := h
  exact ⟨c, i, g, rfl, hc.weak fun _ _ h => h, hd, hi.weak fun _ _ h => h.weak, hg.weak fun _ _ h => h, ho⟩
theorem RFunc.weak {q : Option Bool} {e : List TV} {x : DFunc} (h : RFunc q e x) : RFunc none e x := by
  obtain ⟨b, rfl, hb, ho⟩ := h
  exact ⟨b, rfl, hb.weak fun _ _ h => h.weak, ho⟩
theorem RMod.weak {q : Option Bool} {e : List TV} {x : DMod} (h : RMod q e x) : RMod none e x := by
  obtain ⟨b, rfl, hb⟩ := h
  exact ⟨b, rfl, hb.weak fun _ _ h => h.weak⟩

theorem RI1.frz {e : List TV} {n : Int} (h : RI1 e n) : RI1 (frzL e) n := by obtain ⟨rfl, h⟩ := h; exact ⟨rfl, h⟩
theorem RW1.frz {e : List TV} {n : Int} (h : RW1 e n) : RW1 (frzL e) n := by obtain ⟨rfl, h⟩ := h; exact ⟨rfl, h⟩
theorem RB1.frz {e : List TV} {n : Bool} (h : RB1 e n) : RB1 (frzL e) n := by cases h; exact rfl
theorem RIns.frz {q : Option Bool} {e : List TV} {x : DIns} (h : RIns q e x) : RIns (some false) (frzL e) x := by
  obtain ⟨g, rfl, hg, ho⟩ := h
  exact ⟨Go.Ab.frz g, rfl, hg.frz fun _ _ h => h.frz, ho⟩
theorem RBlock.frz {q : Option Bool} {e : List TV} {x : DBlock} (h : RBlock q e x) : RBlock (some false) (frzL e) x := by
  obtain ⟨c, i, g, rfl, hc, hd, hi, hg, ho⟩ := h
  exact ⟨Go.Ab.frz c, Go.Ab.frz i, Go.Ab.frz g, rfl, hc.frz fun _ _ h => h.frz, hd, hi.frz fun _ _ h => h.frz, hg.frz fun _ _ h => h.frz, ho⟩
theorem RFunc.frz {q : Option Bool} {e : List TV} {x : DFunc} (h : RFunc q e x) : RFunc (some false) (frzL e) x := by
  obtain ⟨b, rfl, hb, ho⟩ := h
  exact ⟨Go.Ab.frz b, rfl, hb.frz fun _ _ h => h.frz, ho⟩

/-! ### operations on numbers -/
theorem padd {a b : Int} (h : inI (a + b)) : pbin (.int .i64) .add (I a) (I b) = some (I (a + b)) := by
  simp [pbin, intBin, IntWalk.i64_in _ h]
theorem psub {a b : Int} (h : inI (a - b)) : pbin (.int .i64) .sub (I a) (I b) = some (I (a - b)) := by
  simp [pbin, intBin, IntWalk.i64_in _ h]
theorem inc {k n : Nat} (h : k < n) (hn : n ≤ 9223372036854775807) : pbin (.int .i64) .add (I (k : Int)) (I (1 : Int)) = some (I ((k + 1 : Nat) : Int)) := by
  rw [padd (by constructor <;> omega)]; rfl

/-! ### truths -/
open Classical in
/-- Whether something is so. -/
noncomputable def tt (p : Prop) : Bool := decide p
theorem tt_iff {p : Prop} : tt p = true ↔ p := by simp [tt]
theorem tt_eq {b : Bool} {p : Prop} (h : b = true ↔ p) : b = tt p := by
  cases b with
  | true => exact (tt_iff.2 (h.1 rfl)).symm
  | false =>
    cases hp : tt p with
    | false => rfl
    | true => exact absurd (h.2 (tt_iff.1 hp)) (by simp)
theorem tt_congr {p p' : Prop} (h : p ↔ p') : tt p = tt p' := by rw [propext h]
theorem tt_true {p : Prop} (h : p) : tt p = true := tt_iff.2 h
theorem tt_false {p : Prop} (h : ¬ p) : tt p = false := by
  cases hp : tt p with
  | false => rfl
  | true => exact absurd (tt_iff.1 hp) h

section
variable {A : AProg} {f : FuncId}
theorem ret_tt {b : Bool} {p : Prop} (h : b = true ↔ p) : Goes A f (.ret (B b)) (B (tt p)) := by rw [← tt_eq h]; exact Goes.ret
theorem ret_yes {p : Prop} (h : p) : Goes A f (.ret (B true)) (B (tt p)) := ret_tt (by simp [h])
theorem ret_no {p : Prop} (h : ¬ p) : Goes A f (.ret (B false)) (B (tt p)) := ret_tt (by simp [h])
end

/-- From a place on. -/
def allFrom (k n : Nat) (P : Nat → Prop) : Prop := ∀ i, k ≤ i → i < n → P i
theorem allFrom_end {n : Nat} {P : Nat → Prop} : allFrom n n P := fun i h1 h2 => by omega
theorem allFrom_end' {k n : Nat} {P : Nat → Prop} (h : ¬ ((k : Int) < (n : Int))) : allFrom k n P := fun i h1 h2 => by omega
theorem allFrom_step {k n : Nat} {P : Nat → Prop} (h : k < n) : allFrom k n P ↔ P k ∧ allFrom (k + 1) n P := by
  constructor
  · intro ha; exact ⟨ha k (Nat.le_refl k) h, fun i h1 h2 => ha i (by omega) h2⟩
  · rintro ⟨hp, ha⟩ i h1 h2
    by_cases hi : i = k
    · subst hi; exact hp
    · exact ha i (by omega) h2
theorem allFrom_zero {n : Nat} {P : Nat → Prop} : allFrom 0 n P ↔ ∀ i, i < n → P i := ⟨fun h i hi => h i (Nat.zero_le i) hi, fun h i _ hi => h i hi⟩
/-- Two rows are the same where they are as long, and the same at each place. -/
theorem list_eq_iff {α : Type} {l m : List α} (h : l.length = m.length) : l = m ↔ allFrom 0 l.length fun i => l[i]? = m[i]? := by
  rw [allFrom_zero]
  constructor
  · rintro rfl i _; rfl
  · intro ha
    apply List.ext_getElem? 
    intro i
    by_cases hi : i < l.length
    · exact ha i hi
    · rw [List.getElem?_eq_none (by omega), List.getElem?_eq_none (by omega)]
theorem all_mem_iff {α : Type} {l : List α} {P : α → Prop} : (∀ a ∈ l, P a) ↔ allFrom 0 l.length fun i => ∀ a, l[i]? = some a → P a := by
  rw [allFrom_zero]
  constructor
  · intro h i _ a ha; exact h a (List.mem_of_getElem? ha)
  · intro h a ha
    obtain ⟨i, hi, rfl⟩ := List.mem_iff_getElem.1 ha
    exact h i hi _ (List.getElem?_eq_getElem hi)
end Go.Ab
namespace Go.Ab
/-- A loop that goes on while something is so at each place, and ends with no where it isn't. -/
theorem allLoop {A : AProg} {f : FuncId} {n : Nat} {P : Nat → Prop} {Q : Prop} {g : Nat → Prg TV} (hend : Goes A f (g n) (B (tt Q)))
    (hstep : ∀ k, k < n → ∀ r, (¬ P k → r = B false) → (P k → Goes A f (g (k + 1)) r) → Goes A f (g k) r) : ∀ d k, k + d = n → Goes A f (g k) (B (tt (allFrom k n P ∧ Q))) := by
  intro d
  induction d with
  | zero =>
    intro k hk
    have hk : k = n := by omega
    subst hk
    rw [show tt (allFrom k k P ∧ Q) = tt Q from tt_congr ⟨fun h => h.2, fun h => ⟨allFrom_end, h⟩⟩]
    exact hend
  | succ d ih =>
    intro k hk
    have hlt : k < n := by omega
    refine hstep k hlt _ (fun hp => ?_) (fun hp => ?_)
    · rw [tt_false]
      intro h
      exact hp ((allFrom_step hlt).1 h.1).1
    · rw [show tt (allFrom k n P ∧ Q) = tt (allFrom (k + 1) n P ∧ Q) from tt_congr ⟨fun h => ⟨((allFrom_step hlt).1 h.1).2, h.2⟩, fun h => ⟨(allFrom_step hlt).2 ⟨hp, h.1⟩, h.2⟩⟩]
      exact ih (k + 1) (by omega)
theorem allLoop' {A : AProg} {f : FuncId} {n : Nat} {P : Nat → Prop} {g : Nat → Prg TV} (hend : Goes A f (g n) (B true))
    (hstep : ∀ k, k < n → ∀ r, (¬ P k → r = B false) → (P k → Goes A f (g (k + 1)) r) → Goes A f (g k) r) : Goes A f (g 0) (B (tt (∀ i, i < n → P i))) := by
  have := allLoop (Q := True) (by rw [tt_true trivial]; exact hend) hstep n 0 (by omega)
  rw [show tt (∀ i, i < n → P i) = tt (allFrom 0 n P ∧ True) from tt_congr ⟨fun h => ⟨allFrom_zero.2 h, trivial⟩, fun h => allFrom_zero.1 h.1⟩]
  exact this
theorem asB_lt {k n : Nat} (h : k < n) : asBool (.lit (.bool (decide ((k : Int) < (n : Int))))) = some true := by simp [asBool, h]
theorem asB_end {n : Nat} : asBool (.lit (.bool (decide ((n : Int) < (n : Int))))) = some false := by simp [asBool]
theorem list_eq_iff' {α : Type} {l m : List α} (h : l.length = m.length) : l = m ↔ ∀ i, i < l.length → l[i]? = m[i]? := by
  rw [list_eq_iff h, allFrom_zero]
end Go.Ab
namespace Go.Ab
/-- The same with more behind it. -/
theorem allLoopR {A : AProg} {f : FuncId} {n : Nat} {P : Nat → Prop} {r : TV} {g : Nat → Prg TV} (hno : ¬ (∀ i, i < n → P i) → r = B false) (hend : (∀ i, i < n → P i) → Goes A f (g n) r)
    (hstep : ∀ k, k < n → ∀ r, (¬ P k → r = B false) → (P k → Goes A f (g (k + 1)) r) → Goes A f (g k) r) : Goes A f (g 0) r := by
  have : ∀ d k, k + d = n → (∀ i, i < k → P i) → Goes A f (g k) r := by
    intro d
    induction d with
    | zero =>
      intro k hk hp
      have hk : k = n := by omega
      subst hk
      exact hend hp
    | succ d ih =>
      intro k hk hp
      have hlt : k < n := by omega
      refine hstep k hlt _ (fun hq => hno fun h => hq (h k hlt)) (fun hq => ih (k + 1) (by omega) fun i hi => ?_)
      by_cases h : i = k
      · subst h; exact hq
      · exact hp i (by omega)
  exact this n 0 (by omega) (fun i hi => by omega)
end Go.Ab

import Derived.Test.YthmcbcepgchhcaaDZ
import Derived.IntWalk
import Derived.Lib.ItoaNum
section
namespace Go.Ab
set_option linter.unusedVariables false
section
variable {R : Type} {C C' : FuncId → List TV → Option TV} {J J' : List Nat → ASt → Option R}
theorem Prg.run_mono (hC : ∀ f xs v, C f xs = some v → C' f xs = some v) (hJ : ∀ p st r, J p st = some r → J' p st = some r) : ∀ {p : Prg R} {r : R}, p.run C J = some r → p.run C' J' = some r
 | .fail, r, h => by simp [Prg.run] at h
 | .ret x, r, h => h
 | .tv p k, r, h => by
  cases p with
  | none => simp [Prg.run] at h
  | some v => exact Prg.run_mono hC hJ (p := k v) h
 | .tvs p k, r, h => by
  cases p with
  | none => simp [Prg.run] at h
  | some v => exact Prg.run_mono hC hJ (p := k v) h
 | .rws p k, r, h => by
  cases p with
  | none => simp [Prg.run] at h
  | some v => exact Prg.run_mono hC hJ (p := k v) h
 | .nat p k, r, h => by
  cases p with
  | none => simp [Prg.run] at h
  | some v => exact Prg.run_mono hC hJ (p := k v) h
 | .chk b k, r, h => by
  cases b with
  | false => simp [Prg.run] at h
  | true => exact Prg.run_mono hC hJ (p := k) h
 | .ite b t e, r, h => by
  cases b with
  | none => simp [Prg.run] at h
  | some b =>
   cases b with
   | true => exact Prg.run_mono hC hJ (p := t) h
   | false => exact Prg.run_mono hC hJ (p := e) h
 | .call f xs k, r, h => by
  simp only [Prg.run] at h ⊢
  cases hc : C f xs with
  | none => rw [hc] at h; simp at h
  | some v =>
   rw [hc] at h
   rw [hC _ _ _ hc]
   exact Prg.run_mono hC hJ (p := k v) h
 | .jmp p st, r, h => hJ _ _ _ h
end
section
variable {A : AProg} {f g : FuncId}
theorem runN_mono {C C' : FuncId → List TV → Option TV} (hC : ∀ f xs v, C f xs = some v → C' f xs = some v) : ∀ {m m' : Nat}, m ≤ m' → ∀ {p : List Nat} {st : ASt} {r : TV}, runN A C f m p st = some r → runN A C' f m' p st = some r
 | 0, _, _, _, _, _, h => by simp [runN] at h
 | m + 1, 0, hle, _, _, _, _ => by omega
 | m + 1, m' + 1, hle, p, st, r, h => by
  simp only [runN] at h ⊢
  exact Prg.run_mono hC (fun p st r h => runN_mono hC (by omega) h) h
theorem acall_mono : ∀ {n n' : Nat}, n ≤ n' → ∀ {f : FuncId} {args : List TV} {r : TV}, acall A n f args = some r → acall A n' f args = some r
 | 0, _, _, _, _, _, h => by simp [acall] at h
 | n + 1, 0, hle, _, _, _, _ => by omega
 | n + 1, n' + 1, hle, f, args, r, h => by
  simp only [acall] at h ⊢
  have hC : ∀ f xs v, acall A n f xs = some v → acall A n' f xs = some v := fun f xs v h => acall_mono (by omega) h
  split at h
  ·rename_i g hg
   exact h
  ·exact Prg.run_mono hC (fun p st r h => runN_mono hC (by omega) h) h
def Runs (A : AProg) (f : FuncId) (args : List TV) (r : TV) : Prop := ∃ n, acall A n f args = some r
def Goes (A : AProg) (f : FuncId) (p : Prg TV) (r : TV) : Prop := ∃ n, p.run (acall A n) (runN A (acall A n) f n) = some r
variable {r : TV}
theorem Goes.up {p : Prg TV} {n n' : Nat} (h : p.run (acall A n) (runN A (acall A n) f n) = some r) (hle : n ≤ n') : p.run (acall A n') (runN A (acall A n') f n') = some r :=
 Prg.run_mono (fun _ _ _ h => acall_mono hle h) (fun _ _ _ h => runN_mono (fun _ _ _ h => acall_mono hle h) hle h) h
theorem Goes.ret : Goes A f (.ret r) r := ⟨0, rfl⟩
theorem goes_ret {x : TV} : Goes A f (.ret x) r ↔ x = r := ⟨fun ⟨n, h⟩ => by simpa [Prg.run] using h, fun h => h ▸ Goes.ret⟩
theorem goes_tv {p : Option TV} {k : TV → Prg TV} : Goes A f (.tv p k) r ↔ ∃ v, p = some v ∧ Goes A f (k v) r := by
 constructor
 ·rintro ⟨n, h⟩
  cases p with
  | none => simp [Prg.run] at h
  | some v => exact ⟨v, rfl, n, h⟩
 ·rintro ⟨v, rfl, n, h⟩; exact ⟨n, h⟩
theorem goes_tvs {p : Option (List TV)} {k : List TV → Prg TV} : Goes A f (.tvs p k) r ↔ ∃ v, p = some v ∧ Goes A f (k v) r := by
 constructor
 ·rintro ⟨n, h⟩
  cases p with
  | none => simp [Prg.run] at h
  | some v => exact ⟨v, rfl, n, h⟩
 ·rintro ⟨v, rfl, n, h⟩; exact ⟨n, h⟩
theorem goes_rws {p : Option (List (List TV))} {k : List (List TV) → Prg TV} : Goes A f (.rws p k) r ↔ ∃ v, p = some v ∧ Goes A f (k v) r := by
 constructor
 ·rintro ⟨n, h⟩
  cases p with
  | none => simp [Prg.run] at h
  | some v => exact ⟨v, rfl, n, h⟩
 ·rintro ⟨v, rfl, n, h⟩; exact ⟨n, h⟩
theorem goes_nat {p : Option Nat} {k : Nat → Prg TV} : Goes A f (.nat p k) r ↔ ∃ v, p = some v ∧ Goes A f (k v) r := by
 constructor
 ·rintro ⟨n, h⟩
  cases p with
  | none => simp [Prg.run] at h
  | some v => exact ⟨v, rfl, n, h⟩
 ·rintro ⟨v, rfl, n, h⟩; exact ⟨n, h⟩
theorem goes_chk {b : Bool} {k : Prg TV} : Goes A f (.chk b k) r ↔ b = true ∧ Goes A f k r := by
 constructor
 ·rintro ⟨n, h⟩
  cases b with
  | false => simp [Prg.run] at h
  | true => exact ⟨rfl, n, h⟩
 ·rintro ⟨rfl, n, h⟩; exact ⟨n, h⟩
theorem goes_ite {b : Option Bool} {t e : Prg TV} : Goes A f (.ite b t e) r ↔ ∃ v, b = some v ∧ Goes A f (bif v then t else e) r := by
 constructor
 ·rintro ⟨n, h⟩
  cases b with
  | none => simp [Prg.run] at h
  | some v => refine ⟨v, rfl, n, ?_⟩; cases v <;> exact h
 ·rintro ⟨v, rfl, n, h⟩; refine ⟨n, ?_⟩; cases v <;> exact h
theorem goes_call {xs : List TV} {k : TV → Prg TV} : Goes A f (.call g xs k) r ↔ ∃ v, Runs A g xs v ∧ Goes A f (k v) r := by
 constructor
 ·rintro ⟨n, h⟩
  simp only [Prg.run] at h
  cases hc : acall A n g xs with
  | none => rw [hc] at h; simp at h
  | some v => rw [hc] at h; exact ⟨v, ⟨n, hc⟩, n, h⟩
 ·rintro ⟨v, ⟨n, hc⟩, m, h⟩
  refine ⟨max n m, ?_⟩
  simp only [Prg.run]
  rw [acall_mono (Nat.le_max_left n m) hc]
  exact Goes.up h (Nat.le_max_right n m)
theorem goes_jmp {p : List Nat} {st : ASt} : Goes A f (.jmp p st) r ↔ Goes A f (pieceQ A f p st) r := by
 constructor
 ·rintro ⟨n, h⟩
  cases n with
  | zero => simp [Prg.run, runN] at h
  | succ n =>
   refine ⟨n + 1, ?_⟩
   simp only [Prg.run, runN] at h
   exact Prg.run_mono (fun _ _ _ h => h) (fun _ _ _ h => runN_mono (fun _ _ _ h => h) (Nat.le_succ n) h) h
 ·rintro ⟨n, h⟩
  refine ⟨n + 1, ?_⟩
  simp only [Prg.run, runN]
  exact Prg.run_mono (fun _ _ _ h => acall_mono (Nat.le_succ n) h) (fun _ _ _ h => runN_mono (fun _ _ _ h => acall_mono (Nat.le_succ n) h) (Nat.le_refl n) h) h
theorem runs_iff {args : List TV} (hx : A.ext f = none) : Runs A f args r ↔ Goes A f (startQ A f args) r := by
 constructor
 ·rintro ⟨n, h⟩
  cases n with
  | zero => simp [acall] at h
  | succ n => simp only [acall, hx] at h; exact ⟨n, h⟩
 ·rintro ⟨n, h⟩; exact ⟨n + 1, by simp only [acall, hx]; exact h⟩
theorem Goes.tv {p : Option TV} {k : TV → Prg TV} {v : TV} (h : p = some v) (hk : Goes A f (k v) r) : Goes A f (.tv p k) r := goes_tv.2 ⟨v, h, hk⟩
theorem Goes.tvs {p : Option (List TV)} {k : List TV → Prg TV} {v : List TV} (h : p = some v) (hk : Goes A f (k v) r) : Goes A f (.tvs p k) r := goes_tvs.2 ⟨v, h, hk⟩
theorem Goes.rws {p : Option (List (List TV))} {k : List (List TV) → Prg TV} {v : List (List TV)} (h : p = some v) (hk : Goes A f (k v) r) : Goes A f (.rws p k) r := goes_rws.2 ⟨v, h, hk⟩
theorem Goes.nat {p : Option Nat} {k : Nat → Prg TV} {v : Nat} (h : p = some v) (hk : Goes A f (k v) r) : Goes A f (.nat p k) r := goes_nat.2 ⟨v, h, hk⟩
theorem Goes.chk {b : Bool} {k : Prg TV} (h : b = true) (hk : Goes A f k r) : Goes A f (.chk b k) r := goes_chk.2 ⟨h, hk⟩
theorem Goes.ite {b : Option Bool} {t e : Prg TV} {v : Bool} (h : b = some v) (ht : v = true → Goes A f t r) (he : v = false → Goes A f e r) : Goes A f (.ite b t e) r := by
 refine goes_ite.2 ⟨v, h, ?_⟩
 cases v with
 | true => exact ht rfl
 | false => exact he rfl
theorem Goes.call {xs : List TV} {k : TV → Prg TV} {v : TV} (h : Runs A g xs v) (hk : Goes A f (k v) r) : Goes A f (.call g xs k) r := goes_call.2 ⟨v, h, hk⟩
theorem Goes.jmp {p : List Nat} {st : ASt} {q : Prg TV} (h : pieceQ A f p st = q) (hk : Goes A f q r) : Goes A f (.jmp p st) r := goes_jmp.2 (h ▸ hk)
theorem Runs.of {args : List TV} {q : Prg TV} (h : startQ A f args = q) (hk : Goes A f q r) (hx : A.ext f = none := by rfl) : Runs A f args r := (runs_iff hx).2 (h ▸ hk)
end
end Go.Ab
end
section
namespace Go.Ab
set_option linter.unusedVariables false
inductive F2 {α β : Type} (R : α → β → Prop) : List α → List β → Prop
 | nil : F2 R [] []
 | cons {a b l m} : R a b → F2 R l m → F2 R (a :: l) (b :: m)
section
variable {α β γ : Type} {R S : α → β → Prop}
theorem F2.length {xs : List α} {l : List β} (h : F2 R xs l) : xs.length = l.length := by
 induction h with
 | nil => rfl
 | cons _ _ ih => simp [ih]
theorem F2.get {xs : List α} {l : List β} (h : F2 R xs l) : ∀ {i : Nat} {a : β}, l[i]? = some a → ∃ e, xs[i]? = some e ∧ R e a := by
 induction h with
 | nil => intro i a h; simp at h
 | cons hr _ ih =>
  intro i a h
  cases i with
  | zero => simp at h; subst h; exact ⟨_, rfl, hr⟩
  | succ i => simp at h; simpa using ih h
theorem F2.getL {xs : List α} {l : List β} (h : F2 R xs l) : ∀ {i : Nat} {e : α}, xs[i]? = some e → ∃ a, l[i]? = some a ∧ R e a := by
 induction h with
 | nil => intro i a h; simp at h
 | cons hr _ ih =>
  intro i a h
  cases i with
  | zero => simp at h; subst h; exact ⟨_, rfl, hr⟩
  | succ i => simp at h; simpa using ih h
theorem F2.mono (hm : ∀ e a, R e a → S e a) {xs : List α} {l : List β} (h : F2 R xs l) : F2 S xs l := by
 induction h with
 | nil => exact .nil
 | cons hr _ ih => exact .cons (hm _ _ hr) ih
theorem F2.append {xs ys : List α} {l m : List β} (h : F2 R xs l) (h' : F2 R ys m) : F2 R (xs ++ ys) (l ++ m) := by
 induction h with
 | nil => exact h'
 | cons hr _ ih => exact .cons hr ih
theorem F2.take {xs : List α} {l : List β} (h : F2 R xs l) : ∀ n, F2 R (xs.take n) (l.take n) := by
 induction h with
 | nil => intro n; simp; exact .nil
 | cons hr _ ih => intro n; cases n with
  | zero => exact .nil
  | succ n => exact .cons hr (ih n)
theorem F2.drop {xs : List α} {l : List β} (h : F2 R xs l) : ∀ n, F2 R (xs.drop n) (l.drop n) := by
 induction h with
 | nil => intro n; simp; exact .nil
 | cons hr h ih => intro n; cases n with
  | zero => exact .cons hr h
  | succ n => exact ih n
theorem F2.set {xs : List α} {l : List β} (h : F2 R xs l) : ∀ {i : Nat} {e : α} {a : β}, R e a → F2 R (setNth xs i e) (l.set i a) := by
 induction h with
 | nil => intro i e a _; exact .nil
 | cons hr h ih => intro i e a hea; cases i with
  | zero => exact .cons hea h
  | succ i => exact .cons hr (ih hea)
theorem F2.mapL {f : γ → α} {Q : γ → β → Prop} {xs : List γ} {l : List β} (h : F2 Q xs l) (hf : ∀ x a, Q x a → R (f x) a) : F2 R (xs.map f) l := by
 induction h with
 | nil => exact .nil
 | cons hr _ ih => exact .cons (hf _ _ hr) ih
theorem F2.of_get {xs : List α} : ∀ {l : List β}, xs.length = l.length → (∀ (i : Nat) e a, xs[i]? = some e → l[i]? = some a → R e a) → F2 R xs l := by
 induction xs with
 | nil => intro l h _; cases l with
  | nil => exact .nil
  | cons _ _ => simp at h
 | cons x xs ih => intro l h hg; cases l with
  | nil => simp at h
  | cons a l => exact .cons (hg 0 x a rfl rfl) (ih (by simpa using h) fun i e b he hb => hg (i + 1) e b (by simpa using he) (by simpa using hb))
end
abbrev I (n : Int) : TV := .lit (.int .i64 n)
abbrev W (n : Int) : TV := .lit (.int .u16 n)
abbrev B (b : Bool) : TV := .lit (.bool b)
def inI (n : Int) : Prop := -9223372036854775808 ≤ n ∧ n ≤ 9223372036854775807
def inW (n : Int) : Prop := 0 ≤ n ∧ n ≤ 65535
def RL {α : Type} (q : Option Bool) (s : Nat) (R : List TV → α → Prop) (x : TV) (l : List α) : Prop :=
 (x = .lit nilV ∧ l = []) ∨ ∃ o xs, x = .sl o s xs ∧ (∀ b, q = some b → o = b) ∧ F2 R xs l ∧ xs.length ≤ 9223372036854775807
theorem frzLL_map : ∀ ys : List (List TV), frzLL ys = ys.map frzL
 | [] => rfl
 | y :: ys => by simp [frzLL, frzLL_map ys]
section
variable {α : Type} {q : Option Bool} {s : Nat} {R S : List TV → α → Prop} {x : TV} {l : List α}
theorem RL.nil : RL q s R (.lit nilV) [] := .inl ⟨rfl, rfl⟩
theorem RL.sl {o : Bool} {xs : List (List TV)} (hq : ∀ b, q = some b → o = b) (h : F2 R xs l) (hb : xs.length ≤ 9223372036854775807) : RL q s R (.sl o s xs) l := .inr ⟨o, xs, rfl, hq, h, hb⟩
theorem RL.bnd (h : RL q s R x l) : l.length ≤ 9223372036854775807 := by
 rcases h with ⟨rfl, rfl⟩ | ⟨o, xs, rfl, hq, h, hb⟩
 ·simp
 ·rw [← h.length]; exact hb
theorem RL.weak (h : RL q s R x l) (hm : ∀ e a, R e a → S e a) : RL none s S x l := by
 rcases h with ⟨rfl, rfl⟩ | ⟨o, xs, rfl, hq, h, hb⟩
 ·exact .nil
 ·exact .sl (by simp) (h.mono hm) hb
theorem RL.len {t : TypeId} (h : RL q s R x l) : plen (.slice t) x = some (I l.length) := by
 rcases h with ⟨rfl, rfl⟩ | ⟨o, xs, rfl, hq, h, hb⟩
 ·rfl
 ·simp [plen, h.length]
theorem RL.slLen (h : RL q s R x l) : Go.Ab.slLen x = some l.length := by
 rcases h with ⟨rfl, rfl⟩ | ⟨o, xs, rfl, hq, h, hb⟩
 ·rfl
 ·simp [Go.Ab.slLen, h.length]
theorem RL.slSize (h : RL q s R x l) : Go.Ab.slSize x s = true := by
 rcases h with ⟨rfl, rfl⟩ | ⟨o, xs, rfl, hq, h, hb⟩
 ·rfl
 ·simp [Go.Ab.slSize]
theorem RL.isSl (h : RL q s R x l) : x.isSl = true := by
 rcases h with ⟨rfl, rfl⟩ | ⟨o, xs, rfl, hq, h, hb⟩ <;> rfl
theorem RL.idx (h : RL q s R x l) {k : IntKind} {i : Nat} {a : α} (hi : l[i]? = some a) : ∃ e, pidx s x (.lit (.int k i)) = some e ∧ R e a := by
 rcases h with ⟨rfl, rfl⟩ | ⟨o, xs, rfl, hq, h, hb⟩
 ·simp at hi
 ·obtain ⟨e, he, hr⟩ := h.get hi
  exact ⟨e, by simp [pidx, he], hr⟩
theorem RL.elems (h : RL q s R x l) : ∃ xs, pelems s x = some xs ∧ F2 R xs l := by
 rcases h with ⟨rfl, rfl⟩ | ⟨o, xs, rfl, hq, h, hb⟩
 ·exact ⟨[], rfl, .nil⟩
 ·exact ⟨xs, by simp [pelems], h⟩
theorem RL.pel (h : RL q s R x l) {i : Nat} {a : α} (hi : l[i]? = some a) : ∃ e, Go.Ab.pel x i = some e ∧ R e a := by
 rcases h with ⟨rfl, rfl⟩ | ⟨o, xs, rfl, hq, h, hb⟩
 ·simp at hi
 ·exact h.get hi
theorem RL.frz (h : RL q s R x l) (hm : ∀ e a, R e a → S (frzL e) a) : RL (some false) s S (frz x) l := by
 rcases h with ⟨rfl, rfl⟩ | ⟨o, xs, rfl, hq, h, hb⟩
 ·exact .nil
 ·refine .sl (by simp) ?_ ?_
  rotate_left
  ·rw [frzLL_map, List.length_map]; exact hb
  rw [frzLL_map]
  exact h.mapL hm
end
def RI1 (e : List TV) (n : Int) : Prop := e = [I n] ∧ inI n
def RW1 (e : List TV) (n : Int) : Prop := e = [W n] ∧ inW n
abbrev RInts (q : Option Bool) : TV → List Int → Prop := RL q 1 RI1
abbrev RWords (q : Option Bool) : TV → List Int → Prop := RL q 1 RW1
structure DIns where
 op : Int
 dst : Int
 a : Int
 b : Int
 k : Int
 f : Int
 args : List Int
structure DEnd where
 kind : Int
 a : Int
 dst : Int
 f : Int
 args : List Int
 to : Int
 els : Int
 pad : Int
structure DPad where
 dst : Int
 catches : List Int
 all : Bool
 cleanup : Bool
structure DBlock where
 landing : Bool
 pad : DPad
 ins : List DIns
 fin : DEnd
structure DFunc where
 params : Int
 regs : Int
 blocks : List DBlock
structure DMod where
 funcs : List DFunc
def DIns.ok (x : DIns) : Prop := inI x.op ∧ inI x.dst ∧ inI x.a ∧ inI x.b ∧ inW x.k ∧ inI x.f
def DEnd.ok (x : DEnd) : Prop := inI x.kind ∧ inI x.a ∧ inI x.dst ∧ inI x.f ∧ inI x.to ∧ inI x.els ∧ inI x.pad
def RIns (q : Option Bool) (e : List TV) (x : DIns) : Prop := ∃ g, e = [I x.op, I x.dst, I x.a, I x.b, W x.k, I x.f, g] ∧ RInts q g x.args ∧ x.ok
def REnd (q : Option Bool) (e : List TV) (x : DEnd) : Prop := ∃ g, e = [I x.kind, I x.a, I x.dst, I x.f, g, I x.to, I x.els, I x.pad] ∧ RInts q g x.args ∧ x.ok
def RPad (q : Option Bool) (e : List TV) (x : DPad) : Prop := ∃ g, e = [I x.dst, g, B x.all, B x.cleanup] ∧ RWords q g x.catches ∧ inI x.dst
def RBlock (q : Option Bool) (e : List TV) (x : DBlock) : Prop := ∃ c i g, e = [B x.landing, I x.pad.dst, c, B x.pad.all, B x.pad.cleanup, i, I x.fin.kind, I x.fin.a, I x.fin.dst, I x.fin.f, g, I x.fin.to, I x.fin.els, I x.fin.pad] ∧
 RWords q c x.pad.catches ∧ inI x.pad.dst ∧ RL q 7 (RIns q) i x.ins ∧ RInts q g x.fin.args ∧ x.fin.ok
def RFunc (q : Option Bool) (e : List TV) (x : DFunc) : Prop := ∃ b, e = [I x.params, I x.regs, b] ∧ RL q 14 (RBlock q) b x.blocks ∧ inI x.params ∧ inI x.regs
def RMod (q : Option Bool) (e : List TV) (x : DMod) : Prop := ∃ b, e = [b] ∧ RL q 3 (RFunc q) b x.funcs
theorem RI1.frz {e : List TV} {n : Int} (h : RI1 e n) : RI1 (frzL e) n := by obtain ⟨rfl, h⟩ := h; exact ⟨rfl, h⟩
theorem RW1.frz {e : List TV} {n : Int} (h : RW1 e n) : RW1 (frzL e) n := by obtain ⟨rfl, h⟩ := h; exact ⟨rfl, h⟩
theorem RIns.frz {q : Option Bool} {e : List TV} {x : DIns} (h : RIns q e x) : RIns (some false) (frzL e) x := by
 obtain ⟨g, rfl, hg, ho⟩ := h
 exact ⟨Go.Ab.frz g, rfl, hg.frz fun _ _ h => h.frz, ho⟩
theorem RBlock.frz {q : Option Bool} {e : List TV} {x : DBlock} (h : RBlock q e x) : RBlock (some false) (frzL e) x := by
 obtain ⟨c, i, g, rfl, hc, hd, hi, hg, ho⟩ := h
 exact ⟨Go.Ab.frz c, Go.Ab.frz i, Go.Ab.frz g, rfl, hc.frz fun _ _ h => h.frz, hd, hi.frz fun _ _ h => h.frz, hg.frz fun _ _ h => h.frz, ho⟩
theorem RFunc.frz {q : Option Bool} {e : List TV} {x : DFunc} (h : RFunc q e x) : RFunc (some false) (frzL e) x := by
 obtain ⟨b, rfl, hb, ho⟩ := h
 exact ⟨Go.Ab.frz b, rfl, hb.frz fun _ _ h => h.frz, ho⟩
theorem padd {a b : Int} (h : inI (a + b)) : pbin (.int .i64) .add (I a) (I b) = some (I (a + b)) := by
 simp [pbin, intBin, IntWalk.i64_in _ h]
theorem inc {k n : Nat} (h : k < n) (hn : n ≤ 9223372036854775807) : pbin (.int .i64) .add (I (k : Int)) (I (1 : Int)) = some (I ((k + 1 : Nat) : Int)) := by
 rw [padd (by constructor <;> omega)]; rfl
open Classical in
noncomputable def tt (p : Prop) : Bool := decide p
theorem tt_iff {p : Prop} : tt p = true ↔ p := by simp [tt]
theorem tt_eq {b : Bool} {p : Prop} (h : b = true ↔ p) : b = tt p := by
 cases b with
 | true => exact (tt_iff.2 (h.1 rfl)).symm
 | false =>
  cases hp : tt p with
  | false => rfl
  | true => exact absurd (h.2 (tt_iff.1 hp)) (by simp)
theorem tt_congr {p p' : Prop} (h : p ↔ p') : tt p = tt p' := by rw [propext h]
theorem tt_true {p : Prop} (h : p) : tt p = true := tt_iff.2 h
theorem tt_false {p : Prop} (h : ¬ p) : tt p = false := by
 cases hp : tt p with
 | false => rfl
 | true => exact absurd (tt_iff.1 hp) h
section
variable {A : AProg} {f : FuncId}
theorem ret_tt {b : Bool} {p : Prop} (h : b = true ↔ p) : Goes A f (.ret (B b)) (B (tt p)) := by rw [← tt_eq h]; exact Goes.ret
theorem ret_yes {p : Prop} (h : p) : Goes A f (.ret (B true)) (B (tt p)) := ret_tt (by simp [h])
theorem ret_no {p : Prop} (h : ¬ p) : Goes A f (.ret (B false)) (B (tt p)) := ret_tt (by simp [h])
end
def allFrom (k n : Nat) (P : Nat → Prop) : Prop := ∀ i, k ≤ i → i < n → P i
theorem allFrom_end {n : Nat} {P : Nat → Prop} : allFrom n n P := fun i h1 h2 => by omega
theorem allFrom_step {k n : Nat} {P : Nat → Prop} (h : k < n) : allFrom k n P ↔ P k ∧ allFrom (k + 1) n P := by
 constructor
 ·intro ha; exact ⟨ha k (Nat.le_refl k) h, fun i h1 h2 => ha i (by omega) h2⟩
 ·rintro ⟨hp, ha⟩ i h1 h2
  by_cases hi : i = k
  ·subst hi; exact hp
  ·exact ha i (by omega) h2
theorem allFrom_zero {n : Nat} {P : Nat → Prop} : allFrom 0 n P ↔ ∀ i, i < n → P i := ⟨fun h i hi => h i (Nat.zero_le i) hi, fun h i _ hi => h i hi⟩
theorem list_eq_iff {α : Type} {l m : List α} (h : l.length = m.length) : l = m ↔ allFrom 0 l.length fun i => l[i]? = m[i]? := by
 rw [allFrom_zero]
 constructor
 ·rintro rfl i _; rfl
 ·intro ha
  apply List.ext_getElem? 
  intro i
  by_cases hi : i < l.length
  ·exact ha i hi
  ·rw [List.getElem?_eq_none (by omega), List.getElem?_eq_none (by omega)]
end Go.Ab
namespace Go.Ab
theorem allLoop {A : AProg} {f : FuncId} {n : Nat} {P : Nat → Prop} {Q : Prop} {g : Nat → Prg TV} (hend : Goes A f (g n) (B (tt Q)))
  (hstep : ∀ k, k < n → ∀ r, (¬ P k → r = B false) → (P k → Goes A f (g (k + 1)) r) → Goes A f (g k) r) : ∀ d k, k + d = n → Goes A f (g k) (B (tt (allFrom k n P ∧ Q))) := by
 intro d
 induction d with
 | zero =>
  intro k hk
  have hk : k = n := by omega
  subst hk
  rw [show tt (allFrom k k P ∧ Q) = tt Q from tt_congr ⟨fun h => h.2, fun h => ⟨allFrom_end, h⟩⟩]
  exact hend
 | succ d ih =>
  intro k hk
  have hlt : k < n := by omega
  refine hstep k hlt _ (fun hp => ?_) (fun hp => ?_)
  ·rw [tt_false]
   intro h
   exact hp ((allFrom_step hlt).1 h.1).1
  ·rw [show tt (allFrom k n P ∧ Q) = tt (allFrom (k + 1) n P ∧ Q) from tt_congr ⟨fun h => ⟨((allFrom_step hlt).1 h.1).2, h.2⟩, fun h => ⟨(allFrom_step hlt).2 ⟨hp, h.1⟩, h.2⟩⟩]
   exact ih (k + 1) (by omega)
theorem allLoop' {A : AProg} {f : FuncId} {n : Nat} {P : Nat → Prop} {g : Nat → Prg TV} (hend : Goes A f (g n) (B true))
  (hstep : ∀ k, k < n → ∀ r, (¬ P k → r = B false) → (P k → Goes A f (g (k + 1)) r) → Goes A f (g k) r) : Goes A f (g 0) (B (tt (∀ i, i < n → P i))) := by
 have := allLoop (Q := True) (by rw [tt_true trivial]; exact hend) hstep n 0 (by omega)
 rw [show tt (∀ i, i < n → P i) = tt (allFrom 0 n P ∧ True) from tt_congr ⟨fun h => ⟨allFrom_zero.2 h, trivial⟩, fun h => allFrom_zero.1 h.1⟩]
 exact this
theorem asB_lt {k n : Nat} (h : k < n) : asBool (.lit (.bool (decide ((k : Int) < (n : Int))))) = some true := by simp [asBool, h]
theorem asB_end {n : Nat} : asBool (.lit (.bool (decide ((n : Int) < (n : Int))))) = some false := by simp [asBool]
theorem list_eq_iff' {α : Type} {l m : List α} (h : l.length = m.length) : l = m ↔ ∀ i, i < l.length → l[i]? = m[i]? := by
 rw [list_eq_iff h, allFrom_zero]
end Go.Ab
namespace Go.Ab
end Go.Ab
end
section
namespace Go.Ab
def lookD : List (Nat × LentD) → Nat → Option LentD
 | [], _ => none
 | (k, d) :: r, t => bif k.beq t then some d else lookD r t
end Go.Ab
end

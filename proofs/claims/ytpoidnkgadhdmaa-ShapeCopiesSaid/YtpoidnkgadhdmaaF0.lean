/- The machine over closed values, as a relation: what a function answers, for some number of rounds. No condition. -/
import Derived.Test.YtpoidnkgadhdmaaZ
namespace Go.Ab
set_option linter.unusedVariables false

section
variable {R : Type} {C C' : FuncId → List TV → Option TV} {J J' : List Nat → ASt → Option R}
theorem Prg.run_mono (hC : ∀ f xs v, C f xs = some v → C' f xs = some v) (hJ : ∀ p st r, J p st = some r → J' p st = some r) : ∀ {p : Prg R} {r : R}, p.run C J = some r → p.run C' J' = some r
  | .fail, r, h => by simp [Prg.run] at h
  | .ret x, r, h => h
  | .tv p k, r, h => by
    cases p with
    | none => simp [Prg.run] at h
    | some v => exact Prg.run_mono hC hJ (p := k v) h
  | .tvs p k, r, h => by
    cases p with
    | none => simp [Prg.run] at h
    | some v => exact Prg.run_mono hC hJ (p := k v) h
  | .rws p k, r, h => by
    cases p with
    | none => simp [Prg.run] at h
    | some v => exact Prg.run_mono hC hJ (p := k v) h
  | .nat p k, r, h => by
    cases p with
    | none => simp [Prg.run] at h
    | some v => exact Prg.run_mono hC hJ (p := k v) h
  | .chk b k, r, h => by
    cases b with
    | false => simp [Prg.run] at h
    | true => exact Prg.run_mono hC hJ (p := k) h
  | .ite b t e, r, h => by
    cases b with
    | none => simp [Prg.run] at h
    | some b =>
      cases b with
      | true => exact Prg.run_mono hC hJ (p := t) h
      | false => exact Prg.run_mono hC hJ (p := e) h
  | .call f xs k, r, h => by
    simp only [Prg.run] at h ⊢
    cases hc : C f xs with
    | none => rw [hc] at h; simp at h
    | some v =>
      rw [hc] at h
      rw [hC _ _ _ hc]
      exact Prg.run_mono hC hJ (p := k v) h
  | .jmp p st, r, h => hJ _ _ _ h
end

section
variable {A : AProg} {f g : FuncId}
theorem runN_mono {C C' : FuncId → List TV → Option TV} (hC : ∀ f xs v, C f xs = some v → C' f xs = some v) : ∀ {m m' : Nat}, m ≤ m' → ∀ {p : List Nat} {st : ASt} {r : TV}, runN A C f m p st = some r → runN A C' f m' p st = some r
  | 0, _, _, _, _, _, h => by simp [runN] at h
  | m + 1, 0, hle, _, _, _, _ => by omega
  | m + 1, m' + 1, hle, p, st, r, h => by
    simp only [runN] at h ⊢
    exact Prg.run_mono hC (fun p st r h => runN_mono hC (by omega) h) h

theorem acall_mono : ∀ {n n' : Nat}, n ≤ n' → ∀ {f : FuncId} {args : List TV} {r : TV}, acall A n f args = some r → acall A n' f args = some r
  | 0, _, _, _, _, _, h => by simp [acall] at h
  | n + 1, 0, hle, _, _, _, _ => by omega
  | n + 1, n' + 1, hle, f, args, r, h => by
    simp only [acall] at h ⊢
    have hC : ∀ f xs v, acall A n f xs = some v → acall A n' f xs = some v := fun f xs v h => acall_mono (by omega) h
    split at h
    · rename_i g hg
      exact h
    · exact Prg.run_mono hC (fun p st r h => runN_mono hC (by omega) h) h

/-- A function answers. -/
def Runs (A : AProg) (f : FuncId) (args : List TV) (r : TV) : Prop := ∃ n, acall A n f args = some r
/-- A piece of a function answers. -/
def Goes (A : AProg) (f : FuncId) (p : Prg TV) (r : TV) : Prop := ∃ n, p.run (acall A n) (runN A (acall A n) f n) = some r

variable {r : TV}
theorem Goes.up {p : Prg TV} {n n' : Nat} (h : p.run (acall A n) (runN A (acall A n) f n) = some r) (hle : n ≤ n') : p.run (acall A n') (runN A (acall A n') f n') = some r :=
  Prg.run_mono (fun _ _ _ h => acall_mono hle h) (fun _ _ _ h => runN_mono (fun _ _ _ h => acall_mono hle h) hle h) h

theorem Goes.ret : Goes A f (.ret r) r := ⟨0, rfl⟩
theorem goes_ret {x : TV} : Goes A f (.ret x) r ↔ x = r := ⟨fun ⟨n, h⟩ => by simpa [Prg.run] using h, fun h => h ▸ Goes.ret⟩
theorem goes_fail : Goes A f .fail r ↔ False := ⟨fun ⟨n, h⟩ => by simp [Prg.run] at h, False.elim⟩
theorem goes_tv {p : Option TV} {k : TV → Prg TV} : Goes A f (.tv p k) r ↔ ∃ v, p = some v ∧ Goes A f (k v) r := by
  constructor
  · rintro ⟨n, h⟩
    cases p with
    | none => simp [Prg.run] at h
    | some v => exact ⟨v, rfl, n, h⟩
  · rintro ⟨v, rfl, n, h⟩; exact ⟨n, h⟩
theorem goes_tvs {p : Option (List TV)} {k : List TV → Prg TV} : Goes A f (.tvs p k) r ↔ ∃ v, p = some v ∧ Goes A f (k v) r := by
  constructor
  · rintro ⟨n, h⟩
    cases p with
    | none => simp [Prg.run] at h
    | some v => exact ⟨v, rfl, n, h⟩
  · rintro ⟨v, rfl, n, h⟩; exact ⟨n, h⟩
theorem goes_rws {p : Option (List (List TV))} {k : List (List TV) → Prg TV} : Goes A f (.rws p k) r ↔ ∃ v, p = some v ∧ Goes A f (k v) r := by
  constructor
  · rintro ⟨n, h⟩
    cases p with
    | none => simp [Prg.run] at h
    | some v => exact ⟨v, rfl, n, h⟩
  · rintro ⟨v, rfl, n, h⟩; exact ⟨n, h⟩
theorem goes_nat {p : Option Nat} {k : Nat → Prg TV} : Goes A f (.nat p k) r ↔ ∃ v, p = some v ∧ Goes A f (k v) r := by
  constructor
  · rintro ⟨n, h⟩
    cases p with
    | none => simp [Prg.run] at h
    | some v => exact ⟨v, rfl, n, h⟩
  · rintro ⟨v, rfl, n, h⟩; exact ⟨n, h⟩
theorem goes_chk {b : Bool} {k : Prg TV} : Goes A f (.chk b k) r ↔ b = true ∧ Goes A f k r := by
  constructor
  · rintro ⟨n, h⟩
    cases b with
    | false => simp [Prg.run] at h
    | true => exact ⟨rfl, n, h⟩
  · rintro ⟨rfl, n, h⟩; exact ⟨n, h⟩
theorem goes_ite {b : Option Bool} {t e : Prg TV} : Goes A f (.ite b t e) r ↔ ∃ v, b = some v ∧ Goes A f (bif v then t else e) r := by
  constructor
  · rintro ⟨n, h⟩
    cases b with
    | none => simp [Prg.run] at h
    | some v => refine ⟨v, rfl, n, ?_⟩; cases v <;> exact h
  · rintro ⟨v, rfl, n, h⟩; refine ⟨n, ?_⟩; cases v <;> exact h
theorem goes_call {xs : List TV} {k : TV → Prg TV} : Goes A f (.call g xs k) r ↔ ∃ v, Runs A g xs v ∧ Goes A f (k v) r := by
  constructor
  · rintro ⟨n, h⟩
    simp only [Prg.run] at h
    cases hc : acall A n g xs with
    | none => rw [hc] at h; simp at h
    | some v => rw [hc] at h; exact ⟨v, ⟨n, hc⟩, n, h⟩
  · rintro ⟨v, ⟨n, hc⟩, m, h⟩
    refine ⟨max n m, ?_⟩
    simp only [Prg.run]
    rw [acall_mono (Nat.le_max_left n m) hc]
    exact Goes.up h (Nat.le_max_right n m)
theorem goes_jmp {p : List Nat} {st : ASt} : Goes A f (.jmp p st) r ↔ Goes A f (pieceQ A f p st) r := by
  constructor
  · rintro ⟨n, h⟩
    cases n with
    | zero => simp [Prg.run, runN] at h
    | succ n =>
      refine ⟨n + 1, ?_⟩
      simp only [Prg.run, runN] at h
      exact Prg.run_mono (fun _ _ _ h => h) (fun _ _ _ h => runN_mono (fun _ _ _ h => h) (Nat.le_succ n) h) h
  · rintro ⟨n, h⟩
    refine ⟨n + 1, ?_⟩
    simp only [Prg.run, runN]
    exact Prg.run_mono (fun _ _ _ h => acall_mono (Nat.le_succ n) h) (fun _ _ _ h => runN_mono (fun _ _ _ h => acall_mono (Nat.le_succ n) h) (Nat.le_refl n) h) h
theorem runs_iff {args : List TV} (hx : A.ext f = none) : Runs A f args r ↔ Goes A f (startQ A f args) r := by
  constructor
  · rintro ⟨n, h⟩
    cases n with
    | zero => simp [acall] at h
    | succ n => simp only [acall, hx] at h; exact ⟨n, h⟩
  · rintro ⟨n, h⟩; exact ⟨n + 1, by simp only [acall, hx]; exact h⟩
/-- A function that is told by what it answers. -/
theorem Runs.ext {args : List TV} {g : List TV → Option TV} (hx : A.ext f = some g) (h : g args = some r) : Runs A f args r := ⟨1, by simp only [acall, hx]; exact h⟩

theorem Runs.det {args : List TV} {r r' : TV} (h : Runs A f args r) (h' : Runs A f args r') : r = r' := by
  obtain ⟨n, h⟩ := h
  obtain ⟨m, h'⟩ := h'
  have h1 := acall_mono (Nat.le_max_left n m) h
  have h2 := acall_mono (Nat.le_max_right n m) h'
  rw [h1] at h2
  exact Option.some.inj h2

theorem Goes.tv {p : Option TV} {k : TV → Prg TV} {v : TV} (h : p = some v) (hk : Goes A f (k v) r) : Goes A f (.tv p k) r := goes_tv.2 ⟨v, h, hk⟩
theorem Goes.tvs {p : Option (List TV)} {k : List TV → Prg TV} {v : List TV} (h : p = some v) (hk : Goes A f (k v) r) : Goes A f (.tvs p k) r := goes_tvs.2 ⟨v, h, hk⟩
theorem Goes.rws {p : Option (List (List TV))} {k : List (List TV) → Prg TV} {v : List (List TV)} (h : p = some v) (hk : Goes A f (k v) r) : Goes A f (.rws p k) r := goes_rws.2 ⟨v, h, hk⟩
theorem Goes.nat {p : Option Nat} {k : Nat → Prg TV} {v : Nat} (h : p = some v) (hk : Goes A f (k v) r) : Goes A f (.nat p k) r := goes_nat.2 ⟨v, h, hk⟩
theorem Goes.chk {b : Bool} {k : Prg TV} (h : b = true) (hk : Goes A f k r) : Goes A f (.chk b k) r := goes_chk.2 ⟨h, hk⟩
theorem Goes.ite {b : Option Bool} {t e : Prg TV} {v : Bool} (h : b = some v) (ht : v = true → Goes A f t r) (he : v = false → Goes A f e r) : Goes A f (.ite b t e) r := by
  refine goes_ite.2 ⟨v, h, ?_⟩
  cases v with
  | true => exact ht rfl
  | false => exact he rfl
theorem Goes.call {xs : List TV} {k : TV → Prg TV} {v : TV} (h : Runs A g xs v) (hk : Goes A f (k v) r) : Goes A f (.call g xs k) r := goes_call.2 ⟨v, h, hk⟩
theorem Goes.jmp {p : List Nat} {st : ASt} {q : Prg TV} (h : pieceQ A f p st = q) (hk : Goes A f q r) : Goes A f (.jmp p st) r := goes_jmp.2 (h ▸ hk)
theorem Runs.of {args : List TV} {q : Prg TV} (h : startQ A f args = q) (hk : Goes A f q r) (hx : A.ext f = none := by rfl) : Runs A f args r := (runs_iff hx).2 (h ▸ hk)
end
end Go.Ab

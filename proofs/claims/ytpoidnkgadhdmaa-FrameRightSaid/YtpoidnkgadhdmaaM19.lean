/- That a table is the program's, one by one; values of a type, opened. No condition. -/
import Derived.Test.YtpoidnkgadhdmaaM18
import Derived.Test.YtpoidnkgadhdmaaF1
namespace Go.Ab
set_option linter.unusedVariables false
section
variable {P : Program}
theorem tab_nil : ∀ t e, lookT [] t = some e → TyOk P t e := fun t e h => by simp [lookT] at h
theorem tab_cons {l : List (Nat × TyD)} {k : Nat} {d : TyD} (h1 : tyOf P k = some d) (h : ∀ t e, lookT l t = some e → TyOk P t e) : ∀ t e, lookT ((k, d) :: l) t = some e → TyOk P t e := by
  intro t e he
  simp only [lookT] at he
  cases hk : k.beq t with
  | true =>
    rw [hk] at he
    have : k = t := Nat.eq_of_beq_eq_true hk
    subst this
    cases he
    exact TyOk.of h1
  | false => rw [hk] at he; exact h t e he
def FnOk (P : Program) (f : FuncId) (fn : Func) : Prop := P.funcs[f]? = some fn ∧ (fn.name == "runtime.NumGoroutine") = false ∧ fn.body.isSome = true
theorem fn_nil : ∀ (f : FuncId) (e : Func), (none : Option Func) = some e → FnOk P f e := fun f e h => by cases h
theorem fn_cons {g : FuncId → Option Func} {k : FuncId} {fn : Func} (h1 : P.funcs[k]? = some fn) (h2 : (fn.name == "runtime.NumGoroutine") = false) (h3 : fn.body.isSome = true) (h : ∀ f e, g f = some e → FnOk P f e) :
    ∀ f e, (bif Nat.beq f k then some fn else g f) = some e → FnOk P f e := by
  intro f e he
  cases hk : Nat.beq f k with
  | true =>
    rw [hk] at he
    have : f = k := Nat.eq_of_beq_eq_true hk
    subst this
    cases he
    exact ⟨h1, h2, h3⟩
  | false => rw [hk] at he; exact h f e he

/-! ### values of a type, opened -/
theorem HasTy.int_at {t : TypeId} {k : IntKind} {cs : List TV} (h : HasTy P t cs) (hu : P.underlying t = some (.int k)) : ∃ n, cs = [.lit (.int k n)] ∧ (Lit.int k n).wf = true := by
  cases h with
  | int hu' hw => rw [hu] at hu'; cases hu'; exact ⟨_, rfl, hw⟩
  | bool hu' => rw [hu] at hu'; cases hu'
  | str hu' => rw [hu] at hu'; cases hu'
  | nil hu' => rw [hu] at hu'; cases hu'
  | sl hu' => rw [hu] at hu'; cases hu'
  | struct hu' => rw [hu] at hu'; cases hu'
  | arr hu' => rw [hu] at hu'; cases hu'
theorem HasTy.bool_at {t : TypeId} {cs : List TV} (h : HasTy P t cs) (hu : P.underlying t = some .bool) : ∃ b, cs = [.lit (.bool b)] := by
  cases h with
  | int hu' hw => rw [hu] at hu'; cases hu'
  | bool hu' => exact ⟨_, rfl⟩
  | str hu' => rw [hu] at hu'; cases hu'
  | nil hu' => rw [hu] at hu'; cases hu'
  | sl hu' => rw [hu] at hu'; cases hu'
  | struct hu' => rw [hu] at hu'; cases hu'
  | arr hu' => rw [hu] at hu'; cases hu'
theorem HasTy.str_at {t : TypeId} {cs : List TV} (h : HasTy P t cs) (hu : P.underlying t = some .string) : ∃ s, cs = [.lit (.string s)] ∧ s.size ≤ maxLen := by
  cases h with
  | int hu' hw => rw [hu] at hu'; cases hu'
  | bool hu' => rw [hu] at hu'; cases hu'
  | str hu' hl => exact ⟨_, rfl, hl⟩
  | nil hu' => rw [hu] at hu'; cases hu'
  | sl hu' => rw [hu] at hu'; cases hu'
  | struct hu' => rw [hu] at hu'; cases hu'
  | arr hu' => rw [hu] at hu'; cases hu'
theorem F2.of_all {α : Type} {R : List TV → α → Prop} : ∀ (xs : List (List TV)), (∀ (i : Nat) x, xs[i]? = some x → ∃ a, R x a) → ∃ l, F2 R xs l
  | [], _ => ⟨[], .nil⟩
  | x :: xs, h => by
    obtain ⟨a, ha⟩ := h 0 x rfl
    obtain ⟨l, hl⟩ := F2.of_all xs fun i y hy => h (i + 1) y (by simpa using hy)
    exact ⟨a :: l, .cons ha hl⟩
theorem HasTy.sl_at {α : Type} {R : List TV → α → Prop} {t e : TypeId} {s : Nat} {cs : List TV} (h : HasTy P t cs) (hu : P.underlying t = some (.slice e)) (hs : P.cellsOf e = s) (hR : ∀ x, HasTy P e x → ∃ a, R x a) : ∃ x l, cs = [x] ∧ RL (some false) s R x l := by
  subst hs
  cases h with
  | int hu' hw => rw [hu] at hu'; cases hu'
  | bool hu' => rw [hu] at hu'; cases hu'
  | str hu' hl => rw [hu] at hu'; cases hu'
  | nil hu' => exact ⟨_, [], rfl, .nil⟩
  | sl hu' hl h =>
    rw [hu] at hu'
    cases hu'
    obtain ⟨l, hl'⟩ := F2.of_all _ fun i x hx => hR x (h i x hx)
    exact ⟨_, l, rfl, .sl (by simp) hl' (by have : maxLen = 9223372036854775807 := rfl; omega)⟩
  | struct hu' => rw [hu] at hu'; cases hu'
  | arr hu' => rw [hu] at hu'; cases hu'
theorem HasTy.struct_at {t : TypeId} {fs : Array Field} {cs : List TV} (h : HasTy P t cs) (hu : P.underlying t = some (.struct fs)) : cs.length = P.cellsOf t ∧ ∀ (i : Nat) (f : Field), fs[i]? = some f → HasTy P f.type ((cs.drop f.offset).take (P.cellsOf f.type)) := by
  cases h with
  | int hu' hw => rw [hu] at hu'; cases hu'
  | bool hu' => rw [hu] at hu'; cases hu'
  | str hu' hl => rw [hu] at hu'; cases hu'
  | nil hu' => rw [hu] at hu'; cases hu'
  | sl hu' => rw [hu] at hu'; cases hu'
  | struct hu' hl h => rw [hu] at hu'; cases hu'; exact ⟨hl, h⟩
  | arr hu' => rw [hu] at hu'; cases hu'
theorem wf_i64 {n : Int} (h : (Lit.int .i64 n).wf = true) : inI n := by
  simp only [Lit.wf, Bool.and_eq_true, decide_eq_true_eq] at h
  exact h
theorem wf_u16 {n : Int} (h : (Lit.int .u16 n).wf = true) : inW n := by
  simp only [Lit.wf, Bool.and_eq_true, decide_eq_true_eq] at h
  exact h
end
end Go.Ab

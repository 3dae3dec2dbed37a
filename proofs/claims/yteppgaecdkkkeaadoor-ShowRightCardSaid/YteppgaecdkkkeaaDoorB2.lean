/- strings.Builder and strconv.Itoa, told by what they answer: closed values in, closed values out. Over any program that bears their code. -/
import Derived.Test.YteppgaecdkkkeaaDoorM18
import Derived.Test.YteppgaecdkkkeaaDoorB1
import Derived.Test.YteppgaecdkkkeaaDoorB0
import Derived.Lib.LaidTab
import Derived.Lib.Itoa
import Derived.Sort.Grow
import Derived.Deep.Draws
set_option linter.unusedVariables false
namespace Go.Ab
open Go Go.Lib Go.RowKit

theorem isMay_is {x : TV} (h : x.isMay = true) : x = mayT := by
  unfold TV.isMay at h
  split at h
  · rfl
  · cases h

section
variable {P : Program} {G : Laid} {f : FuncId}

theorem callV_of {T e : TypeId} {s s' : ByteArray} {args : List TV} {r0 : TV} {u : Value} (hr0 : ∀ w I, Rep w I r0 u) (henter : ∀ vals w, (callFunc f vals).run P w = .ok (.enter f vals) w)
    (h : ∀ (b : Nat) (p v : Value) (w : World) (I : Nat → Prop) (vals : Array Value), Bld T e b p v (strCells s) w → vals.size = args.length + 1 → vals.getD 0 undef = .pointer (some ⟨b, 0, none⟩) → (∀ (j : Nat) (x : TV), args[j]? = some x → Rep w I x (vals.getD (j + 1) undef)) →
      Calls P f vals w fun e' w' => e' = .returned u ∧ ∃ p' v', Bld T e b p' v' (strCells s') w' ∧ Exact b v w w' ∧ Next w v v') :
    CallV P G ⟨T, [.may, .bf e]⟩ f (.tup [mayT, .buf s e] :: args) (.tup [r0, .tup [mayT, .buf s' e]]) := by
  refine ⟨_, _, _, _, rfl, rfl, fun I w b vals L hG hlt hL hV hsz h0 hargs => ⟨henter vals w, ?_⟩⟩
  obtain ⟨hb, vs, ty, F, v1, v2, v3, v4, v5⟩ := hV
  obtain ⟨m1, m2, m3⟩ := v3 0 mayT rfl
  obtain ⟨n1, n2, _⟩ := v3 1 (.buf s e) rfl
  have hty : ty = T := m3 rfl
  subst hty
  have hp : vs.getD 0 undef = .pointer none ∨ vs.getD 0 undef = .pointer (some ⟨b, 0, none⟩) := by
    rcases m1 with ⟨_, h⟩ | ⟨h, _⟩
    · exact h
    · cases h
  have hbuf : w.ownsRowF 0 e 1 (vs.getD 1 undef) s.size (strCells s) ∧ ∀ k, (vs.getD 1 undef).ownBlock = some k → F 1 k := by
    rcases n1 with ⟨h, _⟩ | ⟨_, h⟩
    · cases h
    · generalize vs.getD 1 undef = v at h
      cases h with
      | fr h =>
        cases h with
        | buf _ h0 =>
          refine ⟨⟨by rw [strCells_length]; omega, .inl ⟨rfl, h0⟩⟩, fun k hk => by simp [nilV, Value.ownBlock] at hk⟩
      | buf h hS => exact ⟨h, hS⟩
  have hvs : vs = #[vs.getD 0 undef, vs.getD 1 undef] := by
    have h2 : vs.size = 2 := v2
    apply Array.ext
    · simp [h2]
    · intro i hi1 hi2
      have : i = 0 ∨ i = 1 := by omega
      rcases this with rfl | rfl <;> simp [h2]
  have hB : Bld ty e b (vs.getD 0 undef) (vs.getD 1 undef) (strCells s) w := ⟨hp, by rw [v1]; congr 2, by rw [strCells_length]; exact hbuf.1, fun h => (v4 1 b (hbuf.2 b h)).2 rfl⟩
  refine (h b _ _ w I vals hB (by simpa using hsz) h0 hargs).mono ?_
  rintro e' w' ⟨rfl, p', v', hB', hex, hnext⟩
  have hown : ∀ k, (vs.getD 1 undef).ownBlock = some k → L k ∧ k ≠ b := fun k hk => v4 1 k (hbuf.2 k hk)
  refine ⟨u, rfl, ⟨hex.os, hex.tape, hex.output, hex.size, fun k hk hl => hex.block k hk (fun e => hl (e ▸ hb)) (fun e => hl (hown k e).1)⟩, I, fun k => k = b ∨ v'.ownBlock = some k, fun _ => False, fun _ h => h, fun k hk => Nat.lt_of_lt_of_le (hlt k hk) hex.size, fun _ _ h => h, fun k hk => ?_, .fr (hr0 _ _), .inl rfl, #[p', v'], ty, fun k b' => k = 1 ∧ v'.ownBlock = some b', hB'.heap, rfl, fun k c hc => ?_, fun k b' hb' => ⟨.inr hb'.2, fun e => hB'.ne (e ▸ hb'.2)⟩, fun k k' b' h1 h2 => h1.1.trans h2.1.symm⟩
  · rcases hk with rfl | hk
    · exact ⟨.inr hb, Nat.lt_of_lt_of_le (hL k hb).1 hex.size, (hL k hb).2⟩
    · have hlt' : k < w'.heap.size := (hB'.own.lt k hk).2
      rcases hnext k hk with h1 | h1
      · exact ⟨.inr (hown k h1).1, hlt', (hL k (hown k h1).1).2⟩
      · exact ⟨.inl h1, hlt', fun h2 => by have := hlt k h2; omega⟩
  · match k, hc with
    | 0, hc =>
      simp at hc
      subst hc
      refine ⟨.inl ⟨rfl, hB'.first⟩, ?_, fun _ => rfl⟩
      rcases hB'.first with rfl | rfl <;> rfl
    | 1, hc =>
      simp at hc
      subst hc
      have ho := hB'.own
      rw [strCells_length] at ho
      refine ⟨.inr ⟨rfl, .buf ho (fun b' hb' => ⟨rfl, hb'⟩)⟩, ?_, fun h => by cases h⟩
      show v'.oneCell' = true
      rcases ho.2 with ⟨rfl, _⟩ | ⟨g, cap, cur, fz, rfl, _⟩ <;> rfl

theorem enter_of {fn : Func} (hfn : P.funcs[f]? = some fn) (hname : (fn.name == "runtime.NumGoroutine") = false) (hbody : fn.body.isSome = true) : ∀ vals w, (callFunc f vals).run P w = .ok (.enter f vals) w := fun vals w => by
  cases hb : fn.body with
  | none => rw [hb] at hbody; cases hbody
  | some c =>
    simp only [callFunc, Sem.run_bind, run_program, Result.andThen_ok, hfn, hname, hb]
    simp

theorem arrX1 {vals : Array Value} {a : Value} (h : vals.size = 1) (h0 : vals.getD 0 undef = a) : vals = #[a] := by
  apply Array.ext
  · simp [h]
  · intro i hi1 hi2
    have : i = 0 := by omega
    subst this
    simp [h] at h0
    simp [h0]
theorem arrX2 {vals : Array Value} {a b : Value} (h : vals.size = 2) (h0 : vals.getD 0 undef = a) (h1 : vals.getD 1 undef = b) : vals = #[a, b] := by
  apply Array.ext
  · simp [h]
  · intro i hi1 hi2
    have : i = 0 ∨ i = 1 := by omega
    rcases this with rfl | rfl
    · simp [h] at h0
      simp [h0]
    · simp [h] at h1
      simp [h1]

theorem strCells_app (s t : ByteArray) : strCells (s ++ t) = strCells s ++ strCells t := by
  simp [strCells, ByteArray.data_append]
theorem strCells_push (s : ByteArray) (c : UInt8) : strCells (s.push c) = strCells s ++ [.int .u8 c.toNat] := by
  simp [strCells, ByteArray.push]

/-- The table that strconv.Itoa reads. -/
def tabG (P : Program) : Laid where
  P w I := TabIs P w "internal/strconv.uint64pow10" .u64 pow10Tab ∧ ∀ g, P.globalNamed "internal/strconv.uint64pow10" = some g → I g
  mv := by
    rintro w w' I I' hh hI ⟨h1, h2⟩
    refine ⟨?_, fun g hg => hI g (h2 g hg)⟩
    unfold TabIs World.var? at h1 ⊢
    cases hg : P.globalNamed "internal/strconv.uint64pow10" with
    | none => rw [hg] at h1; cases h1
    | some g =>
      rw [hg] at h1
      simp only [Option.bind_some] at h1 ⊢
      rw [hh g (h2 g hg)]
      exact h1

theorem below_growX (w : World) (k : Nat) (os : Array Obj) : Below w.heap.size w (Sort.grow (w.drewN k) os) :=
  ⟨rfl, rfl, rfl, by simp [Sort.grow, World.drewN], fun i hi => by
    show (w.heap ++ os)[i]? = _
    rw [Array.getElem?_append_left hi]⟩

end

/-- That a function that is told answers so. -/
def ExtOk (P : Program) (G : Laid) (lent : FuncId → Option LentD) (pure : FuncId → Bool) (f : FuncId) (g : List TV → Option TV) : Prop :=
  ∀ xs r, g xs = some r → (lent f = none → CallOk P G f xs r ∧ (pure f = true → isOwn r = true)) ∧ ∀ ld, lent f = some ld → CallV P G ld f xs r
section
variable {P : Program} {G : Laid} {lent : FuncId → Option LentD} {pure : FuncId → Bool}
theorem ExtOk.v {f : FuncId} {g : List TV → Option TV} {ld : LentD} (hl : lent f = some ld) (h : ∀ {xs r}, g xs = some r → CallV P G ld f xs r) : ExtOk P G lent pure f g := fun xs r hr =>
  ⟨fun h' => (by rw [hl] at h'; cases h'), fun ld' h' => (by rw [hl] at h'; cases h'; exact h hr)⟩
theorem ExtOk.p {f : FuncId} {g : List TV → Option TV} (hl : lent f = none) (hp : pure f = false) (h : ∀ {xs r}, g xs = some r → CallOk P G f xs r) : ExtOk P G lent pure f g := fun xs r hr =>
  ⟨fun _ => ⟨h hr, fun h' => (by rw [hp] at h'; cases h')⟩, fun ld' h' => (by rw [hl] at h'; cases h')⟩
theorem ext_nil : ∀ (f : FuncId) (g : List TV → Option TV), (none : Option (List TV → Option TV)) = some g → ExtOk P G lent pure f g := fun f e h => by cases h
theorem ext_cons {h : FuncId → Option (List TV → Option TV)} {k : FuncId} {g0 : List TV → Option TV} (h1 : ExtOk P G lent pure k g0) (hr : ∀ f g, h f = some g → ExtOk P G lent pure f g) : ∀ f g, (bif Nat.beq f k then some g0 else h f) = some g → ExtOk P G lent pure f g := by
  intro f g he
  cases hk : Nat.beq f k with
  | true =>
    rw [hk] at he
    have : f = k := Nat.eq_of_beq_eq_true hk
    subst this
    cases he
    exact h1
  | false => rw [hk] at he; exact hr f g he
end
end Go.Ab

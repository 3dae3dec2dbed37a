
/- The law ShapeNames over closed values. No condition. -/
import Derived.Test.YtpoidnkgadhdmaaH6F8
set_option linter.unusedVariables false
set_option maxRecDepth 10000
namespace Go.Ab
/-- Another value in an element of a slice within an element. -/
theorem RP.row2 {α β : Type} {s s2 : Nat} {R : Nat → List TV → α → Prop} {R2 : Nat → List TV → β → Prop} {x y : TV} {l : List α} {l2 : List β} (h : RP s R x l) {i : Nat} {e : List TV} (he : Go.Ab.pel x i = some e) {c : Nat} (hc : e[c]? = some y) (h2 : RP s2 R2 y l2) {j : Nat} {b : β} (hj : l2[j]? = some b) :
    ∃ e2, Go.Ab.pel y j = some e2 ∧ R2 j e2 b ∧ ∀ d ys, setC [(i, c)] x j d ys = some (.sl true s (setNth (rowsOf x) i (setNth e c (.sl true s2 (setNth (rowsOf y) j (setCells e2 d ys)))))) := by
  rcases h with ⟨rfl, rfl⟩ | ⟨xs, rfl, hl, hb, h⟩
  · simp [Go.Ab.pel] at he
  · have he' : xs[i]? = some e := he
    rcases h2 with ⟨rfl, rfl⟩ | ⟨zs, rfl, hl2, hb2, h2⟩
    · simp at hj
    · have hlt := (List.getElem?_eq_some_iff.1 hj).1
      have hz : zs[j]? = some (zs[j]'(by omega)) := List.getElem?_eq_getElem _
      refine ⟨_, hz, h2 j _ b hz hj, fun d ys => ?_⟩
      simp only [setC, getP, he', hc, setEl, hz, setP, rowsOf]
/-- A module with another block in a place. -/
def putBlock (m : DMod) (k : Nat) (f : DFunc) (j : Nat) (b : DBlock) : DMod := ⟨m.funcs.set k ⟨f.params, f.regs, f.blocks.set j b⟩⟩
theorem putBlock_not {m : DMod} {k : Nat} {f : DFunc} {j : Nat} {b b0 : DBlock} (hk : m.funcs[k]? = some f) (hj : f.blocks[j]? = some b0) (hb : ¬ H6.blockP (m.funcs.set k ⟨f.params, f.regs, f.blocks.set j b⟩) f.regs (f.blocks.set j b) b) : ¬ H6.modP (putBlock m k f j b) := by
  rintro ⟨_, _, h⟩
  have h1 := (List.getElem?_eq_some_iff.1 hk).1
  have h2 := (List.getElem?_eq_some_iff.1 hj).1
  have := h k (by simp [putBlock]; exact h1) ⟨f.params, f.regs, f.blocks.set j b⟩ (by simp [putBlock, h1])
  obtain ⟨_, _, _, h3⟩ := this
  exact hb (h3 j (by simp; exact h2) b (by simp [h2]))
theorem mod_nat (a n : Nat) (hn : 0 < n) (ha : a ≤ 65535) : pbin (.int .i64) .rem (I (a : Int)) (I (n : Int)) = some (I ((a % n : Nat) : Int)) := by
  have : ¬ ((n : Int) = 0) := by omega
  simp only [pbin, if_true, intBin, this, if_false]
  rfl
end Go.Ab
namespace Go.Ab.H6
open Go Go.Ab Go.Proofs
theorem pconv_nat (a : Nat) (ha : a ≤ 65535) : pconv (.int .i64) (W (a : Int)) = some (I (a : Int)) := by
  simp only [pconv]
  rw [IntWalk.i64_in _ (by constructor <;> omega)]
theorem quo5 (a : Nat) (ha : a ≤ 65535) : pbin (.int .i64) .quo (I (a : Int)) (I (5 : Int)) = some (I ((a / 5 : Nat) : Int)) := by
  simp only [pbin, if_true, intBin, show ¬ ((5 : Int) = 0) by omega, if_false]
  rw [show ((a : Int).tdiv 5) = ((a / 5 : Nat) : Int) from rfl, IntWalk.i64_in _ (by constructor <;> omega)]
theorem rem_u8 (a : Int) : pbin (.int .u8) .rem (.lit (.int .u8 a)) (.lit (.int .u8 (4 : Int))) = some (.lit (.int .u8 (a.tmod 4))) := by
  simp only [pbin, if_true, intBin, show ¬ ((4 : Int) = 0) by omega, if_false]
end Go.Ab.H6

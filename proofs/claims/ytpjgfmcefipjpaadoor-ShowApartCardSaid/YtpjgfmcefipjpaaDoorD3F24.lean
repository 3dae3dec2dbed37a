
/- The law of layer 3: how many lines a text has. No condition. -/
import Derived.Test.YtpjgfmcefipjpaaDoorD3F23
set_option linter.unusedVariables false
set_option maxRecDepth 20000
namespace Go.Ab.D3
open Go Go.Ab Go.Proofs
def tm0 : DMod := ⟨[⟨0, 1, [⟨false, ⟨0, [], false, false⟩, [], ⟨1, 0, 0, 0, [], 0, 0, 0⟩⟩]⟩]⟩
def te0 : List TV := [frz (TV.sl true 3 (chunks 3 1 [TV.lit (Value.int IntKind.i64 (0 : Int)), TV.lit (Value.int IntKind.i64 (1 : Int)), TV.sl true 14 (chunks 14 1 [TV.lit (Value.bool false), TV.lit (Value.int IntKind.i64 (0 : Int)), TV.lit (Value.slice Option.none 0 0), TV.lit (Value.bool false), TV.lit (Value.bool false), TV.lit (Value.slice Option.none 0 0), TV.lit (Value.int IntKind.i64 (1 : Int)), TV.lit (Value.int IntKind.i64 (0 : Int)), TV.lit (Value.int IntKind.i64 (0 : Int)), TV.lit (Value.int IntKind.i64 (0 : Int)), TV.lit (Value.slice Option.none 0 0), TV.lit (Value.int IntKind.i64 (0 : Int)), TV.lit (Value.int IntKind.i64 (0 : Int)), TV.lit (Value.int IntKind.i64 (0 : Int))])]))]
theorem tm0_rep : RMod (some false) te0 tm0 := by
  have z : inI 0 := by constructor <;> omega
  have o : inI 1 := by constructor <;> omega
  have hq : ∀ b, some false = some b → false = b := fun b h => by cases h; rfl
  refine ⟨_, rfl, .sl hq (.cons ⟨_, rfl, .sl hq (.cons ⟨_, _, _, rfl, .nil, z, .nil, .nil, ⟨o, z, z, z, z, z, z⟩⟩ .nil) ?_, z, o⟩ .nil) ?_⟩
  · show 1 ≤ _; omega
  · show 1 ≤ _; omega
theorem tm0_short : shortM tm0 := by
  refine ⟨by simp [tm0], fun i hi f hf => ?_⟩
  have h0 : i = 0 := by simp [tm0] at hi; exact hi
  subst h0
  obtain rfl : _ = f := Option.some.inj hf
  refine ⟨by simp, fun i hi b hb => ?_⟩
  have h0 : i = 0 := by simp at hi; exact hi
  subst h0
  obtain rfl : _ = b := Option.some.inj hb
  exact ⟨by simp, by simp, by simp, fun i hi => by simp at hi⟩
theorem tm0_may : modP tm0 := by
  have h : Runs prog 24 [.agg te0] (B true) := ⟨30, by kernel_rfl⟩
  have h' := Runs.det h (r8 tm0_rep)
  have : tt (modP tm0) = true := by
    injection h' with h'
    injection h' with h'
    exact h'.symm
  exact tt_iff.1 this
theorem one_digit {n : Nat} (h : n < 10) : Lib.itoa (n : Int) = [UInt8.ofNat (48 + n)] := by
  rw [Lib.itoa, if_neg (by omega), Int.toNat_natCast, Lib.decDigits_one h]
theorem tm0_text : modT tm0 = [102, 117, 110, 99, 32, 48, 32, 49, 10, 98, 108, 111, 99, 107, 10, 114, 101, 116, 32, 48, 10] := by
  have h0 : Lib.itoa 0 = [48] := one_digit (n := 0) (by omega)
  have h1 : Lib.itoa 1 = [49] := one_digit (n := 1) (by omega)
  simp [modT, tm0, funcT, blockT, headT, endT, lineT, numT, h0, h1]
theorem peql_str (a b : List UInt8) : pbin .str .eql (S a) (S b) = some (B (tt (a = b))) := by
  have : ((⟨⟨a⟩⟩ : ByteArray) = ⟨⟨b⟩⟩) ↔ a = b := by simp
  simp only [pbin, strBin, tt]
  congr 3
  exact tt_eq (by simp)
theorem peql_same (a : List UInt8) : pbin .str .eql (S a) (S a) = some (B true) := by rw [peql_str, tt_true rfl]
theorem awake_runs : Runs prog 7 [] (B true) := by
  have h9 := show_runs tm0_rep tm0_short (modT_room tm0_rep tm0_short)
  rw [showT, if_pos tm0_may, tm0_text, if_pos (by simp)] at h9
  have h2 : Lib.itoa 2 = [50] := one_digit (n := 2) (by omega)
  have h1 : Lib.itoa 1 = [49] := one_digit (n := 1) (by omega)
  have h3 : Lib.itoa 3 = [51] := one_digit (n := 3) (by omega)
  have h4 : Lib.itoa 4 = [52] := one_digit (n := 4) (by omega)
  have h7 : Lib.itoa 7 = [55] := one_digit (n := 7) (by omega)
  have z : inI 0 := by constructor <;> omega
  have i1 : inI 1 := by constructor <;> omega
  have i2 : inI 2 := by constructor <;> omega
  have i3 : inI 3 := by constructor <;> omega
  have i4 : inI 4 := by constructor <;> omega
  have i6 : inI 6 := by constructor <;> omega
  have w0 : inW 0 := by constructor <;> omega
  have w7 : inW 7 := by constructor <;> omega
  have hi : Runs prog 11 [.agg [I 3, I 1, I 2, I 3, W 0, I 0, .lit (.slice none 0 0)]] (S [97, 100, 100, 32, 49, 32, 50, 32, 51]) := by
    have := ins_runs (q := none) (e := [I 3, I 1, I 2, I 3, W 0, I 0, .lit (.slice none 0 0)]) (x := ⟨3, 1, 2, 3, 0, 0, []⟩) ⟨_, rfl, .nil, i3, i1, i2, i3, w0, z⟩ (by simp)
    simpa [insT, lineT, numT, h1, h2, h3] using this
  have he : Runs prog 13 [.agg [I 6, I 0, I 0, I 0, .lit (.slice none 0 0), I 0, I 0, I 0]] (S [114, 101, 115, 117, 109, 101]) := by
    have := end_runs (q := none) (e := [I 6, I 0, I 0, I 0, .lit (.slice none 0 0), I 0, I 0, I 0]) (x := ⟨6, 0, 0, 0, [], 0, 0, 0⟩) ⟨_, rfl, .nil, i6, z, z, z, z, z, z⟩ (by simp)
    simpa [endT, lineT, numT] using this
  have hp : Runs prog 15 [.agg [I 4, frz (TV.sl true 1 (chunks 1 1 [W 7])), B true, B false]] (S [112, 97, 100, 32, 52, 32, 99, 97, 116, 99, 104, 32, 55, 32, 97, 108, 108]) := by
    have := pad_runs (q := some false) (e := [I 4, frz (TV.sl true 1 (chunks 1 1 [W 7])), B true, B false]) (x := ⟨4, [7], true, false⟩) ⟨_, rfl, .sl (fun b h => by cases h; rfl) (.cons ⟨rfl, w7⟩ .nil) (show 1 ≤ 9223372036854775807 by omega), i4⟩ (by simp)
    simpa [padT, lineT, numT, h4, h7] using this
  refine Runs.of f7_MR ?_
  unfold f7_M
  refine Goes.call h9 ?_
  refine Goes.chk rfl (Goes.chk rfl (Goes.chk rfl (Goes.tv rfl (Goes.ite (v := true) rfl (fun _ => ?_) fun h => nomatch h))))
  refine Goes.tv (v := B true) (peql_same _) (Goes.ite rfl (fun _ => ?_) fun h => nomatch h)
  refine Goes.call hi (Goes.chk rfl (Goes.tv (v := B true) (peql_same _) (Goes.ite rfl (fun _ => ?_) fun h => nomatch h)))
  refine Goes.call he (Goes.chk rfl (Goes.tv (v := B true) (peql_same _) (Goes.ite rfl (fun _ => ?_) fun h => nomatch h)))
  exact Goes.call hp (Goes.chk rfl (Goes.tv (v := B true) (peql_same _) Goes.ret))
end Go.Ab.D3

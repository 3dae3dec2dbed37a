/- Values of the api's types are plain data. No condition. -/
import Derived.Test.YtpoidnkgadhdmaaH6O
set_option linter.unusedVariables false
set_option maxRecDepth 100000
namespace Go.Ab.H6
open Go Go.Ab Go.Proofs
theorem len_cons {cs : List TV} {n : Nat} (h : cs.length = n + 1) : ∃ c r, cs = c :: r ∧ r.length = n := by
  cases cs with
  | nil => simp at h
  | cons c r => exact ⟨c, r, rfl, by simpa using h⟩
theorem len_nil {cs : List TV} (h : cs.length = 0) : cs = [] := List.length_eq_zero_iff.1 h
theorem c_int : Try.prog.cellsOf 3 = 1 := by kernel_rfl
theorem c_word : Try.prog.cellsOf 25 = 1 := by kernel_rfl
theorem c_bool : Try.prog.cellsOf 4 = 1 := by kernel_rfl
theorem c_ins : Try.prog.cellsOf 44 = 7 := by kernel_rfl
theorem c_end : Try.prog.cellsOf 40 = 8 := by kernel_rfl
theorem c_pad : Try.prog.cellsOf 36 = 4 := by kernel_rfl
theorem c_block : Try.prog.cellsOf 42 = 14 := by kernel_rfl
theorem c_func : Try.prog.cellsOf 32 = 3 := by kernel_rfl
theorem c_mod : Try.prog.cellsOf 24 = 1 := by kernel_rfl
theorem c_ints : Try.prog.cellsOf 38 = 1 := by kernel_rfl
theorem c_words : Try.prog.cellsOf 34 = 1 := by kernel_rfl
theorem c_inss : Try.prog.cellsOf 37 = 1 := by kernel_rfl
theorem c_blocks : Try.prog.cellsOf 30 = 1 := by kernel_rfl
theorem c_funcs : Try.prog.cellsOf 22 = 1 := by kernel_rfl

theorem h_int {cs : List TV} (h : HasTy Try.prog 3 cs) : ∃ n, RI1 cs n := by
  obtain ⟨n, rfl, hw⟩ := h.int_at Try.underlying3
  exact ⟨n, rfl, wf_i64 hw⟩
theorem h_word {cs : List TV} (h : HasTy Try.prog 25 cs) : ∃ n, RW1 cs n := by
  obtain ⟨n, rfl, hw⟩ := h.int_at Try.underlying25
  exact ⟨n, rfl, wf_u16 hw⟩
theorem h_int' {c : TV} (h : HasTy Try.prog 3 [c]) : ∃ n, c = I n ∧ inI n := by
  obtain ⟨n, h1, h2⟩ := h_int h
  exact ⟨n, by simpa using h1, h2⟩
theorem h_word' {c : TV} (h : HasTy Try.prog 25 [c]) : ∃ n, c = W n ∧ inW n := by
  obtain ⟨n, h1, h2⟩ := h_word h
  exact ⟨n, by simpa using h1, h2⟩
theorem h_bool' {c : TV} (h : HasTy Try.prog 4 [c]) : ∃ b, c = B b := by
  obtain ⟨b, h1⟩ := h.bool_at Try.underlying4
  exact ⟨b, by simpa using h1⟩
theorem h_ints {c : TV} (h : HasTy Try.prog 38 [c]) : ∃ l, RInts (some false) c l := by
  obtain ⟨x, l, hx, hl⟩ := h.sl_at Try.underlying38 c_int fun _ h => h_int h
  simp at hx; subst hx
  exact ⟨l, hl⟩
theorem h_words {c : TV} (h : HasTy Try.prog 34 [c]) : ∃ l, RWords (some false) c l := by
  obtain ⟨x, l, hx, hl⟩ := h.sl_at Try.underlying34 c_word fun _ h => h_word h
  simp at hx; subst hx
  exact ⟨l, hl⟩
theorem h_ins {cs : List TV} (h : HasTy Try.prog 44 cs) : ∃ a, RIns (some false) cs a := by
  obtain ⟨hl, hf⟩ := h.struct_at Try.underlying44
  rw [c_ins] at hl
  obtain ⟨c0, cs, rfl, k0⟩ := len_cons hl
  obtain ⟨c1, cs, rfl, k1⟩ := len_cons k0
  obtain ⟨c2, cs, rfl, k2⟩ := len_cons k1
  obtain ⟨c3, cs, rfl, k3⟩ := len_cons k2
  obtain ⟨c4, cs, rfl, k4⟩ := len_cons k3
  obtain ⟨c5, cs, rfl, k5⟩ := len_cons k4
  obtain ⟨c6, cs, rfl, k6⟩ := len_cons k5
  obtain rfl := len_nil k6
  obtain ⟨n0, rfl, g0⟩ := h_int' (c := c0) (by have := hf 0 _ rfl; simpa [c_int] using this)
  obtain ⟨n1, rfl, g1⟩ := h_int' (c := c1) (by have := hf 1 _ rfl; simpa [c_int] using this)
  obtain ⟨n2, rfl, g2⟩ := h_int' (c := c2) (by have := hf 2 _ rfl; simpa [c_int] using this)
  obtain ⟨n3, rfl, g3⟩ := h_int' (c := c3) (by have := hf 3 _ rfl; simpa [c_int] using this)
  obtain ⟨n4, rfl, g4⟩ := h_word' (c := c4) (by have := hf 4 _ rfl; simpa [c_word] using this)
  obtain ⟨n5, rfl, g5⟩ := h_int' (c := c5) (by have := hf 5 _ rfl; simpa [c_int] using this)
  obtain ⟨l, hls⟩ := h_ints (c := c6) (by have := hf 6 _ rfl; simpa [c_ints] using this)
  exact ⟨⟨n0, n1, n2, n3, n4, n5, l⟩, _, rfl, hls, g0, g1, g2, g3, g4, g5⟩
theorem h_end {cs : List TV} (h : HasTy Try.prog 40 cs) : ∃ a, REnd (some false) cs a := by
  obtain ⟨hl, hf⟩ := h.struct_at Try.underlying40
  rw [c_end] at hl
  obtain ⟨c0, cs, rfl, k0⟩ := len_cons hl
  obtain ⟨c1, cs, rfl, k1⟩ := len_cons k0
  obtain ⟨c2, cs, rfl, k2⟩ := len_cons k1
  obtain ⟨c3, cs, rfl, k3⟩ := len_cons k2
  obtain ⟨c4, cs, rfl, k4⟩ := len_cons k3
  obtain ⟨c5, cs, rfl, k5⟩ := len_cons k4
  obtain ⟨c6, cs, rfl, k6⟩ := len_cons k5
  obtain ⟨c7, cs, rfl, k7⟩ := len_cons k6
  obtain rfl := len_nil k7
  obtain ⟨n0, rfl, g0⟩ := h_int' (c := c0) (by have := hf 0 _ rfl; simpa [c_int] using this)
  obtain ⟨n1, rfl, g1⟩ := h_int' (c := c1) (by have := hf 1 _ rfl; simpa [c_int] using this)
  obtain ⟨n2, rfl, g2⟩ := h_int' (c := c2) (by have := hf 2 _ rfl; simpa [c_int] using this)
  obtain ⟨n3, rfl, g3⟩ := h_int' (c := c3) (by have := hf 3 _ rfl; simpa [c_int] using this)
  obtain ⟨l, hls⟩ := h_ints (c := c4) (by have := hf 4 _ rfl; simpa [c_ints] using this)
  obtain ⟨n5, rfl, g5⟩ := h_int' (c := c5) (by have := hf 5 _ rfl; simpa [c_int] using this)
  obtain ⟨n6, rfl, g6⟩ := h_int' (c := c6) (by have := hf 6 _ rfl; simpa [c_int] using this)
  obtain ⟨n7, rfl, g7⟩ := h_int' (c := c7) (by have := hf 7 _ rfl; simpa [c_int] using this)
  exact ⟨⟨n0, n1, n2, n3, l, n5, n6, n7⟩, _, rfl, hls, g0, g1, g2, g3, g5, g6, g7⟩
theorem h_pad {cs : List TV} (h : HasTy Try.prog 36 cs) : ∃ a, RPad (some false) cs a := by
  obtain ⟨hl, hf⟩ := h.struct_at Try.underlying36
  rw [c_pad] at hl
  obtain ⟨c0, cs, rfl, k0⟩ := len_cons hl
  obtain ⟨c1, cs, rfl, k1⟩ := len_cons k0
  obtain ⟨c2, cs, rfl, k2⟩ := len_cons k1
  obtain ⟨c3, cs, rfl, k3⟩ := len_cons k2
  obtain rfl := len_nil k3
  obtain ⟨n0, rfl, g0⟩ := h_int' (c := c0) (by have := hf 0 _ rfl; simpa [c_int] using this)
  obtain ⟨l, hls⟩ := h_words (c := c1) (by have := hf 1 _ rfl; simpa [c_words] using this)
  obtain ⟨b2, rfl⟩ := h_bool' (c := c2) (by have := hf 2 _ rfl; simpa [c_bool] using this)
  obtain ⟨b3, rfl⟩ := h_bool' (c := c3) (by have := hf 3 _ rfl; simpa [c_bool] using this)
  exact ⟨⟨n0, l, b2, b3⟩, _, rfl, hls, g0⟩
theorem h_block {cs : List TV} (h : HasTy Try.prog 42 cs) : ∃ a, RBlock (some false) cs a := by
  obtain ⟨hl, hf⟩ := h.struct_at Try.underlying42
  rw [c_block] at hl
  obtain ⟨c0, cs, rfl, k0⟩ := len_cons hl
  obtain ⟨c1, cs, rfl, k1⟩ := len_cons k0
  obtain ⟨c2, cs, rfl, k2⟩ := len_cons k1
  obtain ⟨c3, cs, rfl, k3⟩ := len_cons k2
  obtain ⟨c4, cs, rfl, k4⟩ := len_cons k3
  obtain ⟨c5, cs, rfl, k5⟩ := len_cons k4
  obtain ⟨c6, cs, rfl, k6⟩ := len_cons k5
  obtain ⟨c7, cs, rfl, k7⟩ := len_cons k6
  obtain ⟨c8, cs, rfl, k8⟩ := len_cons k7
  obtain ⟨c9, cs, rfl, k9⟩ := len_cons k8
  obtain ⟨c10, cs, rfl, k10⟩ := len_cons k9
  obtain ⟨c11, cs, rfl, k11⟩ := len_cons k10
  obtain ⟨c12, cs, rfl, k12⟩ := len_cons k11
  obtain ⟨c13, cs, rfl, k13⟩ := len_cons k12
  obtain rfl := len_nil k13
  obtain ⟨b0, rfl⟩ := h_bool' (c := c0) (by have := hf 0 _ rfl; simpa [c_bool] using this)
  obtain ⟨p, cc, hp, hpc, hpd⟩ := h_pad (cs := [c1, c2, c3, c4]) (by have := hf 1 _ rfl; simpa [c_pad] using this)
  obtain ⟨x, is, hx, his⟩ := HasTy.sl_at (cs := [c5]) (by have := hf 2 _ rfl; simpa [c_inss] using this) Try.underlying37 c_ins fun _ h => h_ins h
  obtain ⟨e, gg, he, heg, heo⟩ := h_end (cs := [c6, c7, c8, c9, c10, c11, c12, c13]) (by have := hf 3 _ rfl; simpa [c_end] using this)
  simp at hp hx he
  obtain ⟨rfl, rfl, rfl, rfl⟩ := hp
  subst hx
  obtain ⟨rfl, rfl, rfl, rfl, rfl, rfl, rfl, rfl⟩ := he
  exact ⟨⟨b0, p, is, e⟩, _, _, _, rfl, hpc, hpd, his, heg, heo⟩
theorem h_func {cs : List TV} (h : HasTy Try.prog 32 cs) : ∃ a, RFunc (some false) cs a := by
  obtain ⟨hl, hf⟩ := h.struct_at Try.underlying32
  rw [c_func] at hl
  obtain ⟨c0, cs, rfl, k0⟩ := len_cons hl
  obtain ⟨c1, cs, rfl, k1⟩ := len_cons k0
  obtain ⟨c2, cs, rfl, k2⟩ := len_cons k1
  obtain rfl := len_nil k2
  obtain ⟨n0, rfl, g0⟩ := h_int' (c := c0) (by have := hf 0 _ rfl; simpa [c_int] using this)
  obtain ⟨n1, rfl, g1⟩ := h_int' (c := c1) (by have := hf 1 _ rfl; simpa [c_int] using this)
  obtain ⟨x, bs, hx, hbs⟩ := HasTy.sl_at (cs := [c2]) (by have := hf 2 _ rfl; simpa [c_blocks] using this) Try.underlying30 c_block fun _ h => h_block h
  simp at hx
  subst hx
  exact ⟨⟨n0, n1, bs⟩, _, rfl, hbs, g0, g1⟩
theorem h_mod {cs : List TV} (h : HasTy Try.prog 24 cs) : ∃ a, RMod (some false) cs a := by
  obtain ⟨hl, hf⟩ := h.struct_at Try.underlying24
  rw [c_mod] at hl
  obtain ⟨c0, cs, rfl, k0⟩ := len_cons hl
  obtain rfl := len_nil k0
  obtain ⟨x, fs, hx, hfs⟩ := HasTy.sl_at (cs := [c0]) (by have := hf 0 _ rfl; simpa [c_funcs] using this) Try.underlying22 c_func fun _ h => h_func h
  simp at hx
  subst hx
  exact ⟨⟨fs⟩, _, rfl, hfs⟩
theorem v_mod {x : TV} (h : ValTy Try.prog 24 x) : ∃ cs m, x = .agg cs ∧ RMod (some false) cs m := by
  rcases h with ⟨⟨cs, rfl, h⟩, _⟩ | ⟨_, h, _⟩
  · obtain ⟨m, hm⟩ := h_mod h; exact ⟨cs, m, rfl, hm⟩
  · exact absurd Try.underlying24 (h _)
theorem v_func {x : TV} (h : ValTy Try.prog 32 x) : ∃ cs m, x = .agg cs ∧ RFunc (some false) cs m := by
  rcases h with ⟨⟨cs, rfl, h⟩, _⟩ | ⟨_, h, _⟩
  · obtain ⟨m, hm⟩ := h_func h; exact ⟨cs, m, rfl, hm⟩
  · exact absurd Try.underlying32 (h _)
theorem v_word {x : TV} (h : ValTy Try.prog 25 x) : ∃ n, x = W n ∧ inW n := by
  rcases h with ⟨⟨cs, rfl, h⟩, h2⟩ | ⟨h, _, _⟩
  · rcases h2 with ⟨fs, h2⟩ | ⟨n, e, h2⟩ <;> (rw [Try.underlying25] at h2; cases h2)
  · exact h_word' h
theorem v_int {x : TV} (h : ValTy Try.prog 3 x) : ∃ n, x = I n ∧ inI n := by
  rcases h with ⟨⟨cs, rfl, h⟩, h2⟩ | ⟨h, _, _⟩
  · rcases h2 with ⟨fs, h2⟩ | ⟨n, e, h2⟩ <;> (rw [Try.underlying3] at h2; cases h2)
  · exact h_int' h
theorem v_byte {x : TV} (h : ValTy Try.prog 5 x) : ∃ n, x = .lit (.int .u8 n) ∧ (Lit.int .u8 n).wf = true := by
  rcases h with ⟨⟨cs, rfl, h⟩, h2⟩ | ⟨h, _, _⟩
  · rcases h2 with ⟨fs, h2⟩ | ⟨n, e, h2⟩ <;> (rw [Try.underlying5] at h2; cases h2)
  · obtain ⟨n, h1, h2⟩ := h.int_at Try.underlying5
    exact ⟨n, by simpa using h1, h2⟩
theorem v_ins {x : TV} (h : ValTy Try.prog 44 x) : ∃ cs m, x = .agg cs ∧ RIns (some false) cs m := by
  rcases h with ⟨⟨cs, rfl, h⟩, _⟩ | ⟨_, h, _⟩
  · obtain ⟨m, hm⟩ := h_ins h; exact ⟨cs, m, rfl, hm⟩
  · exact absurd Try.underlying44 (h _)
theorem v_pad {x : TV} (h : ValTy Try.prog 36 x) : ∃ cs m, x = .agg cs ∧ RPad (some false) cs m := by
  rcases h with ⟨⟨cs, rfl, h⟩, _⟩ | ⟨_, h, _⟩
  · obtain ⟨m, hm⟩ := h_pad h; exact ⟨cs, m, rfl, hm⟩
  · exact absurd Try.underlying36 (h _)
theorem v_words {x : TV} (h : ValTy Try.prog 34 x) : ∃ l, RWords (some false) x l := by
  rcases h with ⟨⟨cs, rfl, h⟩, h2⟩ | ⟨h, _, _⟩
  · rcases h2 with ⟨fs, h2⟩ | ⟨n, e, h2⟩ <;> (rw [Try.underlying34] at h2; cases h2)
  · exact h_words h
theorem v_end {x : TV} (h : ValTy Try.prog 40 x) : ∃ cs m, x = .agg cs ∧ REnd (some false) cs m := by
  rcases h with ⟨⟨cs, rfl, h⟩, _⟩ | ⟨_, h, _⟩
  · obtain ⟨m, hm⟩ := h_end h; exact ⟨cs, m, rfl, hm⟩
  · exact absurd Try.underlying40 (h _)
end Go.Ab.H6

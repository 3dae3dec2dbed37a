/- A string's bytes behind a slice; a string of bytes. No condition. -/
import Derived.Test.YtpoidnkgadhdmaaM3
import Derived.Lib.AppendStr
import Derived.Laws.BytesString
namespace Go.Ab
open Go.Lib
set_option linter.unusedVariables false
section
variable {P : Program} {w : World}
theorem run_append_str (t u ty e : TypeId) (i : TypeInfo) (z : Value) (ht : P.underlying t = some (.slice e)) (hu : P.underlying u = some .string) (hi : P.info? e = some i) (hz : i.zero = some z) (hzs : z.cells.size = i.size) (hs1 : i.size = 1)
    {n : Nat} {us : List Value} {v : Value} (hown : Own w i.size v n us) (s : ByteArray) (h63 : n + s.size ≤ maxLen) (hbytes : (n + s.size) * i.bytes ≤ 140737488355328) :
    ∃ v' w', (Builtin.append_ #[t, u] ty #[v, .string s]).run P w = .ok v' w' ∧ Grown w w' i.size v v' (n + s.size) (us ++ strCells s) := by
  have hsmall : n + s.size ≤ 9223372036854775807 := by simp only [maxLen] at h63; omega
  have hl : (strCells s).length = s.size := strCells_length s
  have h1 := strCells_oneCell s
  have hul : us.length = n * i.size := by
    rcases hown with ⟨_, h0, h1⟩ | ⟨a, cap, vs, ty, _, hr⟩
    · rw [h0, h1]; simp
    · exact hr.len
  have hu1 : ∀ u ∈ us, u.oneCell' = true := by
    rcases hown with ⟨_, h0, h1⟩ | ⟨a, cap, vs, ty, _, hr⟩
    · rw [h1]; simp
    · exact hr.one
  by_cases hm : s.size = 0
  · have hn : strCells s = [] := List.eq_nil_of_length_eq_zero (by omega)
    refine ⟨v, w, ?_, ?_⟩
    · have hf := run_firstCells_string (P := P) w 1 s
      rw [hm, hn] at hf
      rcases hown with ⟨rfl, h0, h2⟩ | ⟨a, cap, vs, ty', rfl, hr⟩
      · subst h0
        simp [nilV, Builtin.append_, run_underlying ht, run_underlying hu, sizeOf, typeInfo, hi, Builtin.lenOf, hs1, hm, hf]
      · simp [Builtin.append_, run_underlying ht, run_underlying hu, sizeOf, typeInfo, hi, Builtin.lenOf, hr.le, hs1, hm, hf, storeCells]
    · rw [hm, hn, Nat.add_zero, List.append_nil]
      refine ⟨?_, rfl, rfl, rfl, Nat.le_refl _, fun _ _ _ => rfl, fun _ => rfl⟩
      rcases hown with ⟨h2, h0, h3⟩ | ⟨a, cap, vs, ty', h2, hr⟩
      · exact .inl ⟨rfl, h2, h0, h3, rfl⟩
      · exact .inr ⟨a, cap, vs, ty', h2, hr, .inl ⟨a, n, cap, h2, rfl⟩⟩
  · have hlen : (us ++ strCells s).length = (n + s.size) * i.size := by rw [List.length_append, hul, hl, hs1]; omega
    have grown : ∀ (old : Nat), ∃ arr, arr = us.toArray ++ (strCells s).toArray ++ Builtin.zeroCells z.cells (grownCap w (n + s.size) old e - (n + s.size)) ∧
        Row (w.drew.alloc (.cells arr e)) ⟨w.heap.size, 0, none⟩ (n + s.size) (grownCap w (n + s.size) old e) i.size (us ++ strCells s) arr e := by
      intro old
      have hge := grownCap_ge w (n + s.size) old e
      have hcm : grownCap w (n + s.size) old e ≤ maxLen := grownCap_le_maxLen w (n + s.size) old e h63
      refine ⟨_, rfl, heap_alloc_new w.drew _, rfl, hge, hcm, ?_, hlen, fun k hk => ?_, fun u hu => ?_⟩
      · simp only [Array.size_append, List.size_toArray, size_zeroCells, hzs, hul, hl, hs1, Nat.zero_add, Nat.mul_one]
        omega
      · rw [Nat.zero_add, Array.getElem?_append_left (by simp [hul, hl, hs1] at hk ⊢; omega), List.append_toArray, List.getElem?_toArray]
      · rcases List.mem_append.1 hu with h | h
        · exact hu1 u h
        · exact h1 u h
    have gl : ∀ (arr : Array Value), (∀ k, k < w.heap.size → (w.drew.alloc (.cells arr e)).heap[k]? = w.heap[k]?) := fun arr k hk => heap_alloc_old w.drew _ k hk
    rcases hown with ⟨rfl, h0, h2⟩ | ⟨a, cap, vs, ty', rfl, hr⟩
    · subst h0 h2
      obtain ⟨arr, harr, hrow⟩ := grown 0
      have hrun := run_append_nil_string (P := P) w t u ty e i z ht hu hi hz s (by omega) (by omega) (by have hb := hbytes; simp only [Nat.zero_add] at hb; omega)
      simp only [Nat.zero_add, List.nil_append, Array.empty_append] at harr hrow ⊢
      have hsc : s.data.map (fun b => Value.int .u8 b.toNat) = (strCells s).toArray := by apply Array.ext'; simp [strCells]
      rw [hsc, ← harr] at hrun
      exact ⟨_, _, hrun, .inr ⟨_, _, arr, e, rfl, hrow, .inr rfl⟩, rfl, rfl, rfl, by simp, fun k hk _ => gl arr k hk, fun h => absurd h (by omega)⟩
    · by_cases hroom : n + s.size ≤ cap
      · have hfit : a.off + n * i.size + (strCells s).length ≤ vs.size := by
          have h3 := hr.fit
          have h4 : (n + s.size) * i.size ≤ cap * i.size := Nat.mul_le_mul_right _ hroom
          rw [Nat.add_mul] at h4
          rw [hs1] at *
          omega
        have hf := run_firstCells_string (P := P) w 1 s
        have hst := run_storeCells_at P a.block (a.off + n * i.size) ty' (strCells s) 0 vs w hr.heap (by simpa using hfit) h1
        simp only [Nat.add_zero] at hst
        refine ⟨.slice (some a) (n + s.size) cap, w.setRow a.block (spl vs.toList (a.off + n * i.size) (strCells s)).toArray, ?_, .inr ⟨a, cap, (spl vs.toList (a.off + n * i.size) (strCells s)).toArray, ty', rfl, ?_, .inl ⟨a, n, cap, rfl, rfl⟩⟩, rfl, rfl, rfl, by simp, fun k _ hk => setRow_other w a.block k _ (hk a n cap rfl), fun h => absurd h (by omega)⟩
        · simp only [spl]
          rw [← row_add a hr.spot] at hst
          rw [hs1, Nat.mul_one] at hst
          simp [Builtin.append_, run_underlying ht, run_underlying hu, sizeOf, typeInfo, hi, Builtin.lenOf, hroom, hs1, hf, hst]
        · have hfl : a.off + n * i.size + (strCells s).length ≤ vs.toList.length := by simpa using hfit
          have hheap := setRow_heap w a.block vs (spl vs.toList (a.off + n * i.size) (strCells s)).toArray ty' (0, 0) hr.heap
          refine ⟨hheap, hr.spot, hroom, hr.max, by rw [List.size_toArray, spl_len hfl]; exact hr.fit, hlen, fun k hk => ?_, fun u hu => ?_⟩
          · rw [List.getElem?_toArray, spl_get hfl]
            by_cases hk1 : k < n * i.size
            · rw [if_neg (by omega), Array.getElem?_toList, hr.cells k hk1, List.getElem?_append_left (by omega)]
            · rw [Nat.add_mul, hs1] at hk
              rw [hs1] at *
              rw [if_pos (by omega), List.getElem?_append_right (by omega)]
              congr 1
              omega
          · rcases List.mem_append.1 hu with h | h
            · exact hu1 u h
            · exact h1 u h
      · obtain ⟨arr, harr, hrow⟩ := grown cap
        have hrun := run_append_grow_string (P := P) w t u ty e i z ht hu hi hz a n cap us hul (fun j u hu => hr.cell hu) s (by omega) (by omega) (growslice_fits (by omega) hbytes)
        rw [← harr] at hrun
        exact ⟨_, _, hrun, .inr ⟨_, _, arr, e, rfl, hrow, .inr rfl⟩, rfl, rfl, rfl, by simp, fun k hk _ => gl arr k hk, fun h => absurd h (by omega)⟩
end
end Go.Ab

/- What strings.Builder's functions do in this program. No condition. -/
import Derived.Test.YteppgaecdkkkeaaDoorB2
import Derived.Lib.UnsafeStr
import Derived.WalkKit
import Derived.BigCall
import Derived.BigGuard
import Derived.Shelf.RegionOpenPlain
import Derived.Test.YteppgaecdkkkeaaDoorProg
set_option linter.unusedVariables false
namespace Go.Ab.D5
open Go Go.Ab Go.Lib Go.RowKit Go.Proofs
section
variable {G : Laid}
theorem sizeBuilder : (Tryd.prog.info? 63).map (·.size) = some 2 := by kernel_rfl
theorem liesBuilder : liesAt Tryd.prog Tryd.prog.depth 63 (2 / Tryd.prog.cellsOf 63) 0 63 1 = true := by kernel_rfl
theorem infoByte : (Tryd.prog.info? 5).map (fun i => (i.zero, i.size, i.bytes)) = some (some (.int .u8 0), 1, 1) := by kernel_rfl
theorem cellsByte : Tryd.prog.cellsOf 5 = 1 := by kernel_rfl
theorem neB5 : 63 ≠ 5 := by decide
theorem infoB : ∃ i0, Tryd.prog.info? 5 = some i0 ∧ i0.zero = some (.int .u8 0) ∧ i0.size = 1 ∧ i0.bytes = 1 := by
  have h := infoByte
  cases hi : Tryd.prog.info? 5 with
  | none => rw [hi] at h; cases h
  | some i =>
    rw [hi] at h
    simp only [Option.map_some, Option.some.injEq, Prod.mk.injEq] at h
    exact ⟨i, rfl, h.1, h.2.1, h.2.2⟩

set_option maxHeartbeats 1000000 in
set_option maxRecDepth 100000 in
theorem cc_used (b : Nat) (w : World) (h0 : w.cell? ⟨b, 0, none⟩ = some (.pointer (some ⟨b, 0, none⟩))) :
    Calls Tryd.prog 52 #[.pointer (some ⟨b, 0, none⟩)] w fun e w' => e = .returned (.tuple #[]) ∧ w' = w := by
  obtain ⟨j, hj, _⟩ := Option.map_eq_some_iff.1 sizeBuilder
  go_enter Tryd.func52, Tryd.ntmps52
  go_wp2
  rw [Lib.run_neq_ptr_same w _ Tryd.underlying60 hj]
  go_wp2
  go_end0
  exact ⟨rfl, rfl⟩
set_option maxHeartbeats 1000000 in
set_option maxRecDepth 100000 in
theorem cc_fresh (b : Nat) (w : World) (h0 : w.cell? ⟨b, 0, none⟩ = some (.pointer none)) (hsh : w.shape? b = some (63, 2)) (hfz : w.frozen? ⟨b, 0, none⟩ = false) :
    Calls Tryd.prog 52 #[.pointer (some ⟨b, 0, none⟩)] w fun e w' => e = .returned (.tuple #[]) ∧ w' = w.setCell ⟨b, 0, none⟩ (.pointer (some ⟨b, 0, none⟩)) := by
  obtain ⟨j, hj, hjs⟩ := Option.map_eq_some_iff.1 sizeBuilder
  go_enter Tryd.func52, Tryd.ntmps52
  go_wp2
  rw [Lib.run_to_unsafe w ⟨b, 0, none⟩ Tryd.underlying60 Tryd.underlying116 hj (by rw [hjs]; decide) hsh (Nat.zero_lt_succ 1)]
  simp only [Result.andThen]
  rw [Oper.upon_value]
  go_wp2
  rw [run_callFunc_extern Tryd.func66 (by kernel_rfl) (by kernel_rfl) (by kernel_rfl) (e := Extern.AbiNoEscape.same) (by kernel_rfl)]
  rw [Lib.run_noEscape]
  simp only [Result.andThen]
  rw [Oper.upon_value]
  go_wp2
  rw [Lib.run_from_unsafe w ⟨b, 0, none⟩ Tryd.underlying116 Tryd.underlying60 hj hsh liesBuilder]
  simp only [Result.andThen]
  rw [Oper.upon_value]
  go_wp2
  go_end0
  exact ⟨rfl, rfl⟩

theorem copyCheck_x {b : Nat} {p v : Value} {bs : List Value} {w : World} (h : Bld 63 5 b p v bs w) :
    Calls Tryd.prog 52 #[.pointer (some ⟨b, 0, none⟩)] w fun e w' => e = .returned (.tuple #[]) ∧ Bld 63 5 b (.pointer (some ⟨b, 0, none⟩)) v bs w' ∧ Exact b v w w' ∧ w'.heap.size = w.heap.size := by
  have cell0 : w.cell? ⟨b, 0, none⟩ = some p := by rw [cell_of_heap h.heap]; rfl
  rcases h.first with rfl | rfl
  · refine (cc_fresh b w cell0 (by simp [World.shape?, h.heap]) (frozen_of_heap h.heap 0)).mono ?_
    rintro e w' ⟨rfl, rfl⟩
    refine ⟨rfl, ⟨.inr rfl, ?_, ?_, h.ne⟩, (Exact.refl b v w).setCell _, by simp [World.setCell]⟩
    · simp [World.setCell, Array.getElem?_modify, h.heap]
    · refine h.own.kept (row := some b) ⟨rfl, rfl, rfl, by simp [World.setCell], fun k _ hk => Below.heap_setCell _ _ _ _ (fun e => hk (by simp [e]))⟩ (.inr h.ne)
  · refine (cc_used b w cell0).mono ?_
    rintro e w' ⟨rfl, rfl⟩
    exact ⟨rfl, h, Exact.refl _ _ _, rfl⟩

set_option maxHeartbeats 2000000 in
set_option maxRecDepth 100000 in
theorem WriteByte_x {b : Nat} {p v : Value} {bs : List Value} {w : World} (h : Bld 63 5 b p v bs w) (c : Int) (hlen : bs.length + 1 ≤ 140737488355328) :
    Calls Tryd.prog 42 #[.pointer (some ⟨b, 0, none⟩), .int .u8 c] w fun e w' => e = .returned .nilIface ∧ ∃ v', Bld 63 5 b (.pointer (some ⟨b, 0, none⟩)) v' (bs ++ [.int .u8 c]) w' ∧ Exact b v w w' ∧ Next w v v' := by
  obtain ⟨i0, hi, hz0, hz1, hz2⟩ := infoB
  go_enter Tryd.func42, Tryd.ntmps42
  go_wp2_with (go_at_call 52; refine (copyCheck_x h).mono ?_)
  rintro e w1 ⟨rfl, h1, hx1, hsz1⟩
  have hbk := h1.heap
  have hown := h1.own
  have hne := h1.ne
  have c0 : w1.cell? ⟨b, 0, none⟩ = some (.pointer (some ⟨b, 0, none⟩)) := by rw [Lib.cell_of_heap hbk]; rfl
  have c1 : w1.cell? ⟨b, 1, none⟩ = some v := by rw [Lib.cell_of_heap hbk]; rfl
  have hlt1 : b < w1.heap.size := h1.lt
  clear h1 hsz1
  go_wp2_with (at_builtin; refine wpList_append_y rfl _ _ 61 rfl 5 i0 (.int .u8 0) Tryd.underlying61 hi hz0 hz1 hz2 rfl _ _ _ rfl (hown.alloc _) ⟨w1.heap.size, 0, none⟩ 1 1 [.int .u8 c] rfl rfl ?c1 ?c2 ?c3 ?c4 ?_)
  case c1 =>
    intro j u hj
    match j, hj with
    | 0, hj => simp at hj; subst hj; simp [Addr.add]
  case c2 => intro u hu; simp at hu; subst hu; rfl
  case c3 => unfold maxLen; omega
  case c4 => omega
  intro v' w2 hown' hgrow hnext
  have hb2 : w2.heap[b]? = some (.cells #[.pointer (some ⟨b, 0, none⟩), v] 63 (0, 0)) := by
    rw [hgrow.block b (by simp; omega) (fun e => hne e.symm), Lib.alloc_old w1 _ b hlt1]
    exact hbk
  have d0 : w2.cell? ⟨b, 0, none⟩ = some (.pointer (some ⟨b, 0, none⟩)) := by rw [Lib.cell_of_heap hb2]; rfl
  have d1 : w2.cell? ⟨b, 1, none⟩ = some v := by rw [Lib.cell_of_heap hb2]; rfl
  have f1 : w2.frozen? ⟨b, 1, none⟩ = false := Lib.frozen_of_heap hb2 1
  obtain ⟨g, cap, rfl⟩ : ∃ g cap, v' = .slice (some ⟨g, 0, none⟩) (bs.length + 1) cap := by
    rcases hown'.2 with ⟨_, h0⟩ | ⟨g, cap, cur, fz, hv, _⟩
    · omega
    · exact ⟨g, cap, hv⟩
  go_wp2
  go_ret
  refine ⟨rfl, _, Bld.put hb2 (bs' := bs ++ [.int .u8 c]) (by simpa using hown') neB5, ((hx1.alloc _).grown hgrow).setCell _, fun k hk => (hnext k hk).imp id (fun h => ?_)⟩
  have := hx1.size
  simp at h
  omega

set_option maxHeartbeats 2000000 in
set_option maxRecDepth 100000 in
theorem WriteString_x {b : Nat} {p v : Value} {bs : List Value} {w : World} (h : Bld 63 5 b p v bs w) (s : ByteArray) (hlen : bs.length + s.size ≤ 140737488355328) :
    Calls Tryd.prog 41 #[.pointer (some ⟨b, 0, none⟩), .string s] w fun e w' => e = .returned (.tuple #[.int .i64 s.size, .nilIface]) ∧ ∃ v', Bld 63 5 b (.pointer (some ⟨b, 0, none⟩)) v' (bs ++ Lib.strCells s) w' ∧ Exact b v w w' ∧ Next w v v' := by
  obtain ⟨i0, hi, hz0, hz1, hz2⟩ := infoB
  go_enter Tryd.func41, Tryd.ntmps41
  go_wp2_with (go_at_call 52; refine (copyCheck_x h).mono ?_)
  rintro e w1 ⟨rfl, h1, hx1, hsz1⟩
  have hbk := h1.heap
  have hown := h1.own
  have hne := h1.ne
  have c0 : w1.cell? ⟨b, 0, none⟩ = some (.pointer (some ⟨b, 0, none⟩)) := by rw [Lib.cell_of_heap hbk]; rfl
  have c1 : w1.cell? ⟨b, 1, none⟩ = some v := by rw [Lib.cell_of_heap hbk]; rfl
  have hlt1 : b < w1.heap.size := h1.lt
  clear h1 hsz1
  go_wp2_with (at_builtin; refine wpList_append_x rfl _ _ 61 9 rfl 5 i0 Tryd.underlying61 Tryd.underlying9 hi hz0 hz1 hz2 _ _ _ rfl hown s rfl ?c3 ?c4 ?_)
  case c3 => unfold maxLen; omega
  case c4 => omega
  intro v' w2 hown' hgrow hnext
  have hb2 : w2.heap[b]? = some (.cells #[.pointer (some ⟨b, 0, none⟩), v] 63 (0, 0)) := by
    rw [hgrow.block b hlt1 (fun e => hne e.symm)]
    exact hbk
  have d0 : w2.cell? ⟨b, 0, none⟩ = some (.pointer (some ⟨b, 0, none⟩)) := by rw [Lib.cell_of_heap hb2]; rfl
  have d1 : w2.cell? ⟨b, 1, none⟩ = some v := by rw [Lib.cell_of_heap hb2]; rfl
  have f1 : w2.frozen? ⟨b, 1, none⟩ = false := Lib.frozen_of_heap hb2 1
  obtain ⟨ao, n', cap, rfl⟩ : ∃ ao n' cap, v' = .slice ao n' cap := by
    rcases hown'.2 with ⟨hv, _⟩ | ⟨g, cap, cur, fz, hv, _⟩
    · exact ⟨_, _, _, hv⟩
    · exact ⟨_, _, _, hv⟩
  go_wp2
  go_ret2
  refine ⟨rfl, _, Bld.put hb2 (bs' := bs ++ Lib.strCells s) (by simpa [Lib.strCells_length] using hown') neB5, (hx1.grown hgrow).setCell _, fun k hk => (hnext k hk).imp id (fun h => by have := hx1.size; omega)⟩
set_option maxHeartbeats 1000000 in
set_option maxRecDepth 100000 in
theorem String_x {b : Nat} {p v : Value} {l : List UInt8} {w : World} (h : Bld 63 5 b p v (Lib.byteCells l) w) (h0 : l ≠ []) :
    Calls Tryd.prog 26 #[.pointer (some ⟨b, 0, none⟩)] w fun e w' => e = .returned (.string ⟨l.toArray⟩) ∧ Bld 63 5 b p v (Lib.byteCells l) w' ∧ Exact b v w w' := by
  have hbk := h.heap
  have hown := h.own
  have hne := h.ne
  have hl0 : l.length ≠ 0 := by simpa using h0
  rw [Lib.byteCells_length] at hown
  obtain ⟨g, cap, cur, fz, rfl, hbg, hg, hfz, hnc, hcm, hcs, htake⟩ : ∃ g cap cur fz, v = .slice (some ⟨g, 0, none⟩) l.length cap ∧ 0 ≤ g ∧ w.heap[g]? = some (.cells cur 5 fz) ∧ fz.2 ≤ l.length * 1 ∧ l.length ≤ cap ∧ cap ≤ maxLen ∧ cur.size = cap * 1 ∧ cur.toList.take (l.length * 1) = Lib.byteCells l := by
    rcases hown.2 with ⟨_, hz⟩ | ⟨g, cap, cur, fz, hv, r⟩
    · exact absurd hz hl0
    · exact ⟨g, cap, cur, fz, hv, r⟩
  have c1 : w.drew.cell? ⟨b, 1, none⟩ = some (.slice (some ⟨g, 0, none⟩) l.length cap) := by
    have : w.drew.heap[b]? = some (.cells #[p, .slice (some ⟨g, 0, none⟩) l.length cap] 63 (0, 0)) := hbk
    rw [Lib.cell_of_heap this]; rfl
  have hSD : (Builtin.unsafeSliceData_ #[61] 88 #[.slice (some ⟨g, 0, none⟩) l.length cap]).run Tryd.prog w.drew = .ok (.pointer (some ⟨g, 0, none⟩)) w.drew :=
    Lib.run_unsafeSliceData_row _ _ _ _ _ _ (by omega)
  have hUS : (Builtin.unsafeString_ #[88, 3] 9 #[.pointer (some ⟨g, 0, none⟩), .int .i64 l.length]).run Tryd.prog w.drew = .ok (.string ⟨l.toArray⟩) (w.drew.freeze ⟨g, 0, none⟩ l.length) := by
    refine Lib.run_unsafeString_row w.drew 88 3 9 5 Tryd.underlying88 cellsByte g cur.size (by have hg' : w.drew.heap[g]? = some (.cells cur 5 fz) := hg; simp [World.shape?, hg']) l h0 (by omega) (by unfold maxLen at hcm; omega) ?_
    intro j x hx
    have := hown.cells (g := g) rfl j (.int .u8 x.toNat) (by simp [Lib.byteCells, hx])
    exact this
  have hgb : g ≠ b := fun e => hne (by rw [e]; rfl)
  have hkeep : Bld 63 5 b p (.slice (some ⟨g, 0, none⟩) l.length cap) (Lib.byteCells l) (w.drew.freeze ⟨g, 0, none⟩ l.length) := by
    have hF := (h.at.drew).froze (g := g) (cap := cap) (by rw [Lib.byteCells_length]; exact c1)
    rw [Lib.byteCells_length] at hF
    obtain ⟨_, v1, q1, q2, q3⟩ := hF
    have hb2 : (w.drew.freeze ⟨g, 0, none⟩ l.length).heap[b]? = some (.cells #[p, .slice (some ⟨g, 0, none⟩) l.length cap] 63 (0, 0)) := by
      unfold World.freeze
      split
      · exact hbk
      · simp [Array.getElem?_modify, hgb]
        exact hbk
    rw [hb2] at q1
    simp only [Option.some.injEq, Obj.cells.injEq, and_true] at q1
    have e1 : Value.slice (some ⟨g, 0, none⟩) l.length cap = v1 := by simpa using q1
    subst e1
    exact ⟨h.first, hb2, q2, q3⟩
  have hex : Exact b (.slice (some ⟨g, 0, none⟩) l.length cap) w (w.drew.freeze ⟨g, 0, none⟩ l.length) := ((Exact.refl b _ w).drew).freeze rfl _
  clear h
  have mixed : Tryd.prog.follows .mixedOrders = true := by kernel_rfl
  go_enter Tryd.func26, Tryd.ntmps26
  go_wp2
  go_region_o
  all_goals (go_wp2; go_ret; exact ⟨rfl, hkeep, hex⟩)
set_option maxHeartbeats 1000000 in
set_option maxRecDepth 100000 in
theorem Len_x {b : Nat} {p v : Value} {bs : List Value} {w : World} (h : Bld 63 5 b p v bs w) :
    Calls Tryd.prog 25 #[.pointer (some ⟨b, 0, none⟩)] w fun e w' => e = .returned (.int .i64 bs.length) ∧ w' = w := by
  obtain ⟨_, hbk, hown, hne⟩ := h
  obtain ⟨ao, cap, rfl⟩ : ∃ ao cap, v = .slice ao bs.length cap := by
    rcases hown.2 with ⟨hv, h0⟩ | ⟨g, cap, cur, fz, hv, _⟩
    · exact ⟨none, 0, by rw [hv, h0]⟩
    · exact ⟨_, _, hv⟩
  have c1 : w.cell? ⟨b, 1, none⟩ = some (.slice ao bs.length cap) := by rw [Lib.cell_of_heap hbk]; rfl
  go_enter Tryd.func25, Tryd.ntmps25
  go_wp2
  go_ret
  exact ⟨rfl, rfl⟩

theorem xWriteString_ok (henter : ∀ vals w, (callFunc 41 vals).run Tryd.prog w = .ok (.enter 41 vals) w) {xs : List TV} {r : TV} (h : xWriteString 5 xs = some r) : CallV Tryd.prog G ⟨63, [.may, .bf 5]⟩ 41 xs r := by
  unfold xWriteString at h
  split at h
  · rename_i x s e' t
    cases hc : x.isMay && e'.beq 5 && (s.size + t.size).ble roomB with
    | false => rw [hc] at h; cases h
    | true =>
      rw [hc] at h
      simp only [cond_true, Option.some.injEq] at h
      simp only [Bool.and_eq_true, Nat.ble_eq] at hc
      obtain ⟨⟨h1, h2⟩, h3⟩ := hc
      subst h
      rw [isMay_is h1, (beq_iff _ _).1 h2]
      refine callV_of (u := .tuple #[.int .i64 t.size, .nilIface]) (fun w I => .tup rfl (fun j c hj => ?_)) henter (fun b p v w I vals hB hsz h0 hargs => ?_)
      · match j, hj with
        | 0, hj => simp at hj; subst hj; exact .lit _
        | 1, hj => simp at hj; subst hj; exact .lit _
      · have := arrX2 (by simpa using hsz) h0 (rep_lit (hargs 0 _ rfl))
        subst this
        refine (WriteString_x hB t (by rw [strCells_length]; exact h3)).mono ?_
        rintro e w' ⟨rfl, v', q1, q2, q3⟩
        exact ⟨rfl, _, v', by rw [strCells_app]; exact q1, q2, q3⟩
  · cases h

theorem xWriteByte_ok (henter : ∀ vals w, (callFunc 42 vals).run Tryd.prog w = .ok (.enter 42 vals) w) {xs : List TV} {r : TV} (h : xWriteByte 5 xs = some r) : CallV Tryd.prog G ⟨63, [.may, .bf 5]⟩ 42 xs r := by
  unfold xWriteByte at h
  split at h
  · rename_i x s e' c
    cases hc : x.isMay && e'.beq 5 && (s.size + 1).ble roomB && decide (0 ≤ c ∧ c < 256) with
    | false => rw [hc] at h; cases h
    | true =>
      rw [hc] at h
      simp only [cond_true, Option.some.injEq] at h
      simp only [Bool.and_eq_true, Nat.ble_eq, decide_eq_true_eq] at hc
      obtain ⟨⟨⟨h1, h2⟩, h3⟩, h4, h5⟩ := hc
      subst h
      rw [isMay_is h1, (beq_iff _ _).1 h2]
      refine callV_of (u := .nilIface) (fun w I => .lit _) henter (fun b p v w I vals hB hsz h0 hargs => ?_)
      have := arrX2 (by simpa using hsz) h0 (rep_lit (hargs 0 _ rfl))
      subst this
      refine (WriteByte_x hB c (by rw [strCells_length]; exact h3)).mono ?_
      rintro e w' ⟨rfl, v', q1, q2, q3⟩
      refine ⟨rfl, .pointer (some ⟨b, 0, none⟩), v', ?_, q2, q3⟩
      rw [strCells_push]
      have : ((c.toNat.toUInt8).toNat : Int) = c := by
        have : c.toNat < 256 := by omega
        simp [Nat.toUInt8, UInt8.toNat_ofNat', Nat.mod_eq_of_lt this]
        omega
      rw [this]
      exact q1
  · cases h

theorem strCells_bytes (s : ByteArray) : strCells s = byteCells s.data.toList := rfl

theorem xString_ok (henter : ∀ vals w, (callFunc 26 vals).run Tryd.prog w = .ok (.enter 26 vals) w) {xs : List TV} {r : TV} (h : xString 5 xs = some r) : CallV Tryd.prog G ⟨63, [.may, .bf 5]⟩ 26 xs r := by
  unfold xString at h
  split at h
  · rename_i x s e'
    cases hc : x.isMay && e'.beq 5 && !(s.size.beq 0) with
    | false => rw [hc] at h; cases h
    | true =>
      rw [hc] at h
      simp only [cond_true, Option.some.injEq] at h
      simp only [Bool.and_eq_true, Bool.not_eq_true'] at hc
      obtain ⟨⟨h1, h2⟩, h3⟩ := hc
      subst h
      rw [isMay_is h1, (beq_iff _ _).1 h2]
      have hne : s.data.toList ≠ [] := fun e => by
        have h4 : s.size = 0 := by
          have h5 := congrArg List.length e
          rw [Array.length_toList] at h5
          exact h5
        rw [h4] at h3
        cases h3
      refine callV_of (u := .string s) (fun w I => .lit _) henter (fun b p v w I vals hB hsz h0 hargs => ?_)
      have := arrX1 (by simpa using hsz) h0
      subst this
      refine (String_x (l := s.data.toList) hB hne).mono ?_
      rintro e w' ⟨rfl, q1, q2⟩
      exact ⟨by simp, _, v, q1, q2, fun k hk => .inl hk⟩
  · cases h

theorem xLen_ok (henter : ∀ vals w, (callFunc 25 vals).run Tryd.prog w = .ok (.enter 25 vals) w) {xs : List TV} {r : TV} (h : xLen 5 xs = some r) : CallV Tryd.prog G ⟨63, [.may, .bf 5]⟩ 25 xs r := by
  unfold xLen at h
  split at h
  · rename_i x s e'
    cases hc : x.isMay && e'.beq 5 with
    | false => rw [hc] at h; cases h
    | true =>
      rw [hc] at h
      simp only [cond_true, Option.some.injEq] at h
      simp only [Bool.and_eq_true] at hc
      obtain ⟨h1, h2⟩ := hc
      subst h
      rw [isMay_is h1, (beq_iff _ _).1 h2]
      refine callV_of (u := .int .i64 s.size) (fun w I => .lit _) henter (fun b p v w I vals hB hsz h0 hargs => ?_)
      have := arrX1 (by simpa using hsz) h0
      subst this
      refine (Len_x hB).mono ?_
      rintro e w' ⟨rfl, rfl⟩
      exact ⟨by rw [strCells_length], p, v, hB, Exact.refl _ _ _, fun k hk => .inl hk⟩
  · cases h

end
end Go.Ab.D5

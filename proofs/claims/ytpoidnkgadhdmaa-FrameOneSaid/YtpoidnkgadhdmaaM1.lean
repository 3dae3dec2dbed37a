/- What the values of the machine over closed values stand for in memory: closed ones, trees of slices that somebody holds, and ways into them. No condition. -/
import Derived.Test.YtpoidnkgadhdmaaM0
import Derived.Below
import Derived.Orders
import Derived.Laws.Cells
import Derived.Laws.OwnMore
import Derived.Laws.CopyOwn
import Derived.Maps.AppendAt
import Derived.Lib.FrozenHead
namespace Go.Ab
open Go.RowKit
set_option linter.unusedVariables false

/-! ### lists -/
theorem nth_eq {α : Type} (d : α) : ∀ (l : List α) (n : Nat), nth d l n = (l[n]?).getD d
  | [], n => by simp [nth]
  | a :: l, 0 => rfl
  | a :: l, n + 1 => by simp [nth, nth_eq d l n]
theorem setNth_eq {α : Type} : ∀ (l : List α) (n : Nat) (b : α), setNth l n b = l.set n b
  | [], n, b => by simp [setNth]
  | a :: l, 0, b => rfl
  | a :: l, n + 1, b => by simp [setNth, setNth_eq l n b]
theorem nth_some {α : Type} {d : α} {l : List α} {n : Nat} {a : α} (h : l[n]? = some a) : nth d l n = a := by rw [nth_eq, h]; rfl
theorem beq_iff (a b : Nat) : a.beq b = true ↔ a = b := ⟨Nat.eq_of_beq_eq_true, fun h => h ▸ Nat.beq_refl a⟩
theorem memB_iff (n : Nat) : ∀ l : List Nat, memB n l = true ↔ n ∈ l
  | [] => by simp [memB]
  | a :: l => by
    cases h : a.beq n
    · have : a ≠ n := fun e => by simp [e] at h
      simp only [memB, h, cond_false, memB_iff n l, List.mem_cons]
      constructor
      · exact .inr
      · rintro (e | e)
        · exact absurd e.symm this
        · exact e
    · simp only [memB, h, cond_true, List.mem_cons, true_iff]
      exact .inl ((beq_iff a n).1 h).symm

theorem add_block (a : Addr) (k : Nat) : (a.add k).block = a.block := by unfold Addr.add; split <;> rfl
theorem add_spot {a : Addr} (h : a.spot = none) (k : Nat) : (a.add k).spot = none := by unfold Addr.add; split <;> simp [h]
theorem add_add (a : Addr) (i j : Nat) : (a.add i).add j = a.add (i + j) := by
  unfold Addr.add
  by_cases hi : i = 0 <;> by_cases hj : j = 0 <;> simp [hi, hj, Nat.add_assoc]
theorem add_lit (b o k : Nat) : (⟨b, o, none⟩ : Addr).add k = ⟨b, o + k, none⟩ := by unfold Addr.add; split <;> simp_all

/-- Some of a list replaced. -/
def spl {α : Type} (l : List α) (o : Nat) (ys : List α) : List α := l.take o ++ ys ++ l.drop (o + ys.length)

theorem spl_len {α : Type} {l ys : List α} {o : Nat} (h : o + ys.length ≤ l.length) : (spl l o ys).length = l.length := by
  simp only [spl, List.length_append, List.length_take, List.length_drop]
  omega
theorem spl_get {α : Type} {l ys : List α} {o : Nat} (h : o + ys.length ≤ l.length) (k : Nat) : (spl l o ys)[k]? = if o ≤ k ∧ k < o + ys.length then ys[k - o]? else l[k]? := by
  have e1 : (l.take o).length = o := by simp; omega
  unfold spl
  by_cases h1 : k < o
  · rw [List.append_assoc, List.getElem?_append_left (by omega), List.getElem?_take, if_pos h1, if_neg (by omega)]
  · by_cases h2 : k < o + ys.length
    · rw [List.append_assoc, List.getElem?_append_right (by omega), e1, List.getElem?_append_left (by omega), if_pos (by omega)]
    · rw [List.getElem?_append_right (by simp; omega), List.getElem?_drop, if_neg (by omega)]
      congr 1
      simp
      omega
theorem spl_nil {α : Type} (l : List α) (o : Nat) : spl l o [] = l := by simp [spl]

theorem setCells_eq {α : Type} : ∀ (ps l : List α) (off : Nat), off + ps.length ≤ l.length → setCells l off ps = spl l off ps
  | [], l, off, h => by simp [setCells, spl]
  | p :: ps, l, off, h => by
    have hlt : off < l.length := by simp at h; omega
    simp only [setCells]
    rw [setNth_eq, setCells_eq ps (l.set off p) (off + 1) (by simp at h ⊢; omega)]
    apply List.ext_getElem?
    intro k
    rw [spl_get (by simp at h ⊢; omega), spl_get h]
    simp only [List.length_cons, List.getElem?_set]
    by_cases h1 : k < off
    · rw [if_neg (by omega), if_neg (by omega), if_neg (by omega)]
    · by_cases h2 : k = off
      · subst h2
        rw [if_neg (by omega), if_pos (by omega)]
        simp [hlt]
      · by_cases h3 : k < off + (ps.length + 1)
        · rw [if_pos (by omega), if_pos (by omega)]
          rw [show k - off = (k - (off + 1)) + 1 by omega, List.getElem?_cons_succ]
        · rw [if_neg (by omega), if_neg (by omega), if_neg (by omega)]

theorem takeN_spec {α : Type} : ∀ (l : List α) (o n : Nat) (r : List α), takeN l o n = some r → r.length = n ∧ (n = 0 ∨ o + n ≤ l.length) ∧ ∀ j, j < n → r[j]? = l[o + j]?
  | l, o, 0, r, h => by cases l <;> simp [takeN] at h <;> subst h <;> simp
  | [], o, n + 1, r, h => by simp [takeN] at h
  | a :: l, 0, n + 1, r, h => by
    simp only [takeN] at h
    cases h1 : takeN l 0 n with
    | none => simp [h1] at h
    | some r' =>
      simp only [h1, Option.some.injEq] at h
      subst h
      obtain ⟨i1, i2, i3⟩ := takeN_spec l 0 n r' h1
      refine ⟨by simp [i1], .inr (by simp; omega), fun j hj => ?_⟩
      cases j with
      | zero => simp
      | succ j => simpa using i3 j (by omega)
  | a :: l, o + 1, n + 1, r, h => by
    simp only [takeN] at h
    obtain ⟨i1, i2, i3⟩ := takeN_spec l o (n + 1) r h
    refine ⟨i1, .inr (by rcases i2 with i2 | i2 <;> simp <;> omega), fun j hj => ?_⟩
    rw [i3 j hj, show o + 1 + j = (o + j) + 1 by omega, List.getElem?_cons_succ]

theorem flat_len {α : Type} {s : Nat} : ∀ {xs : List (List α)}, (∀ x ∈ xs, x.length = s) → xs.flatten.length = xs.length * s
  | [], _ => by simp
  | x :: xs, h => by
    simp only [List.flatten_cons, List.length_append, List.length_cons, h x List.mem_cons_self, flat_len (fun y hy => h y (List.mem_cons_of_mem _ hy)), Nat.add_mul]
    omega
theorem flat_get {α : Type} {s : Nat} : ∀ {xs : List (List α)} {i j : Nat} {x : List α} {c : α}, (∀ x ∈ xs, x.length = s) → xs[i]? = some x → x[j]? = some c → xs.flatten[i * s + j]? = some c
  | x :: xs, 0, j, _, c, h, hi, hj => by
    simp at hi
    subst hi
    rw [List.flatten_cons, List.getElem?_append_left (by simp; exact (List.getElem?_eq_some_iff.1 hj).1)]
    simpa using hj
  | x :: xs, i + 1, j, y, c, h, hi, hj => by
    simp at hi
    have hx := h x List.mem_cons_self
    rw [List.flatten_cons, List.getElem?_append_right (by rw [hx, Nat.add_mul]; omega), hx, show (i + 1) * s + j - s = i * s + j by rw [Nat.add_mul]; omega]
    exact flat_get (fun z hz => h z (List.mem_cons_of_mem _ hz)) hi hj
theorem take_add {α : Type} {x l : List α} {s n : Nat} (h : x.length = s) : (x ++ l).take (s + n) = x ++ l.take n := by
  subst h
  exact List.take_length_add_append n
theorem drop_add {α : Type} {x l : List α} {s n : Nat} (h : x.length = s) : (x ++ l).drop (s + n) = l.drop n := by
  subst h
  exact List.drop_length_add_append n
theorem succ_mul' (n s : Nat) : (n + 1) * s = s + n * s := by rw [Nat.add_mul]; omega
theorem flat_take {α : Type} {s : Nat} : ∀ {xs : List (List α)} (n : Nat), (∀ x ∈ xs, x.length = s) → (xs.take n).flatten = xs.flatten.take (n * s)
  | [], n, _ => by simp
  | x :: xs, 0, _ => by simp
  | x :: xs, n + 1, h => by
    have hx := h x List.mem_cons_self
    rw [List.take_succ_cons, List.flatten_cons, List.flatten_cons, flat_take n (fun z hz => h z (List.mem_cons_of_mem _ hz)), succ_mul', take_add hx]
theorem flat_drop {α : Type} {s : Nat} : ∀ {xs : List (List α)} (n : Nat), (∀ x ∈ xs, x.length = s) → (xs.drop n).flatten = xs.flatten.drop (n * s)
  | [], n, _ => by simp
  | x :: xs, 0, _ => by simp
  | x :: xs, n + 1, h => by
    have hx := h x List.mem_cons_self
    rw [List.drop_succ_cons, List.flatten_cons, flat_drop n (fun z hz => h z (List.mem_cons_of_mem _ hz)), succ_mul', drop_add hx]
theorem flat_set {α : Type} {s : Nat} : ∀ {xs : List (List α)} {i : Nat} {x y : List α}, (∀ x ∈ xs, x.length = s) → xs[i]? = some x → y.length = s → (xs.set i y).flatten = spl xs.flatten (i * s) y
  | x :: xs, 0, _, y, h, hi, hy => by
    simp at hi
    subst hi
    have hx := h x List.mem_cons_self
    simp only [List.set_cons_zero, List.flatten_cons, Nat.zero_mul, spl, List.take_zero, List.nil_append, Nat.zero_add, hy, List.drop_append, hx, Nat.sub_self, List.drop_zero]
    rw [List.drop_of_length_le (by omega), List.nil_append]
  | x :: xs, i + 1, z, y, h, hi, hy => by
    simp at hi
    have hx := h x List.mem_cons_self
    have ih := flat_set (fun z hz => h z (List.mem_cons_of_mem _ hz)) hi hy
    simp only [List.set_cons_succ, List.flatten_cons, ih, spl, succ_mul', take_add hx, hy]
    rw [show s + i * s + s = s + (i * s + s) by omega, drop_add hx]
    simp only [List.append_assoc]
theorem set_all {α : Type} {s : Nat} {xs : List (List α)} {i : Nat} {y : List α} (h : ∀ x ∈ xs, x.length = s) (hy : y.length = s) : ∀ x ∈ xs.set i y, x.length = s := by
  intro x hx
  rcases List.mem_or_eq_of_mem_set hx with h' | h'
  · exact h x h'
  · rw [h']; exact hy
/-- Cells of one element replaced: cells of all of them, one behind the other. -/
theorem flat_spl {α : Type} {s : Nat} {xs : List (List α)} {i j : Nat} {x ys : List α} (h : ∀ x ∈ xs, x.length = s) (hi : xs[i]? = some x) (hj : j + ys.length ≤ x.length) :
    (xs.set i (spl x j ys)).flatten = spl xs.flatten (i * s + j) ys ∧ i * s + j + ys.length ≤ xs.flatten.length := by
  have hx := h x (List.mem_of_getElem? hi)
  have hlt : i < xs.length := (List.getElem?_eq_some_iff.1 hi).1
  have hle : i * s + s ≤ xs.flatten.length := by
    rw [flat_len h]
    have := Nat.mul_le_mul_right s (Nat.succ_le_of_lt hlt)
    rw [Nat.succ_mul] at this
    exact this
  refine ⟨?_, by omega⟩
  rw [flat_set h hi (by rw [spl_len hj, hx])]
  apply List.ext_getElem?
  intro k
  rw [spl_get (l := xs.flatten) (ys := spl x j ys) (by rw [spl_len hj]; omega), spl_get (l := xs.flatten) (ys := ys) (by omega), spl_len hj, hx]
  by_cases h1 : i * s ≤ k ∧ k < i * s + s
  · rw [if_pos h1, spl_get hj]
    by_cases h2 : j ≤ k - i * s ∧ k - i * s < j + ys.length
    · rw [if_pos h2, if_pos (by omega)]
      congr 1
      omega
    · rw [if_neg h2, if_neg (by omega)]
      have hk : k - i * s < x.length := by omega
      have := flat_get h hi (List.getElem?_eq_getElem hk)
      rw [show i * s + (k - i * s) = k by omega] at this
      rw [this, List.getElem?_eq_getElem hk]
  · rw [if_neg h1, if_neg (by omega)]

/-! ### closed values that stand for good -/
/-- A value of memory stands for a closed one, all in blocks of I. -/
inductive Rep (w : World) (I : Nat → Prop) : TV → Value → Prop
  | lit (v : Value) : Rep w I (.lit v) v
  | hole (v : Value) : Rep w I .hole v
  | buf {s : ByteArray} (e : TypeId) (h : s.size = 0) : Rep w I (.buf s e) nilV
  | sl {size : Nat} {xs : List (List TV)} {a : Addr} {cap : Nat} (cell : Nat → Value) (hI : 0 < xs.length → I a.block) (hc : xs.length ≤ cap) (hm : cap ≤ maxLen)
      (hl : ∀ x ∈ xs, x.length = size) (hcell : ∀ k, k < xs.length * size → w.cell? (a.add k) = some (cell k)) (h1 : ∀ k, k < xs.length * size → (cell k).oneCell' = true)
      (hr : ∀ (i : Nat) (x : List TV), xs[i]? = some x → ∀ (j : Nat) (c : TV), x[j]? = some c → Rep w I c (cell (i * size + j))) : Rep w I (.sl false size xs) (.slice (some a) xs.length cap)
  | agg {cs : List TV} {vs : Array Value} (hl : vs.size = cs.length) (h1 : ∀ j, j < vs.size → (vs.getD j undef).oneCell' = true)
      (hr : ∀ (j : Nat) (c : TV), cs[j]? = some c → Rep w I c (vs.getD j undef)) : Rep w I (.agg cs) (.agg vs)
  | tup {cs : List TV} {vs : Array Value} (hl : vs.size = cs.length) (hr : ∀ (j : Nat) (c : TV), cs[j]? = some c → Rep w I c (vs.getD j undef)) : Rep w I (.tup cs) (.tuple vs)

theorem Rep.mv {w w' : World} {I I' : Nat → Prop} (hh : ∀ b, I b → w'.heap[b]? = w.heap[b]?) (hI : ∀ b, I b → I' b) {x : TV} {v : Value} (h : Rep w I x v) : Rep w' I' x v := by
  induction h with
  | lit v => exact .lit v
  | hole v => exact .hole v
  | buf e h => exact .buf e h
  | sl cell i c m l hcell h1 _ ih =>
    exact .sl cell (fun h => hI _ (i h)) c m l (fun k hk => by rw [← hcell k hk]; exact World.cell?_of_block (by rw [add_block]; exact hh _ (i (Nat.pos_of_ne_zero (fun e => by simp [e] at hk))))) h1 ih
  | agg hl h1 _ ih => exact .agg hl h1 ih
  | tup hl _ ih => exact .tup hl ih

/-! ### trees that somebody holds -/
/-- A row of cells that is one's own: where it lies, what stands in it, how much there may be. -/
structure Row (w : World) (a : Addr) (n cap size : Nat) (us : List Value) (vs : Array Value) (ty : TypeId) : Prop where
  heap : w.heap[a.block]? = some (.cells vs ty (0, 0))
  spot : a.spot = none
  le : n ≤ cap
  max : cap ≤ maxLen
  fit : a.off + cap * size ≤ vs.size
  len : us.length = n * size
  cells : ∀ k, k < n * size → vs[a.off + k]? = us[k]?
  one : ∀ u ∈ us, u.oneCell' = true

theorem Row.cell {w : World} {a : Addr} {n cap size : Nat} {us : List Value} {vs : Array Value} {ty : TypeId} (h : Row w a n cap size us vs ty) {k : Nat} {u : Value} (hk : us[k]? = some u) : w.cell? (a.add k) = some u := by
  have hlt : k < n * size := by rw [← h.len]; exact (List.getElem?_eq_some_iff.1 hk).1
  have : a.add k = ⟨a.block, a.off + k, none⟩ := by
    have := h.spot
    obtain ⟨b, o, sp⟩ := a
    simp at this
    subst this
    exact add_lit b o k
  rw [this]
  simp only [World.cell?, h.heap]
  simp only [Option.isSome_none, Bool.false_eq_true, if_false]
  rw [h.cells k hlt, hk]

/-- A value of memory stands for a tree: its own rows in blocks of S, each apart, the rest in blocks of I. -/
inductive RepO (w : World) (I : Nat → Prop) : TV → Value → (Nat → Prop) → Prop
  | fr {x : TV} {v : Value} {S : Nat → Prop} (h : Rep w I x v) : RepO w I x v S
  | sl {size : Nat} {xs : List (List TV)} {a : Addr} {cap : Nat} {S : Nat → Prop} (us : List Value) (vs : Array Value) (ty : TypeId) (F : Nat → Nat → Prop) (hS : S a.block)
      (row : Row w a xs.length cap size us vs ty) (hl : ∀ x ∈ xs, x.length = size) (hr : ∀ (k : Nat) (c : TV), xs.flatten[k]? = some c → RepO w I c (us.getD k undef) (F k))
      (hF : ∀ k b, F k b → S b ∧ b ≠ a.block) (hd : ∀ k k' b, F k b → F k' b → k = k') : RepO w I (.sl true size xs) (.slice (some a) xs.length cap) S
  | agg {cs : List TV} {vs : Array Value} {S : Nat → Prop} (F : Nat → Nat → Prop) (hl : vs.size = cs.length) (h1 : ∀ j, j < vs.size → (vs.getD j undef).oneCell' = true)
      (hr : ∀ (j : Nat) (c : TV), cs[j]? = some c → RepO w I c (vs.getD j undef) (F j)) (hF : ∀ j b, F j b → S b) (hd : ∀ k k' b, F k b → F k' b → k = k') : RepO w I (.agg cs) (.agg vs) S
  | buf {s : ByteArray} {e : TypeId} {v : Value} {S : Nat → Prop} (h : w.ownsRowF 0 e 1 v s.size (Lib.strCells s)) (hS : ∀ b, v.ownBlock = some b → S b) : RepO w I (.buf s e) v S
  | tup {cs : List TV} {vs : Array Value} {S : Nat → Prop} (F : Nat → Nat → Prop) (hl : vs.size = cs.length)
      (hr : ∀ (j : Nat) (c : TV), cs[j]? = some c → RepO w I c (vs.getD j undef) (F j)) (hF : ∀ j b, F j b → S b) (hd : ∀ k k' b, F k b → F k' b → k = k') : RepO w I (.tup cs) (.tuple vs) S

theorem _root_.Go.World.ownsRowF.moved {w w' : World} {base : Nat} {e : TypeId} {size : Nat} {v : Value} {n : Nat} {xs : List Value} (h : w.ownsRowF base e size v n xs) (hh : ∀ b, v.ownBlock = some b → w'.heap[b]? = w.heap[b]?) : w'.ownsRowF base e size v n xs := by
  refine ⟨h.1, ?_⟩
  rcases h.2 with hn | ⟨g, cap, cur, fz, rfl, hb, hgg, rest⟩
  · exact .inl hn
  · exact .inr ⟨g, cap, cur, fz, rfl, hb, by rw [hh g rfl]; exact hgg, rest⟩
theorem RepO.mv {w w' : World} {I I' : Nat → Prop} (hI : ∀ b, I b → w'.heap[b]? = w.heap[b]?) (hs : ∀ b, I b → I' b) {x : TV} {v : Value} {S : Nat → Prop} (h : RepO w I x v S) :
    ∀ {S' : Nat → Prop}, (∀ b, S b → w'.heap[b]? = w.heap[b]?) → (∀ b, S b → S' b) → RepO w' I' x v S' := by
  induction h with
  | fr h => intro S' _ _; exact .fr (h.mv hI hs)
  | @sl size xs a cap S us vs ty F hS row hl hr hF hd ih =>
    intro S' hh hSS
    exact .sl us vs ty F (hSS _ hS) ⟨by rw [hh _ hS]; exact row.heap, row.spot, row.le, row.max, row.fit, row.len, row.cells, row.one⟩ hl (fun k c hk => ih k c hk (fun b hb => hh b (hF k b hb).1) (fun b hb => hb))
      (fun k b hb => ⟨hSS b (hF k b hb).1, (hF k b hb).2⟩) hd
  | @buf s e v S h hS =>
    intro S' hh hSS
    exact .buf (h.moved (fun b hb => hh b (hS b hb))) (fun b hb => hSS b (hS b hb))
  | @agg cs vs S F hl h1 hr hF hd ih =>
    intro S' hh hSS
    exact .agg F hl h1 (fun k c hk => ih k c hk (fun b hb => hh b (hF k b hb)) (fun b hb => hb)) (fun k b hb => hSS b (hF k b hb)) hd
  | @tup cs vs S F hl hr hF hd ih =>
    intro S' hh hSS
    exact .tup F hl (fun k c hk => ih k c hk (fun b hb => hh b (hF k b hb)) (fun b hb => hb)) (fun k b hb => hSS b (hF k b hb)) hd

theorem RepO.mono {w : World} {I : Nat → Prop} {x : TV} {v : Value} {S S' : Nat → Prop} (h : RepO w I x v S) (hS : ∀ b, S b → S' b) : RepO w I x v S' :=
  h.mv (fun _ _ => rfl) (fun _ h => h) (fun _ _ => rfl) hS

/-- The blocks of what is held are there. -/
theorem RepO.lits {w : World} {I : Nat → Prop} {v : Value} {S : Nat → Prop} : RepO w I (.lit v) v S := .fr (.lit v)

theorem rep_lit {w : World} {I : Nat → Prop} {v u : Value} (h : Rep w I (.lit v) u) : u = v := by cases h; rfl
theorem repO_lit {w : World} {I : Nat → Prop} {v u : Value} {S : Nat → Prop} (h : RepO w I (.lit v) u S) : u = v := by cases h with | fr h => exact rep_lit h
theorem repO_frz {w : World} {I : Nat → Prop} {s : Nat} {xs : List (List TV)} {u : Value} {S : Nat → Prop} (h : RepO w I (.sl false s xs) u S) : Rep w I (.sl false s xs) u := by cases h with | fr h => exact h
theorem repO_sl {w : World} {I : Nat → Prop} {o : Bool} {s : Nat} {xs : List (List TV)} {u : Value} {S : Nat → Prop} (h : RepO w I (.sl o s xs) u S) : ∃ a cap, u = .slice (some a) xs.length cap := by
  cases h with
  | fr h => cases h; exact ⟨_, _, rfl⟩
  | sl => exact ⟨_, _, rfl⟩
theorem repO_isSl {w : World} {I : Nat → Prop} {x : TV} {u : Value} {S : Nat → Prop} (h : RepO w I x u S) (hx : x.isSl = true) : ∃ a n cap, u = .slice a n cap := by
  cases x with
  | lit v =>
    have := repO_lit h
    subst this
    cases u <;> simp [TV.isSl, isSlV] at hx ⊢
  | sl o s xs => obtain ⟨a, cap, rfl⟩ := repO_sl h; exact ⟨_, _, _, rfl⟩
  | _ => simp [TV.isSl] at hx
theorem scV_one {v : Value} (h : scV v = true) : v.oneCell' = true := by cases v <;> first | rfl | simp [scV] at h
theorem repO_isSc {w : World} {I : Nat → Prop} {x : TV} {u : Value} {S : Nat → Prop} (h : RepO w I x u S) (hx : x.isSc = true) : x = .lit u ∧ scV u = true := by
  cases x with
  | lit v =>
    have := repO_lit h
    subst this
    exact ⟨rfl, hx⟩
  | _ => simp [TV.isSc] at hx
theorem repO_lf {w : World} {I : Nat → Prop} {x : TV} {u : Value} {S : Nat → Prop} (h : RepO w I x u S) : Rep w I x.lf u := by
  cases x with
  | lit v => have := repO_lit h; subst this; exact .lit _
  | _ => exact .hole _

/-! ### what stands for good -/
theorem frzL_eq : ∀ l : List TV, frzL l = l.map frz
  | [] => rfl
  | x :: l => by simp [frzL, frzL_eq l]
theorem frzLL_eq : ∀ l : List (List TV), frzLL l = l.map fun x => x.map frz
  | [] => rfl
  | x :: l => by simp [frzLL, frzLL_eq l, frzL_eq]
theorem lfL_eq : ∀ l : List TV, lfL l = l.map TV.lf
  | [] => rfl
  | x :: l => by simp [lfL, lfL_eq l]
theorem lfLL_eq : ∀ l : List (List TV), lfLL l = l.map fun x => x.map TV.lf
  | [] => rfl
  | x :: l => by simp [lfLL, lfLL_eq l, lfL_eq]

theorem Rep.frz {w : World} {I : Nat → Prop} {x : TV} {v : Value} (h : Rep w I x v) : Rep w I (frz x) v := by
  induction h with
  | lit v => exact .lit v
  | hole v => exact .hole v
  | buf e h => exact .hole _
  | @sl size xs a cap cell hI hc hm hl hcell h1 _ ih =>
    simp only [Ab.frz, frzLL_eq]
    have hlen : (xs.map fun x => x.map Ab.frz).length = xs.length := by simp
    have key : Rep w I (.sl false size (xs.map fun x => x.map Ab.frz)) (.slice (some a) (xs.map fun x => x.map Ab.frz).length cap) := by
      refine .sl cell (by rw [hlen]; exact hI) (by rw [hlen]; exact hc) hm (fun x hx => ?_) (by rw [hlen]; exact hcell) (by rw [hlen]; exact h1) (fun i y hy j c hj => ?_)
      · obtain ⟨y, hy, rfl⟩ := List.mem_map.1 hx
        simpa using hl y hy
      · rw [List.getElem?_map] at hy
        cases hxi : xs[i]? with
        | none => simp [hxi] at hy
        | some x =>
          simp only [hxi, Option.map_some, Option.some.injEq] at hy
          subst hy
          rw [List.getElem?_map] at hj
          cases hxj : x[j]? with
          | none => simp [hxj] at hj
          | some c' =>
            simp only [hxj, Option.map_some, Option.some.injEq] at hj
            subst hj
            exact ih i x hxi j c' hxj
    rwa [hlen] at key
  | @agg cs vs hl h1 _ ih =>
    simp only [Ab.frz, frzL_eq]
    refine .agg (by simpa using hl) h1 (fun j c hj => ?_)
    rw [List.getElem?_map] at hj
    cases hxj : cs[j]? with
    | none => simp [hxj] at hj
    | some c' => simp only [hxj, Option.map_some, Option.some.injEq] at hj; subst hj; exact ih j c' hxj
  | @tup cs vs hl _ ih =>
    simp only [Ab.frz, frzL_eq]
    refine .tup (by simpa using hl) (fun j c hj => ?_)
    rw [List.getElem?_map] at hj
    cases hxj : cs[j]? with
    | none => simp [hxj] at hj
    | some c' => simp only [hxj, Option.map_some, Option.some.injEq] at hj; subst hj; exact ih j c' hxj

/-- A tree is closed for good. -/
theorem RepO.frz {w : World} {I I' : Nat → Prop} (hI : ∀ b, I b → I' b) {x : TV} {v : Value} {S : Nat → Prop} (h : RepO w I x v S) : (∀ b, S b → I' b) → Rep w I' (frz x) v := by
  induction h with
  | fr h => intro _; exact (h.mv (fun _ _ => rfl) hI).frz
  | buf _ _ => intro _; exact .hole _
  | @sl size xs a cap S us vs ty F hS row hl hr hF hd ih =>
    intro hSI
    simp only [Ab.frz, frzLL_eq]
    have hlen : (xs.map fun x => x.map Ab.frz).length = xs.length := by simp
    have key : Rep w I' (.sl false size (xs.map fun x => x.map Ab.frz)) (.slice (some a) (xs.map fun x => x.map Ab.frz).length cap) := by
      refine .sl (fun k => us.getD k undef) (fun _ => hSI _ hS) (by rw [hlen]; exact row.le) row.max (fun x hx => ?_) (fun k hk => ?_) (fun k hk => ?_) (fun i y hy j c hj => ?_)
      · obtain ⟨y, hy, rfl⟩ := List.mem_map.1 hx
        simpa using hl y hy
      · rw [hlen] at hk
        have : k < us.length := by rw [row.len]; exact hk
        exact row.cell (by simp [List.getElem?_eq_getElem this])
      · rw [hlen] at hk
        have : k < us.length := by rw [row.len]; exact hk
        simp only [List.getD_eq_getElem?_getD, List.getElem?_eq_getElem this, Option.getD_some]
        exact row.one _ (List.getElem_mem this)
      · rw [List.getElem?_map] at hy
        cases hxi : xs[i]? with
        | none => simp [hxi] at hy
        | some x =>
          simp only [hxi, Option.map_some, Option.some.injEq] at hy
          subst hy
          rw [List.getElem?_map] at hj
          cases hxj : x[j]? with
          | none => simp [hxj] at hj
          | some c' =>
            simp only [hxj, Option.map_some, Option.some.injEq] at hj
            subst hj
            exact ih _ c' (flat_get hl hxi hxj) (fun b hb => hSI b (hF _ b hb).1)
    rwa [hlen] at key
  | @agg cs vs S F hl h1 hr hF hd ih =>
    intro hSI
    simp only [Ab.frz, frzL_eq]
    refine .agg (by simpa using hl) h1 (fun j c hj => ?_)
    rw [List.getElem?_map] at hj
    cases hxj : cs[j]? with
    | none => simp [hxj] at hj
    | some c' => simp only [hxj, Option.map_some, Option.some.injEq] at hj; subst hj; exact ih j c' hxj (fun b hb => hSI b (hF j b hb))
  | @tup cs vs S F hl hr hF hd ih =>
    intro hSI
    simp only [Ab.frz, frzL_eq]
    refine .tup (by simpa using hl) (fun j c hj => ?_)
    rw [List.getElem?_map] at hj
    cases hxj : cs[j]? with
    | none => simp [hxj] at hj
    | some c' => simp only [hxj, Option.map_some, Option.some.injEq] at hj; subst hj; exact ih j c' hxj (fun b hb => hSI b (hF j b hb))

theorem isOwnL_mem : ∀ {l : List TV}, isOwnL l = true → ∀ x ∈ l, isOwn x = true
  | [], _, x, hx => by simp at hx
  | y :: l, h, x, hx => by
    simp only [isOwnL, Bool.and_eq_true] at h
    rcases List.mem_cons.1 hx with rfl | hx
    · exact h.1
    · exact isOwnL_mem h.2 x hx
theorem isOwnLL_mem : ∀ {l : List (List TV)}, isOwnLL l = true → ∀ x ∈ l, isOwnL x = true
  | [], _, x, hx => by simp at hx
  | y :: l, h, x, hx => by
    simp only [isOwnLL, Bool.and_eq_true] at h
    rcases List.mem_cons.1 hx with rfl | hx
    · exact h.1
    · exact isOwnLL_mem h.2 x hx

/-- What is its holder's own in all hangs on nothing that stands for good. -/
theorem Rep.own {w : World} {I I' : Nat → Prop} {x : TV} {v : Value} (h : Rep w I x v) : isOwn x = true → Rep w I' x v := by
  induction h with
  | lit v => intro _; exact .lit v
  | hole v => intro _; exact .hole v
  | buf e h => intro _; exact .buf e h
  | sl => intro h; simp [isOwn] at h
  | @agg cs vs hl h1 _ ih => intro h; simp only [isOwn] at h; exact .agg hl h1 (fun j c hj => ih j c hj (isOwnL_mem h c (List.mem_of_getElem? hj)))
  | @tup cs vs hl _ ih => intro h; simp only [isOwn] at h; exact .tup hl (fun j c hj => ih j c hj (isOwnL_mem h c (List.mem_of_getElem? hj)))
theorem RepO.own {w : World} {I I' : Nat → Prop} {x : TV} {v : Value} {S : Nat → Prop} (h : RepO w I x v S) : isOwn x = true → RepO w I' x v S := by
  induction h with
  | fr h => intro ho; exact .fr (h.own ho)
  | buf h hS => intro _; exact .buf h hS
  | @sl size xs a cap S us vs ty F hS row hl hr hF hd ih =>
    intro ho
    simp only [isOwn, Bool.true_and] at ho
    refine .sl us vs ty F hS row hl (fun k c hk => ih k c hk ?_) hF hd
    obtain ⟨x, hx, hc⟩ := List.mem_flatten.1 (List.mem_of_getElem? hk)
    exact isOwnL_mem (isOwnLL_mem ho x hx) c hc
  | @agg cs vs S F hl h1 hr hF hd ih => intro ho; simp only [isOwn] at ho; exact .agg F hl h1 (fun j c hj => ih j c hj (isOwnL_mem ho c (List.mem_of_getElem? hj))) hF hd
  | @tup cs vs S F hl hr hF hd ih => intro ho; simp only [isOwn] at ho; exact .tup F hl (fun j c hj => ih j c hj (isOwnL_mem ho c (List.mem_of_getElem? hj))) hF hd
end Go.Ab

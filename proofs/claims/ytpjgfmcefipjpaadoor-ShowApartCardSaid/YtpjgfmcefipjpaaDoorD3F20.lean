
/- What the functions of layer 3 answer: a module's text. No condition. -/
import Derived.Test.YtpjgfmcefipjpaaDoorD3F6
import Derived.Lib.ItoaLen
set_option linter.unusedVariables false
set_option maxRecDepth 10000
namespace Go.Ab
abbrev S (l : List UInt8) : TV := .lit (.string ⟨⟨l⟩⟩)
abbrev bufL (l : List UInt8) : TV := .buf ⟨⟨l⟩⟩ 5
def numT (n : Int) : List UInt8 := 32 :: Lib.itoa n
def lineT (w : List UInt8) (ns : List Int) : List UInt8 := w ++ ns.flatMap numT
def insT (x : DIns) : List UInt8 :=
  if x.op = 1 then lineT [99, 111, 110, 115, 116] [x.dst, x.k] else if x.op = 2 then lineT [99, 111, 112, 121] [x.dst, x.a] else if x.op = 3 then lineT [97, 100, 100] [x.dst, x.a, x.b]
  else if x.op = 4 then lineT [115, 117, 98] [x.dst, x.a, x.b] else if x.op = 5 then lineT [109, 117, 108] [x.dst, x.a, x.b] else if x.op = 6 then lineT [100, 105, 118] [x.dst, x.a, x.b]
  else if x.op = 7 then lineT [101, 113] [x.dst, x.a, x.b] else if x.op = 8 then lineT [108, 116] [x.dst, x.a, x.b] else if x.op = 9 then lineT [108, 111, 97, 100] [x.dst, x.a]
  else if x.op = 10 then lineT [115, 116, 111, 114, 101] [x.a, x.b] else if x.op = 11 then lineT [99, 97, 108, 108] ([x.dst, x.f] ++ x.args) else if x.op = 12 then lineT [111, 117, 116] [x.a]
  else if x.op = 13 then lineT [105, 110] [x.dst] else []
def endT (x : DEnd) : List UInt8 :=
  if x.kind = 1 then lineT [114, 101, 116] [x.a] else if x.kind = 2 then lineT [106, 117, 109, 112] [x.to] else if x.kind = 3 then lineT [98, 114, 97, 110, 99, 104] [x.a, x.to, x.els]
  else if x.kind = 4 then lineT [105, 110, 118, 111, 107, 101] ([x.dst, x.f, x.to, x.pad] ++ x.args) else if x.kind = 5 then lineT [116, 104, 114, 111, 119] [x.a]
  else if x.kind = 6 then lineT [114, 101, 115, 117, 109, 101] [] else []
def padT (p : DPad) : List UInt8 :=
  lineT [112, 97, 100] [p.dst] ++ (if 0 < p.catches.length then 32 :: lineT [99, 97, 116, 99, 104] p.catches else []) ++ (bif p.all then [32, 97, 108, 108] else []) ++ (bif p.cleanup then [32, 99, 108, 101, 97, 110, 117, 112] else [])
def headT (b : DBlock) : List UInt8 := bif b.landing then padT b.pad else lineT [98, 108, 111, 99, 107] []
def blockT (b : DBlock) : List UInt8 := headT b ++ [10] ++ b.ins.flatMap (fun x => insT x ++ [10]) ++ endT b.fin ++ [10]
def funcT (f : DFunc) : List UInt8 := lineT [102, 117, 110, 99] [f.params, f.regs] ++ [10] ++ f.blocks.flatMap blockT
def modT (m : DMod) : List UInt8 := m.funcs.flatMap funcT

theorem buf_app (a b : List UInt8) : (⟨⟨a⟩⟩ : ByteArray) ++ ⟨⟨b⟩⟩ = ⟨⟨a ++ b⟩⟩ := by
  apply ByteArray.ext
  simp [ByteArray.data_append]
theorem buf_size (a : List UInt8) : (⟨⟨a⟩⟩ : ByteArray).size = a.length := rfl
theorem buf_push (a : List UInt8) (c : UInt8) : (⟨⟨a⟩⟩ : ByteArray).push c = ⟨⟨a ++ [c]⟩⟩ := by
  apply ByteArray.ext
  simp [ByteArray.data_push]
theorem rints {l : List Int} (h : ∀ n, n ∈ l → inI n) (hl : l.length ≤ 100) : RInts (some false) (.sl false 1 (l.map fun n => [I n])) l := by
  refine .sl (by simp) ?_ (by simp; omega)
  clear hl
  induction l with
  | nil => exact .nil
  | cons a l ih => exact .cons ⟨rfl, h a (by simp)⟩ (ih fun n hn => h n (by simp [hn]))
theorem RL.setAt' {α : Type} {s : Nat} {R : List TV → α → Prop} {y : TV} {l : List α} (hy : RL (some true) s R y l) {i : Nat} {e : List TV} (he : Go.Ab.pel y i = some e) {d : Nat} {ys : List TV} {a : α} (hR : R (setCells e d ys) a) : ∃ y', setC [] y i d ys = some y' ∧ RL (some true) s R y' (l.set i a) := by
  rcases hy with ⟨rfl, rfl⟩ | ⟨o, xs, rfl, hq, hf, hb⟩
  · simp [Go.Ab.pel] at he
  · have : o = true := hq true rfl
    subst this
    have hk : xs[i]? = some e := he
    refine ⟨.sl true s (setNth xs i (setCells e d ys)), by simp only [setC, getP, setEl, hk, setP], .sl (by simp) (hf.set hR) (by rw [setNth_len]; exact hb)⟩
theorem pconv_w {a : Int} (ha : inW a) : pconv (.int .i64) (W a) = some (I a) := by
  simp only [pconv]
  rw [IntWalk.i64_in _ (by obtain ⟨_, _⟩ := ha; constructor <;> omega)]
theorem numT_len {n : Int} (h : inI n) : (numT n).length ≤ 22 := by
  have := Lib.itoa_length_le n h.1 h.2
  simp [numT]; omega
theorem textFlat_len {α : Type} {g : α → List UInt8} {c : Nat} : ∀ {l : List α}, (∀ x, x ∈ l → (g x).length ≤ c) → (l.flatMap g).length ≤ c * l.length
  | [], _ => by simp
  | a :: l, h => by
    have h1 := h a (by simp)
    have h2 := textFlat_len (g := g) (c := c) (l := l) fun x hx => h x (by simp [hx])
    simp only [List.flatMap_cons, List.length_append, List.length_cons, Nat.mul_succ]
    omega
theorem lineT_len {w : List UInt8} {ns : List Int} (h : ∀ n, n ∈ ns → inI n) : (lineT w ns).length ≤ w.length + 22 * ns.length := by
  have := textFlat_len (g := numT) (c := 22) (l := ns) fun n hn => numT_len (h n hn)
  simp only [lineT, List.length_append]; omega
theorem F2.memR {α : Type} {R : List TV → α → Prop} {xs : List (List TV)} {l : List α} (h : F2 R xs l) : ∀ a, a ∈ l → ∃ e, R e a := by
  intro a ha
  obtain ⟨i, hi⟩ := List.mem_iff_getElem?.1 ha
  obtain ⟨e, _, he⟩ := h.get hi
  exact ⟨e, he⟩
theorem RL.memR {α : Type} {q : Option Bool} {s : Nat} {R : List TV → α → Prop} {x : TV} {l : List α} (h : RL q s R x l) : ∀ a, a ∈ l → ∃ e, R e a := by
  rcases h with ⟨rfl, rfl⟩ | ⟨o, xs, rfl, hq, h, _⟩
  · simp
  · exact h.memR
theorem RInts.inI {q : Option Bool} {x : TV} {l : List Int} (h : RInts q x l) : ∀ n, n ∈ l → inI n := fun n hn => by
  obtain ⟨e, _, h⟩ := RL.memR h n hn
  exact h
end Go.Ab
namespace Go.Ab.D3
open Go Go.Ab Go.Proofs
theorem e_ws {s t : List UInt8} (h : s.length + t.length ≤ roomB) : Runs prog 46 [.tup [.tup [], bufL s], S t] (.tup [.tup [I t.length, .lit .nilIface], .tup [.tup [], bufL (s ++ t)]]) := by
  refine Runs.ext (g := xWriteString 5) rfl ?_
  have h1 : Nat.ble (s.length + t.length) roomB = true := by rw [Nat.ble_eq]; exact h
  simp [xWriteString, TV.isMay, mayT, buf_size, buf_app, h1]
theorem e_wb {s : List UInt8} (c : Int) (hc : 0 ≤ c ∧ c < 256) (h : s.length + 1 ≤ roomB) : Runs prog 47 [.tup [.tup [], bufL s], .lit (.int .u8 c)] (.tup [.lit .nilIface, .tup [.tup [], bufL (s ++ [c.toNat.toUInt8])]]) := by
  refine Runs.ext (g := xWriteByte 5) rfl ?_
  have h1 : Nat.ble (s.length + 1) roomB = true := by rw [Nat.ble_eq]; exact h
  simp [xWriteByte, TV.isMay, mayT, buf_size, buf_push, h1, hc]
theorem e_str {s : List UInt8} (h : s ≠ []) : Runs prog 29 [.tup [.tup [], bufL s]] (.tup [S s, .tup [.tup [], bufL s]]) := by
  refine Runs.ext (g := xString 5) rfl ?_
  have h1 : s.length ≠ 0 := fun h' => h (List.length_eq_zero_iff.1 h')
  simp [xString, TV.isMay, mayT, buf_size]
  cases s <;> simp_all [Nat.beq]
theorem e_len {s : List UInt8} : Runs prog 28 [.tup [.tup [], bufL s]] (.tup [I s.length, .tup [.tup [], bufL s]]) := by
  refine Runs.ext (g := xLen 5) rfl ?_
  simp [xLen, TV.isMay, mayT, buf_size]
theorem e_itoa {n : Int} (h : inI n) : Runs prog 48 [I n] (S (Lib.itoa n)) := by
  refine Runs.ext (g := xItoa) rfl ?_
  have := h.1; have := h.2
  simp [xItoa, *]

theorem put_runs {s t : List UInt8} (h : s.length + t.length + 1 ≤ roomB) : Runs prog 25 [.tup [.tup [], bufL s], S t] (.tup [.tup [], .tup [.tup [], bufL (s ++ t ++ [10])]]) := by
  refine Runs.of (f25_MR _ _) ?_
  unfold f25_M
  refine Goes.chk rfl (Goes.chk rfl (Goes.call (e_ws (by omega)) (Goes.chk rfl (Goes.chk rfl (Goes.chk rfl (Goes.chk rfl (Goes.chk rfl (Goes.call (e_wb 10 (by omega) (by simp; omega)) (Goes.chk rfl (Goes.chk rfl Goes.ret))))))))))

theorem line_loop {q : Option Bool} {x : TV} {ns : List Int} (hx : RInts q x ns) : ∀ d k (y : TV) (acc : List UInt8), k + d = ns.length → acc ≠ [] → (acc ++ (ns.drop k).flatMap numT).length ≤ roomB →
    Goes prog 26 (f26_0 x (I ns.length) (I k) y (bufL acc)) (S (acc ++ (ns.drop k).flatMap numT)) := by
  intro d
  induction d with
  | zero =>
    intro k y acc hk hne hb
    have hk : k = ns.length := by omega
    subst hk
    unfold f26_0
    refine Goes.tv rfl (Goes.ite asB_end (fun h => nomatch h) fun _ => ?_)
    simp only [List.drop_length, List.flatMap_nil, List.append_nil]
    exact Goes.chk rfl (Goes.call (e_str hne) (Goes.chk rfl (Goes.chk rfl Goes.ret)))
  | succ d ih =>
    intro k y acc hk hne hb
    have hkl : k < ns.length := by omega
    have ha : ns[k]? = some ns[k] := List.getElem?_eq_getElem hkl
    rw [List.drop_eq_getElem_cons hkl, List.flatMap_cons] at hb ⊢
    obtain ⟨e, he, hr⟩ := hx.idx (k := .i64) ha
    generalize ns[k] = n at *
    obtain ⟨rfl, hn⟩ := hr
    have hb2 : acc.length + (1 + (Lib.itoa n).length) ≤ roomB := by simp [numT] at hb; omega
    unfold f26_0
    refine Goes.tv rfl (Goes.ite (asB_lt hkl) (fun _ => ?_) fun h => nomatch h)
    refine Goes.tvs he (Goes.chk rfl (Goes.chk rfl (Goes.call (e_wb 32 (by omega) (by omega)) (Goes.chk rfl (Goes.chk rfl (Goes.call (e_itoa hn) (Goes.chk rfl (Goes.chk rfl (Goes.call (e_ws (by simp; omega)) (Goes.chk rfl (Goes.chk rfl (Goes.chk rfl (Goes.chk rfl (Goes.tv (inc hkl hx.bnd) ?_))))))))))))))
    have := ih (k + 1) .hole (acc ++ numT n) (by omega) (by simp [hne]) (by simpa using hb)
    rw [← List.append_assoc]
    refine Goes.jmp (f26_0_R _ _ _ _ _) ?_
    have e : acc ++ [(32 : Int).toNat.toUInt8] ++ Lib.itoa n = acc ++ numT n := by simp [numT]
    show Goes prog _ (f26_0 x (I ns.length) (I ((k + 1 : Nat) : Int)) .hole (bufL (acc ++ [(32 : Int).toNat.toUInt8] ++ Lib.itoa n))) _
    rw [e]; exact this
theorem line_runs {q : Option Bool} {x : TV} {ns : List Int} (w : List UInt8) (hx : RInts q x ns) (hw : w ≠ []) (hb : w.length + 22 * ns.length ≤ 1000) : Runs prog 26 [S w, x] (S (lineT w ns)) := by
  have hlen := lineT_len (w := w) hx.inI
  refine Runs.of (f26_MR _ _) ?_
  unfold f26_M
  refine Goes.chk rfl (Goes.call (e_ws (s := []) (by simp [roomB]; omega)) (Goes.chk rfl (Goes.chk rfl (Goes.chk rfl (Goes.chk rfl (Goes.tv hx.len ?_))))))
  exact Goes.jmp (f26_0_R _ _ _ _ _) (line_loop hx ns.length 0 _ w (by omega) hw (by simp [lineT] at hlen ⊢; simp [roomB]; omega))
theorem lineL {l : List Int} (w : List UInt8) (h : ∀ n, n ∈ l → inI n) (hw : w ≠ []) (hb : w.length + 22 * l.length ≤ 1000) : Runs prog 26 [S w, .sl false 1 (l.map fun n => [I n])] (S (lineT w l)) :=
  line_runs w (rints h (by omega)) hw hb
theorem line0 (w : List UInt8) (hw : w ≠ []) (hb : w.length ≤ 100) : Runs prog 26 [S w, .lit (.slice none 0 0)] (S (lineT w [])) :=
  line_runs w (q := none) (.nil) hw (by simp; omega)

theorem behind_runs {q q' : Option Bool} {x y : TV} {l m : List Int} (hx : RInts q x l) (hy : RInts q' y m) (hl : l.length + m.length ≤ 1000) : ∃ v, Runs prog 32 [x, y] v ∧ RInts (some true) v (m ++ l) := by
  obtain ⟨xs, hxs, hfx⟩ := hx.elems
  obtain ⟨ys, hys, hfy⟩ := hy.elems
  have h1 := hfx.length
  have h2 := hfy.length
  refine ⟨.sl true 1 (ys ++ xs), Runs.of (f32_MR _ _) ?_, .sl (by simp) (hfy.append hfx) (by simp; omega)⟩
  unfold f32_M
  refine Goes.tv hy.len (Goes.tv hx.len (Goes.tv (padd (by constructor <;> omega)) (Goes.nat rfl (Goes.nat (v := m.length + l.length) (by simp [asNat]; omega) (Goes.chk ?_ ?_)))))
  · simp only [Bool.and_eq_true, Nat.ble_eq]; omega
  · refine Goes.rws hys (Goes.tv (v := .sl true 1 ys) (by simp [papp, room]; omega) (Goes.rws hxs (Goes.tv (v := .sl true 1 (ys ++ xs)) (by simp [papp, room]; omega) (Goes.chk ?_ Goes.ret))))
    exact (RL.sl (q := some true) (by simp) (hfy.append hfx) (by simp; omega) : RInts (some true) _ (m ++ l)).own fun _ _ h => by obtain ⟨rfl, _⟩ := h; rfl
theorem wide_runs {q : Option Bool} {x : TV} {l : List Int} (hx : RWords q x l) (hl : l.length ≤ 1000) : ∃ v, Runs prog 34 [x] v ∧ RInts (some true) v l := by
  have loop : ∀ d k (m : List Int) (v : TV), k + d = l.length → m.length = l.length → m.take k = l.take k → RInts (some true) v m → ∃ v', Goes prog 34 (f34_0 x (I l.length) (I k) v) v' ∧ RInts (some true) v' l := by
    intro d
    induction d with
    | zero =>
      intro k m v hk hm ht hv
      have hk : k = l.length := by omega
      subst hk
      have : m = l := by rw [List.take_of_length_le (by omega), List.take_of_length_le (by omega)] at ht; exact ht
      subst this
      refine ⟨v, ?_, hv⟩
      unfold f34_0
      refine Goes.tv rfl (Goes.ite asB_end (fun h => nomatch h) fun _ => ?_)
      exact Goes.chk (hv.own fun _ _ h => by obtain ⟨rfl, _⟩ := h; rfl) Goes.ret
    | succ d ih =>
      intro k m v hk hm ht hv
      have hkl : k < l.length := by omega
      have ha : l[k]? = some l[k] := List.getElem?_eq_getElem hkl
      obtain ⟨e, he, hr⟩ := hx.idx (k := .i64) ha
      have hmk : m[k]? = some m[k] := List.getElem?_eq_getElem (by omega)
      obtain ⟨e', he', hr'⟩ := hv.pel hmk
      obtain ⟨rfl, hn⟩ := hr
      obtain ⟨rfl, _⟩ := hr'
      obtain ⟨v', hv', hv2⟩ := hv.setAt' he' (d := 0) (ys := [I l[k]]) (a := l[k]) ⟨rfl, by obtain ⟨_, _⟩ := hn; constructor <;> omega⟩
      obtain ⟨z, hz, hz2⟩ := ih (k + 1) (m.set k l[k]) v' (by omega) (by simpa using hm) (by
        rw [List.take_add_one, List.take_add_one, List.take_set_of_le (by omega), ht, List.getElem?_set_self (by omega), ha]) hv2
      refine ⟨z, ?_, hz2⟩
      unfold f34_0
      refine Goes.tv rfl (Goes.ite (asB_lt hkl) (fun _ => ?_) fun h => nomatch h)
      refine Goes.tvs he (Goes.chk rfl (Goes.tv (pconv_w hn) (Goes.nat hv.slLen (Goes.nat (v := k) (by simp [asNat]; omega) (Goes.chk ?_ (Goes.tvs he' (Goes.chk rfl (Goes.tv hv' (Goes.tv (inc hkl hx.bnd) (Goes.jmp (f34_0_R _ _ _ _) hz))))))))))
      rw [hv.slSize]
      simp only [Bool.true_and, Nat.blt_eq]
      omega
  obtain ⟨v, h1, h2⟩ := loop l.length 0 (List.replicate l.length 0) (.sl true 1 (List.replicate l.length [I 0])) (by omega) (by simp) (by simp) (.sl (by simp) (by
    generalize l.length = n
    induction n with
    | zero => exact .nil
    | succ n ih => exact .cons ⟨rfl, by constructor <;> omega⟩ ih) (by simp; omega))
  refine ⟨v, Runs.of (f34_MR _) ?_, h2⟩
  unfold f34_M
  refine Goes.tv hx.len (Goes.nat (v := l.length) (by simp [asNat]; omega) (Goes.nat (v := l.length) (by simp [asNat]; omega) (Goes.chk ?_ (Goes.tv hx.len (Goes.jmp (f34_0_R _ _ _ _) h1)))))
  simp only [Bool.and_eq_true, Nat.ble_eq]; omega
end Go.Ab.D3

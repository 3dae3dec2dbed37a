
/- What the functions of layer 3 answer: a module's text. No condition. -/
import Derived.Test.YteppgaecdkkkeaaDoorD5F6
import Derived.Lib.ItoaLen
set_option linter.unusedVariables false
set_option maxRecDepth 10000
namespace Go.Ab
abbrev S (l : List UInt8) : TV := .lit (.string ⟨⟨l⟩⟩)
abbrev bufL (l : List UInt8) : TV := .buf ⟨⟨l⟩⟩ 5
def numT (n : Int) : List UInt8 := 32 :: Lib.itoa n
def lineT (w : List UInt8) (ns : List Int) : List UInt8 := w ++ ns.flatMap numT
def insT (x : DIns) : List UInt8 :=
  if x.op = 1 then lineT [99, 111, 110, 115, 116] [x.dst, x.k] else if x.op = 2 then lineT [99, 111, 112, 121] [x.dst, x.a] else if x.op = 3 then lineT [97, 100, 100] [x.dst, x.a, x.b]
  else if x.op = 4 then lineT [115, 117, 98] [x.dst, x.a, x.b] else if x.op = 5 then lineT [109, 117, 108] [x.dst, x.a, x.b] else if x.op = 6 then lineT [100, 105, 118] [x.dst, x.a, x.b]
  else if x.op = 7 then lineT [101, 113] [x.dst, x.a, x.b] else if x.op = 8 then lineT [108, 116] [x.dst, x.a, x.b] else if x.op = 9 then lineT [108, 111, 97, 100] [x.dst, x.a]
  else if x.op = 10 then lineT [115, 116, 111, 114, 101] [x.a, x.b] else if x.op = 11 then lineT [99, 97, 108, 108] ([x.dst, x.f] ++ x.args) else if x.op = 12 then lineT [111, 117, 116] [x.a]
  else if x.op = 13 then lineT [105, 110] [x.dst] else []
def endT (x : DEnd) : List UInt8 :=
  if x.kind = 1 then lineT [114, 101, 116] [x.a] else if x.kind = 2 then lineT [106, 117, 109, 112] [x.to] else if x.kind = 3 then lineT [98, 114, 97, 110, 99, 104] [x.a, x.to, x.els]
  else if x.kind = 4 then lineT [105, 110, 118, 111, 107, 101] ([x.dst, x.f, x.to, x.pad] ++ x.args) else if x.kind = 5 then lineT [116, 104, 114, 111, 119] [x.a]
  else if x.kind = 6 then lineT [114, 101, 115, 117, 109, 101] [] else []
def padT (p : DPad) : List UInt8 :=
  lineT [112, 97, 100] [p.dst] ++ (if 0 < p.catches.length then 32 :: lineT [99, 97, 116, 99, 104] p.catches else []) ++ (bif p.all then [32, 97, 108, 108] else []) ++ (bif p.cleanup then [32, 99, 108, 101, 97, 110, 117, 112] else [])
def headT (b : DBlock) : List UInt8 := bif b.landing then padT b.pad else lineT [98, 108, 111, 99, 107] []
def blockT (b : DBlock) : List UInt8 := headT b ++ [10] ++ b.ins.flatMap (fun x => insT x ++ [10]) ++ endT b.fin ++ [10]
def funcT (f : DFunc) : List UInt8 := lineT [102, 117, 110, 99] [f.params, f.regs] ++ [10] ++ f.blocks.flatMap blockT
def modT (m : DMod) : List UInt8 := m.funcs.flatMap funcT

theorem buf_app (a b : List UInt8) : (⟨⟨a⟩⟩ : ByteArray) ++ ⟨⟨b⟩⟩ = ⟨⟨a ++ b⟩⟩ := by
  apply ByteArray.ext
  simp [ByteArray.data_append]
theorem buf_size (a : List UInt8) : (⟨⟨a⟩⟩ : ByteArray).size = a.length := rfl
theorem buf_push (a : List UInt8) (c : UInt8) : (⟨⟨a⟩⟩ : ByteArray).push c = ⟨⟨a ++ [c]⟩⟩ := by
  apply ByteArray.ext
  simp [ByteArray.data_push]
theorem rints {l : List Int} (h : ∀ n, n ∈ l → inI n) (hl : l.length ≤ 100) : RInts (some false) (.sl false 1 (l.map fun n => [I n])) l := by
  refine .sl (by simp) ?_ (by simp; omega)
  clear hl
  induction l with
  | nil => exact .nil
  | cons a l ih => exact .cons ⟨rfl, h a (by simp)⟩ (ih fun n hn => h n (by simp [hn]))
theorem RL.setAt' {α : Type} {s : Nat} {R : List TV → α → Prop} {y : TV} {l : List α} (hy : RL (some true) s R y l) {i : Nat} {e : List TV} (he : Go.Ab.pel y i = some e) {d : Nat} {ys : List TV} {a : α} (hR : R (setCells e d ys) a) : ∃ y', setC [] y i d ys = some y' ∧ RL (some true) s R y' (l.set i a) := by
  rcases hy with ⟨rfl, rfl⟩ | ⟨o, xs, rfl, hq, hf, hb⟩
  · simp [Go.Ab.pel] at he
  · have : o = true := hq true rfl
    subst this
    have hk : xs[i]? = some e := he
    refine ⟨.sl true s (setNth xs i (setCells e d ys)), by simp only [setC, getP, setEl, hk, setP], .sl (by simp) (hf.set hR) (by rw [setNth_len]; exact hb)⟩
theorem pconv_w {a : Int} (ha : inW a) : pconv (.int .i64) (W a) = some (I a) := by
  simp only [pconv]
  rw [IntWalk.i64_in _ (by obtain ⟨_, _⟩ := ha; constructor <;> omega)]
theorem numT_len {n : Int} (h : inI n) : (numT n).length ≤ 22 := by
  have := Lib.itoa_length_le n h.1 h.2
  simp [numT]; omega
theorem textFlat_len {α : Type} {g : α → List UInt8} {c : Nat} : ∀ {l : List α}, (∀ x, x ∈ l → (g x).length ≤ c) → (l.flatMap g).length ≤ c * l.length
  | [], _ => by simp
  | a :: l, h => by
    have h1 := h a (by simp)
    have h2 := textFlat_len (g := g) (c := c) (l := l) fun x hx => h x (by simp [hx])
    simp only [List.flatMap_cons, List.length_append, List.length_cons, Nat.mul_succ]
    omega
theorem lineT_len {w : List UInt8} {ns : List Int} (h : ∀ n, n ∈ ns → inI n) : (lineT w ns).length ≤ w.length + 22 * ns.length := by
  have := textFlat_len (g := numT) (c := 22) (l := ns) fun n hn => numT_len (h n hn)
  simp only [lineT, List.length_append]; omega
theorem F2.memR {α : Type} {R : List TV → α → Prop} {xs : List (List TV)} {l : List α} (h : F2 R xs l) : ∀ a, a ∈ l → ∃ e, R e a := by
  intro a ha
  obtain ⟨i, hi⟩ := List.mem_iff_getElem?.1 ha
  obtain ⟨e, _, he⟩ := h.get hi
  exact ⟨e, he⟩
theorem RL.memR {α : Type} {q : Option Bool} {s : Nat} {R : List TV → α → Prop} {x : TV} {l : List α} (h : RL q s R x l) : ∀ a, a ∈ l → ∃ e, R e a := by
  rcases h with ⟨rfl, rfl⟩ | ⟨o, xs, rfl, hq, h, _⟩
  · simp
  · exact h.memR
theorem RInts.inI {q : Option Bool} {x : TV} {l : List Int} (h : RInts q x l) : ∀ n, n ∈ l → inI n := fun n hn => by
  obtain ⟨e, _, h⟩ := RL.memR h n hn
  exact h
end Go.Ab
namespace Go.Ab.D5
open Go Go.Ab Go.Proofs
theorem e_ws {s t : List UInt8} (h : s.length + t.length ≤ roomB) : Runs prog 41 [.tup [.tup [], bufL s], S t] (.tup [.tup [I t.length, .lit .nilIface], .tup [.tup [], bufL (s ++ t)]]) := by
  refine Runs.ext (g := xWriteString 5) rfl ?_
  have h1 : Nat.ble (s.length + t.length) roomB = true := by rw [Nat.ble_eq]; exact h
  simp [xWriteString, TV.isMay, mayT, buf_size, buf_app, h1]
theorem e_wb {s : List UInt8} (c : Int) (hc : 0 ≤ c ∧ c < 256) (h : s.length + 1 ≤ roomB) : Runs prog 42 [.tup [.tup [], bufL s], .lit (.int .u8 c)] (.tup [.lit .nilIface, .tup [.tup [], bufL (s ++ [c.toNat.toUInt8])]]) := by
  refine Runs.ext (g := xWriteByte 5) rfl ?_
  have h1 : Nat.ble (s.length + 1) roomB = true := by rw [Nat.ble_eq]; exact h
  simp [xWriteByte, TV.isMay, mayT, buf_size, buf_push, h1, hc]
theorem e_str {s : List UInt8} (h : s ≠ []) : Runs prog 26 [.tup [.tup [], bufL s]] (.tup [S s, .tup [.tup [], bufL s]]) := by
  refine Runs.ext (g := xString 5) rfl ?_
  have h1 : s.length ≠ 0 := fun h' => h (List.length_eq_zero_iff.1 h')
  simp [xString, TV.isMay, mayT, buf_size]
  cases s <;> simp_all [Nat.beq]
theorem e_len {s : List UInt8} : Runs prog 25 [.tup [.tup [], bufL s]] (.tup [I s.length, .tup [.tup [], bufL s]]) := by
  refine Runs.ext (g := xLen 5) rfl ?_
  simp [xLen, TV.isMay, mayT, buf_size]
theorem e_itoa {n : Int} (h : inI n) : Runs prog 43 [I n] (S (Lib.itoa n)) := by
  refine Runs.ext (g := xItoa) rfl ?_
  have := h.1; have := h.2
  simp [xItoa, *]

theorem put_runs {s t : List UInt8} (h : s.length + t.length + 1 ≤ roomB) : Runs prog 22 [.tup [.tup [], bufL s], S t] (.tup [.tup [], .tup [.tup [], bufL (s ++ t ++ [10])]]) := by
  refine Runs.of (f22_MR _ _) ?_
  unfold f22_M
  refine Goes.chk rfl (Goes.chk rfl (Goes.call (e_ws (by omega)) (Goes.chk rfl (Goes.chk rfl (Goes.chk rfl (Goes.chk rfl (Goes.chk rfl (Goes.call (e_wb 10 (by omega) (by simp; omega)) (Goes.chk rfl (Goes.chk rfl Goes.ret))))))))))

theorem line_loop {q : Option Bool} {x : TV} {ns : List Int} (hx : RInts q x ns) : ∀ d k (y : TV) (acc : List UInt8), k + d = ns.length → acc ≠ [] → (acc ++ (ns.drop k).flatMap numT).length ≤ roomB →
    Goes prog 23 (f23_0 x (I ns.length) (I k) y (bufL acc)) (S (acc ++ (ns.drop k).flatMap numT)) := by
  intro d
  induction d with
  | zero =>
    intro k y acc hk hne hb
    have hk : k = ns.length := by omega
    subst hk
    unfold f23_0
    refine Goes.tv rfl (Goes.ite asB_end (fun h => nomatch h) fun _ => ?_)
    simp only [List.drop_length, List.flatMap_nil, List.append_nil]
    exact Goes.chk rfl (Goes.call (e_str hne) (Goes.chk rfl (Goes.chk rfl Goes.ret)))
  | succ d ih =>
    intro k y acc hk hne hb
    have hkl : k < ns.length := by omega
    have ha : ns[k]? = some ns[k] := List.getElem?_eq_getElem hkl
    rw [List.drop_eq_getElem_cons hkl, List.flatMap_cons] at hb ⊢
    obtain ⟨e, he, hr⟩ := hx.idx (k := .i64) ha
    generalize ns[k] = n at *
    obtain ⟨rfl, hn⟩ := hr
    have hb2 : acc.length + (1 + (Lib.itoa n).length) ≤ roomB := by simp [numT] at hb; omega
    unfold f23_0
    refine Goes.tv rfl (Goes.ite (asB_lt hkl) (fun _ => ?_) fun h => nomatch h)
    refine Goes.tvs he (Goes.chk rfl (Goes.chk rfl (Goes.call (e_wb 32 (by omega) (by omega)) (Goes.chk rfl (Goes.chk rfl (Goes.call (e_itoa hn) (Goes.chk rfl (Goes.chk rfl (Goes.call (e_ws (by simp; omega)) (Goes.chk rfl (Goes.chk rfl (Goes.chk rfl (Goes.chk rfl (Goes.tv (inc hkl hx.bnd) ?_))))))))))))))
    have := ih (k + 1) .hole (acc ++ numT n) (by omega) (by simp [hne]) (by simpa using hb)
    rw [← List.append_assoc]
    refine Goes.jmp (f23_0_R _ _ _ _ _) ?_
    have e : acc ++ [(32 : Int).toNat.toUInt8] ++ Lib.itoa n = acc ++ numT n := by simp [numT]
    show Goes prog _ (f23_0 x (I ns.length) (I ((k + 1 : Nat) : Int)) .hole (bufL (acc ++ [(32 : Int).toNat.toUInt8] ++ Lib.itoa n))) _
    rw [e]; exact this
theorem line_runs {q : Option Bool} {x : TV} {ns : List Int} (w : List UInt8) (hx : RInts q x ns) (hw : w ≠ []) (hb : w.length + 22 * ns.length ≤ 1000) : Runs prog 23 [S w, x] (S (lineT w ns)) := by
  have hlen := lineT_len (w := w) hx.inI
  refine Runs.of (f23_MR _ _) ?_
  unfold f23_M
  refine Goes.chk rfl (Goes.call (e_ws (s := []) (by simp [roomB]; omega)) (Goes.chk rfl (Goes.chk rfl (Goes.chk rfl (Goes.chk rfl (Goes.tv hx.len ?_))))))
  exact Goes.jmp (f23_0_R _ _ _ _ _) (line_loop hx ns.length 0 _ w (by omega) hw (by simp [lineT] at hlen ⊢; simp [roomB]; omega))
theorem lineL {l : List Int} (w : List UInt8) (h : ∀ n, n ∈ l → inI n) (hw : w ≠ []) (hb : w.length + 22 * l.length ≤ 1000) : Runs prog 23 [S w, .sl false 1 (l.map fun n => [I n])] (S (lineT w l)) :=
  line_runs w (rints h (by omega)) hw hb
theorem line0 (w : List UInt8) (hw : w ≠ []) (hb : w.length ≤ 100) : Runs prog 23 [S w, .lit (.slice none 0 0)] (S (lineT w [])) :=
  line_runs w (q := none) (.nil) hw (by simp; omega)

theorem behind_runs {q q' : Option Bool} {x y : TV} {l m : List Int} (hx : RInts q x l) (hy : RInts q' y m) (hl : l.length + m.length ≤ 1000) : ∃ v, Runs prog 29 [x, y] v ∧ RInts (some true) v (m ++ l) := by
  obtain ⟨xs, hxs, hfx⟩ := hx.elems
  obtain ⟨ys, hys, hfy⟩ := hy.elems
  have h1 := hfx.length
  have h2 := hfy.length
  refine ⟨.sl true 1 (ys ++ xs), Runs.of (f29_MR _ _) ?_, .sl (by simp) (hfy.append hfx) (by simp; omega)⟩
  unfold f29_M
  refine Goes.tv hy.len (Goes.tv hx.len (Goes.tv (padd (by constructor <;> omega)) (Goes.nat rfl (Goes.nat (v := m.length + l.length) (by simp [asNat]; omega) (Goes.chk ?_ ?_)))))
  · simp only [Bool.and_eq_true, Nat.ble_eq]; omega
  · refine Goes.rws hys (Goes.tv (v := .sl true 1 ys) (by simp [papp, room]; omega) (Goes.rws hxs (Goes.tv (v := .sl true 1 (ys ++ xs)) (by simp [papp, room]; omega) (Goes.chk ?_ Goes.ret))))
    exact (RL.sl (q := some true) (by simp) (hfy.append hfx) (by simp; omega) : RInts (some true) _ (m ++ l)).own fun _ _ h => by obtain ⟨rfl, _⟩ := h; rfl
theorem wide_runs {q : Option Bool} {x : TV} {l : List Int} (hx : RWords q x l) (hl : l.length ≤ 1000) : ∃ v, Runs prog 31 [x] v ∧ RInts (some true) v l := by
  have loop : ∀ d k (m : List Int) (v : TV), k + d = l.length → m.length = l.length → m.take k = l.take k → RInts (some true) v m → ∃ v', Goes prog 31 (f31_0 x (I l.length) (I k) v) v' ∧ RInts (some true) v' l := by
    intro d
    induction d with
    | zero =>
      intro k m v hk hm ht hv
      have hk : k = l.length := by omega
      subst hk
      have : m = l := by rw [List.take_of_length_le (by omega), List.take_of_length_le (by omega)] at ht; exact ht
      subst this
      refine ⟨v, ?_, hv⟩
      unfold f31_0
      refine Goes.tv rfl (Goes.ite asB_end (fun h => nomatch h) fun _ => ?_)
      exact Goes.chk (hv.own fun _ _ h => by obtain ⟨rfl, _⟩ := h; rfl) Goes.ret
    | succ d ih =>
      intro k m v hk hm ht hv
      have hkl : k < l.length := by omega
      have ha : l[k]? = some l[k] := List.getElem?_eq_getElem hkl
      obtain ⟨e, he, hr⟩ := hx.idx (k := .i64) ha
      have hmk : m[k]? = some m[k] := List.getElem?_eq_getElem (by omega)
      obtain ⟨e', he', hr'⟩ := hv.pel hmk
      obtain ⟨rfl, hn⟩ := hr
      obtain ⟨rfl, _⟩ := hr'
      obtain ⟨v', hv', hv2⟩ := hv.setAt' he' (d := 0) (ys := [I l[k]]) (a := l[k]) ⟨rfl, by obtain ⟨_, _⟩ := hn; constructor <;> omega⟩
      obtain ⟨z, hz, hz2⟩ := ih (k + 1) (m.set k l[k]) v' (by omega) (by simpa using hm) (by
        rw [List.take_add_one, List.take_add_one, List.take_set_of_le (by omega), ht, List.getElem?_set_self (by omega), ha]) hv2
      refine ⟨z, ?_, hz2⟩
      unfold f31_0
      refine Goes.tv rfl (Goes.ite (asB_lt hkl) (fun _ => ?_) fun h => nomatch h)
      refine Goes.tvs he (Goes.chk rfl (Goes.tv (pconv_w hn) (Goes.nat hv.slLen (Goes.nat (v := k) (by simp [asNat]; omega) (Goes.chk ?_ (Goes.tvs he' (Goes.chk rfl (Goes.tv hv' (Goes.tv (inc hkl hx.bnd) (Goes.jmp (f31_0_R _ _ _ _) hz))))))))))
      rw [hv.slSize]
      simp only [Bool.true_and, Nat.blt_eq]
      omega
  obtain ⟨v, h1, h2⟩ := loop l.length 0 (List.replicate l.length 0) (.sl true 1 (List.replicate l.length [I 0])) (by omega) (by simp) (by simp) (.sl (by simp) (by
    generalize l.length = n
    induction n with
    | zero => exact .nil
    | succ n ih => exact .cons ⟨rfl, by constructor <;> omega⟩ ih) (by simp; omega))
  refine ⟨v, Runs.of (f31_MR _) ?_, h2⟩
  unfold f31_M
  refine Goes.tv hx.len (Goes.nat (v := l.length) (by simp [asNat]; omega) (Goes.nat (v := l.length) (by simp [asNat]; omega) (Goes.chk ?_ (Goes.tv hx.len (Goes.jmp (f31_0_R _ _ _ _) h1)))))
  simp only [Bool.and_eq_true, Nat.ble_eq]; omega
end Go.Ab.D5


/- What the functions of layer 3 answer: a module's text, put together. No condition. -/
set_option linter.unusedVariables false
set_option maxRecDepth 10000
namespace Go.Ab.D5
open Go Go.Ab Go.Proofs
theorem beh {q : Option Bool} {y : TV} {m : List Int} (l : List Int) (w : List UInt8) (hm : RInts q y m) (hl : ∀ n, n ∈ l → inI n) (h4 : l.length ≤ 4) (h20 : m.length ≤ 20) (hw : w ≠ []) (h10 : w.length ≤ 10) :
    ∃ v, Runs prog 29 [y, .sl false 1 (l.map fun n => [I n])] v ∧ v.isSl = true ∧ Runs prog 23 [S w, frz v] (S (lineT w (l ++ m))) := by
  obtain ⟨v, h1, h2⟩ := behind_runs hm (rints hl (by omega)) (by omega)
  exact ⟨v, h1, h2.isSl, line_runs w (h2.frz fun _ _ h => h.frz) hw (by simp; omega)⟩
theorem ins_runs {q : Option Bool} {e : List TV} {x : DIns} (h : RIns q e x) (hl : x.args.length ≤ 20) : Runs prog 9 [.agg e] (S (insT x)) := by
  obtain ⟨g, rfl, hg, ho, hd, ha, hb, hk, hf⟩ := h
  obtain ⟨v, hv, hsl, hv2⟩ := beh [x.dst, x.f] [99, 97, 108, 108] hg (by simp [hd, hf]) (by simp) hl (by simp) (by simp)
  have hkI : inI x.k := by obtain ⟨_, _⟩ := hk; constructor <;> omega
  refine Runs.of (f9_MR _) ?_
  unfold f9_M
  refine Goes.chk rfl (Goes.tv rfl (Goes.ite rfl (fun _ => Goes.tv (v := I x.k) (pconv_w hk) ?_) fun _ => ?_))
  repeat' (first
    | refine Goes.chk rfl ?_
    | refine Goes.tv rfl ?_
    | refine Goes.ite rfl (fun _ => ?_) (fun _ => ?_)
    | refine Goes.call hv ?_
    | refine Goes.chk (by simp [fitsAt, zSl, isSlV, hsl]) ?_
    | refine Goes.call hv2 ?_
    | refine Goes.call (lineL (l := [x.dst, x.k]) _ (by simp [*]) (by simp) (by simp)) ?_
    | refine Goes.call (lineL (l := [x.dst, x.a]) _ (by simp [*]) (by simp) (by simp)) ?_
    | refine Goes.call (lineL (l := [x.a, x.b]) _ (by simp [*]) (by simp) (by simp)) ?_
    | refine Goes.call (lineL (l := [x.dst, x.a, x.b]) _ (by simp [*]) (by simp) (by simp)) ?_
    | refine Goes.call (lineL (l := [x.a]) _ (by simp [*]) (by simp) (by simp)) ?_
    | refine Goes.call (lineL (l := [x.dst]) _ (by simp [*]) (by simp) (by simp)) ?_)
  all_goals (refine goes_ret.2 ?_; simp_all [insT])
theorem end_runs {q : Option Bool} {e : List TV} {x : DEnd} (h : REnd q e x) (hl : x.args.length ≤ 20) : Runs prog 11 [.agg e] (S (endT x)) := by
  obtain ⟨g, rfl, hg, hk, ha, hd, hf, ht, he, hp⟩ := h
  obtain ⟨v, hv, hsl, hv2⟩ := beh [x.dst, x.f, x.to, x.pad] [105, 110, 118, 111, 107, 101] hg (by simp [hd, hf, ht, hp]) (by simp) hl (by simp) (by simp)
  refine Runs.of (f11_MR _) ?_
  unfold f11_M
  repeat' (first
    | refine Goes.chk rfl ?_
    | refine Goes.tv rfl ?_
    | refine Goes.ite rfl (fun _ => ?_) (fun _ => ?_)
    | refine Goes.call hv ?_
    | refine Goes.chk (by simp [fitsAt, zSl, isSlV, hsl]) ?_
    | refine Goes.call hv2 ?_
    | refine Goes.call (line0 _ (by simp) (by simp)) ?_
    | refine Goes.call (lineL (l := [x.a, x.to, x.els]) _ (by simp [*]) (by simp) (by simp)) ?_
    | refine Goes.call (lineL (l := [x.a]) _ (by simp [*]) (by simp) (by simp)) ?_
    | refine Goes.call (lineL (l := [x.to]) _ (by simp [*]) (by simp) (by simp)) ?_)
  all_goals (refine goes_ret.2 ?_; simp_all [endT])
theorem padd_str (a b : List UInt8) (h : a.length + b.length ≤ 10000) : pbin .str .add (S a) (S b) = some (S (a ++ b)) := by
  simp [pbin, strBin, buf_app, buf_size]; omega
theorem pad_runs {q : Option Bool} {e : List TV} {x : DPad} (h : RPad q e x) (hl : x.catches.length ≤ 20) : Runs prog 13 [.agg e] (S (padT x)) := by
  obtain ⟨g, rfl, hg, hd⟩ := h
  obtain ⟨v, hv, hv2⟩ := wide_runs hg (by omega)
  have hsl := hv2.isSl
  have hv3 := line_runs [99, 97, 116, 99, 104] (hv2.frz fun _ _ h => h.frz) (by simp) (by simp; omega)
  have hA := lineT_len (w := [112, 97, 100]) (ns := [x.dst]) (by simp [hd])
  have hC := lineT_len (w := [99, 97, 116, 99, 104]) hv2.inI
  simp only [List.length_cons, List.length_nil] at hA hC
  refine Runs.of (f13_MR _) ?_
  unfold f13_M
  repeat' (first
    | refine Goes.chk rfl ?_
    | refine Goes.tv hg.len ?_
    | refine Goes.tv (padd_str _ _ (by simp only [List.length_append, List.length_cons, List.length_nil]; omega)) ?_
    | refine Goes.tv rfl ?_
    | refine Goes.ite rfl (fun _ => ?_) (fun _ => ?_)
    | refine Goes.call hv ?_
    | refine Goes.chk (by simp [fitsAt, zSl, isSlV, hsl]) ?_
    | refine Goes.call hv3 ?_
    | refine Goes.call (lineL (l := [x.dst]) _ (by simp [*]) (by simp) (by simp)) ?_)
  all_goals (refine goes_ret.2 ?_; simp_all [padT])
end Go.Ab.D5


/- What the functions of layer 3 answer: a module's text, the whole. No condition. -/
set_option linter.unusedVariables false
set_option maxRecDepth 10000
namespace Go.Ab.D5
open Go Go.Ab Go.Proofs
theorem block_fin {q : Option Bool} {g : TV} {b : DBlock} (y0 y1 y2 y3 y4 y5 w : TV) (hg : RInts q g b.fin.args) (ho : b.fin.ok) (hl : b.fin.args.length ≤ 20) {acc : List UInt8} (hb : acc.length + (endT b.fin).length + 1 ≤ roomB) :
    Goes prog 24 (f24_2 y0 y1 y2 y3 y4 y5 (I b.fin.kind) (I b.fin.a) (I b.fin.dst) (I b.fin.f) g (I b.fin.to) (I b.fin.els) (I b.fin.pad) w (bufL acc)) (.tup [.tup [], .tup [.tup [], bufL (acc ++ endT b.fin ++ [10])]]) := by
  unfold f24_2
  have he : REnd q [I b.fin.kind, I b.fin.a, I b.fin.dst, I b.fin.f, g, I b.fin.to, I b.fin.els, I b.fin.pad] b.fin := ⟨g, rfl, hg, ho⟩
  exact Goes.call (end_runs he hl) (Goes.chk rfl (Goes.chk rfl (Goes.call (put_runs hb) (Goes.chk rfl (Goes.chk rfl Goes.ret)))))
theorem block_ins {q : Option Bool} {y5 g : TV} {b : DBlock} (y0 y1 y2 y3 y4 : TV) (hi : RL q 7 (RIns q) y5 b.ins) (hs : shortB b) (hg : RInts q g b.fin.args) (ho : b.fin.ok) : ∀ d k (w : TV) (acc : List UInt8), k + d = b.ins.length → (acc ++ (b.ins.drop k).flatMap (fun x => insT x ++ [10]) ++ endT b.fin ++ [10]).length ≤ roomB →
    Goes prog 24 (f24_1 y5 (I b.ins.length) (I k) y0 y1 y2 y3 y4 y5 (I b.fin.kind) (I b.fin.a) (I b.fin.dst) (I b.fin.f) g (I b.fin.to) (I b.fin.els) (I b.fin.pad) w (bufL acc))
      (.tup [.tup [], .tup [.tup [], bufL (acc ++ (b.ins.drop k).flatMap (fun x => insT x ++ [10]) ++ endT b.fin ++ [10])]]) := by
  intro d
  induction d with
  | zero =>
    intro k w acc hk hb
    have hk : k = b.ins.length := by omega
    subst hk
    unfold f24_1
    refine Goes.tv rfl (Goes.ite asB_end (fun h => nomatch h) fun _ => ?_)
    simp only [List.drop_length, List.flatMap_nil, List.append_nil] at hb ⊢
    exact Goes.jmp (f24_2_R _ _ _ _ _ _ _ _ _ _ _ _ _ _ _ _) (block_fin _ _ _ _ _ _ _ hg ho hs.2.2.1 (by simp at hb ⊢; omega))
  | succ d ih =>
    intro k w acc hk hb
    have hkl : k < b.ins.length := by omega
    have ha : b.ins[k]? = some b.ins[k] := List.getElem?_eq_getElem hkl
    have hargs := hs.2.2.2 k hkl _ ha
    rw [List.drop_eq_getElem_cons hkl, List.flatMap_cons] at hb ⊢
    obtain ⟨e, he, hr⟩ := hi.idx (k := .i64) ha
    generalize b.ins[k] = x at *
    have hr2 := ins_runs hr hargs
    obtain ⟨g', rfl, _⟩ := hr
    unfold f24_1
    refine Goes.tv rfl (Goes.ite (asB_lt hkl) (fun _ => ?_) fun h => nomatch h)
    refine Goes.tvs he (Goes.chk rfl (Goes.call hr2 (Goes.chk rfl (Goes.chk rfl (Goes.call (put_runs (by simp at hb; omega)) (Goes.chk rfl (Goes.chk rfl (Goes.tv (inc hkl hi.bnd) (Goes.jmp (f24_1_R _ _ _ _ _ _ _ _ _ _ _ _ _ _ _ _ _ _ _) ?_)))))))))
    have := ih (k + 1) .hole (acc ++ insT x ++ [10]) (by omega) (by simpa [List.append_assoc] using hb)
    have e : acc ++ (insT x ++ [10] ++ (b.ins.drop (k + 1)).flatMap (fun x => insT x ++ [10])) = acc ++ insT x ++ [10] ++ (b.ins.drop (k + 1)).flatMap (fun x => insT x ++ [10]) := by simp [List.append_assoc]
    rw [e]
    exact this
theorem block_runs {q : Option Bool} {e : List TV} {b : DBlock} (h : RBlock q e b) (hs : shortB b) {s : List UInt8} (hb : s.length + (blockT b).length ≤ roomB) :
    Runs prog 24 [.tup [.tup [], bufL s], .agg e] (.tup [.tup [], .tup [.tup [], bufL (s ++ blockT b)]]) := by
  obtain ⟨c, i, g, rfl, hc, hd, hi, hg, ho⟩ := h
  have hp : Runs prog 13 [.agg [I b.pad.dst, c, B b.pad.all, B b.pad.cleanup]] (S (padT b.pad)) := pad_runs (q := q) ⟨c, rfl, hc, hd⟩ hs.2.1
  have e : s ++ blockT b = s ++ headT b ++ [10] ++ (b.ins.drop 0).flatMap (fun x => insT x ++ [10]) ++ endT b.fin ++ [10] := by simp [blockT, List.append_assoc]
  have hb' : (s ++ headT b ++ [10] ++ (b.ins.drop 0).flatMap (fun x => insT x ++ [10]) ++ endT b.fin ++ [10]).length ≤ roomB := by rw [← e]; simpa using hb
  have hb2 : s.length + (headT b).length + 1 ≤ roomB := by simp [List.length_append] at hb'; omega
  have rest : ∀ w, Goes prog 24 (f24_0 (B b.landing) (I b.pad.dst) c (B b.pad.all) (B b.pad.cleanup) i (I b.fin.kind) (I b.fin.a) (I b.fin.dst) (I b.fin.f) g (I b.fin.to) (I b.fin.els) (I b.fin.pad) w (bufL (s ++ headT b ++ [10]))) (.tup [.tup [], .tup [.tup [], bufL (s ++ blockT b)]]) := fun w => by
    unfold f24_0
    rw [e]
    exact Goes.tv hi.len (Goes.jmp (f24_1_R _ _ _ _ _ _ _ _ _ _ _ _ _ _ _ _ _ _ _) (block_ins _ _ _ _ _ hi hs hg ho b.ins.length 0 _ _ (by omega) hb'))
  refine Runs.of (f24_MR _ _) ?_
  unfold f24_M
  refine Goes.chk rfl (Goes.chk rfl (Goes.ite rfl (fun hl => ?_) fun hl => ?_))
  · have eh : headT b = padT b.pad := by simp [headT, hl]
    rw [eh] at rest hb2
    exact Goes.call hp (Goes.chk rfl (Goes.chk rfl (Goes.call (put_runs hb2) (Goes.chk rfl (Goes.chk rfl (Goes.jmp (f24_0_R _ _ _ _ _ _ _ _ _ _ _ _ _ _ _ _) (rest _)))))))
  · have eh : headT b = lineT [98, 108, 111, 99, 107] [] := by simp [headT, hl]
    rw [eh] at rest hb2
    exact Goes.call (line0 _ (by simp) (by simp)) (Goes.chk rfl (Goes.chk rfl (Goes.call (put_runs hb2) (Goes.chk rfl (Goes.chk rfl (Goes.jmp (f24_0_R _ _ _ _ _ _ _ _ _ _ _ _ _ _ _ _) (rest _)))))))

open Classical in
/-- What showing a module answers. -/
noncomputable def showT (m : DMod) : TV := if modP m then (if (modT m).length ≤ 65536 then .tup [S (modT m), I 0] else .tup [S [], I 3]) else .tup [S [], I 1]

theorem show_runs {q : Option Bool} {e : List TV} {m : DMod} (hm : RMod q e m) (hs : shortM m) (hb : (modT m).length ≤ roomB) : Runs prog 7 [.agg e] (showT m) := by
  have h8 := r8 hm
  obtain ⟨x, rfl, hx⟩ := hm
  refine Runs.of (f7_MR _) ?_
  unfold f7_M
  refine Goes.chk rfl (Goes.call h8 (Goes.chk rfl (Goes.tv rfl (Goes.ite rfl (fun h => ?_) fun h => ?_))))
  · have hn : ¬ modP m := by simpa [tt] using h
    simp only [showT, if_neg hn]
    exact Goes.ret
  · have hp : modP m := by simpa [tt] using h
    refine Goes.tv hx.len (Goes.chk rfl (Goes.jmp (f7_0_R _ _ _ _ _) ?_))
    have last : ∀ w acc', bufOf 5 acc' = bufL (modT m) → Goes prog 7 (f7_2 w acc') (showT m) := fun w acc' ha => by
      have hne : modT m ≠ [] := by
        obtain ⟨_, ⟨f, hf, _⟩, _⟩ := hp
        intro h0
        have := List.flatMap_eq_nil_iff.1 h0 f (List.mem_of_getElem? hf)
        simp [funcT] at this
      simp only [showT, if_pos hp]
      unfold f7_2
      rw [ha]
      refine Goes.chk rfl (Goes.call e_len (Goes.chk rfl (Goes.chk rfl (Goes.tv rfl (Goes.ite rfl (fun h => ?_) fun h => ?_)))))
      · have : ¬ (modT m).length ≤ 65536 := by simp at h; omega
        rw [if_neg this]; exact Goes.ret
      · have : (modT m).length ≤ 65536 := by simp at h; omega
        rw [if_pos this]
        exact Goes.chk rfl (Goes.call (e_str hne) (Goes.chk rfl (Goes.chk rfl Goes.ret)))
    have outer : ∀ d k (w acc' : TV) (acc : List UInt8), bufOf 5 acc' = bufL acc → k + d = m.funcs.length → acc ++ (m.funcs.drop k).flatMap funcT = modT m → Goes prog 7 (f7_0 x (I m.funcs.length) (I k) w acc') (showT m) := by
      intro d
      induction d with
      | zero =>
        intro k w acc' acc hacc hk ha
        have hk : k = m.funcs.length := by omega
        subst hk
        unfold f7_0
        refine Goes.tv rfl (Goes.ite asB_end (fun h => nomatch h) fun _ => ?_)
        simp only [List.drop_length, List.flatMap_nil, List.append_nil] at ha
        exact Goes.jmp (f7_2_R _ _) (last _ _ (ha ▸ hacc))
      | succ d ih =>
        intro k w acc' acc hacc hk ha
        have hkl : k < m.funcs.length := by omega
        have hf : m.funcs[k]? = some m.funcs[k] := List.getElem?_eq_getElem hkl
        have hsf := hs.2 k hkl _ hf
        rw [List.drop_eq_getElem_cons hkl, List.flatMap_cons] at ha
        obtain ⟨e, he, hr⟩ := hx.idx (k := .i64) hf
        generalize m.funcs[k] = f at *
        obtain ⟨y, rfl, hy, hpa, hre⟩ := hr
        have inner : ∀ d j (w acc' : TV) (acc : List UInt8), bufOf 5 acc' = bufL acc → j + d = f.blocks.length → acc ++ ((f.blocks.drop j).flatMap blockT ++ (m.funcs.drop (k + 1)).flatMap funcT) = modT m → Goes prog 7 (f7_1 x (I m.funcs.length) (I k) y (I f.blocks.length) (I j) w acc') (showT m) := by
          intro d
          induction d with
          | zero =>
            intro j w acc' acc hacc hj ha
            have hj : j = f.blocks.length := by omega
            subst hj
            unfold f7_1
            refine Goes.tv rfl (Goes.ite asB_end (fun h => nomatch h) fun _ => ?_)
            simp only [List.drop_length, List.flatMap_nil, List.nil_append] at ha
            exact Goes.tv (inc hkl hx.bnd) (Goes.jmp (f7_0_R _ _ _ _ _) (ih (k + 1) _ _ acc hacc (by omega) ha))
          | succ d ihb =>
            intro j w acc' acc hacc hj ha
            have hjl : j < f.blocks.length := by omega
            have hbl : f.blocks[j]? = some f.blocks[j] := List.getElem?_eq_getElem hjl
            have hsb := hsf.2 j hjl _ hbl
            rw [List.drop_eq_getElem_cons hjl, List.flatMap_cons] at ha
            obtain ⟨eb, heb, hrb⟩ := hy.idx (k := .i64) hbl
            generalize f.blocks[j] = b at *
            have hsz : acc.length + (blockT b).length ≤ roomB := by rw [← ha] at hb; simp at hb; omega
            have hrun := block_runs hrb hsb hsz
            obtain ⟨_, _, _, rfl, _⟩ := hrb
            unfold f7_1
            refine Goes.tv rfl (Goes.ite (asB_lt hjl) (fun _ => ?_) fun h => nomatch h)
            rw [hacc]
            refine Goes.tvs heb (Goes.chk rfl (Goes.chk rfl (Goes.call hrun (Goes.chk rfl (Goes.chk rfl (Goes.tv (inc hjl hy.bnd) (Goes.jmp (f7_1_R _ _ _ _ _ _ _ _) ?_)))))))
            exact ihb (j + 1) _ _ (acc ++ blockT b) rfl (by omega) (by rw [← ha]; simp [List.append_assoc])
        have hsz : acc.length + (lineT [102, 117, 110, 99] [f.params, f.regs]).length + 1 ≤ roomB := by rw [← ha] at hb; simp [funcT] at hb; omega
        unfold f7_0
        refine Goes.tv rfl (Goes.ite (asB_lt hkl) (fun _ => ?_) fun h => nomatch h)
        rw [hacc]
        refine Goes.tvs he (Goes.chk rfl (Goes.call (lineL (l := [f.params, f.regs]) _ (by simp [*]) (by simp) (by simp)) (Goes.chk rfl (Goes.chk rfl (Goes.call (put_runs hsz) (Goes.chk rfl (Goes.chk rfl (Goes.tv hy.len (Goes.jmp (f7_1_R _ _ _ _ _ _ _ _) ?_)))))))))
        exact inner f.blocks.length 0 _ _ (acc ++ lineT [102, 117, 110, 99] [f.params, f.regs] ++ [10]) rfl (by omega) (by rw [← ha]; simp [funcT, List.append_assoc])
    exact outer m.funcs.length 0 _ _ [] rfl (by omega) rfl
end Go.Ab.D5


/- The law of layer 3: how many lines. No condition. -/
set_option linter.unusedVariables false
set_option maxRecDepth 10000
namespace Go.Ab
theorem ite_P {c : Prop} [Decidable c] {a b : List UInt8} {P : List UInt8 → Prop} (ha : P a) (hb : P b) : P (if c then a else b) := by
  by_cases h : c
  · rw [if_pos h]; exact ha
  · rw [if_neg h]; exact hb
theorem digit_byte : ∀ (u : Nat), ∀ c ∈ Lib.decDigits u, 48 ≤ c.toNat ∧ c.toNat ≤ 57 := by
  intro u
  induction u using Nat.strongRecOn with
  | _ u ih =>
    intro c hc
    by_cases h : u < 10
    · rw [Lib.decDigits_one h] at hc
      simp only [List.mem_singleton] at hc
      subst hc
      simp [UInt8.toNat_ofNat']
      omega
    · rw [Lib.decDigits, dif_neg h, List.mem_append] at hc
      rcases hc with hc | hc
      · exact ih (u / 10) (by omega) c hc
      · simp only [List.mem_singleton] at hc
        subst hc
        simp [UInt8.toNat_ofNat']
        omega
theorem itoa_byte (n : Int) : ∀ c ∈ Lib.itoa n, c.toNat = 45 ∨ 48 ≤ c.toNat ∧ c.toNat ≤ 57 := by
  intro c hc
  unfold Lib.itoa at hc
  split at hc
  · rcases List.mem_cons.1 hc with rfl | hc
    · exact .inl rfl
    · exact .inr (digit_byte _ c hc)
  · exact .inr (digit_byte _ c hc)
theorem nl_itoa (n : Int) : (Lib.itoa n).count 10 = 0 := by
  rw [List.count_eq_zero]
  intro h
  have := itoa_byte n 10 h
  simp at this
theorem nl_nums : ∀ (ns : List Int), (ns.flatMap numT).count 10 = 0
  | [] => rfl
  | n :: l => by
    rw [List.flatMap_cons, List.count_append, nl_nums l, numT, List.count_cons, nl_itoa]
    rfl
theorem nl_line {w : List UInt8} (hw : w.count 10 = 0) (ns : List Int) : (lineT w ns).count 10 = 0 := by
  rw [lineT, List.count_append, hw, nl_nums]
theorem nl_ins (x : DIns) : (insT x).count 10 = 0 := by
  unfold insT
  repeat' (refine ite_P (P := fun l => l.count 10 = 0) ?_ ?_)
  all_goals first | exact nl_line (by decide) _ | rfl
theorem nl_end (x : DEnd) : (endT x).count 10 = 0 := by
  unfold endT
  repeat' (refine ite_P (P := fun l => l.count 10 = 0) ?_ ?_)
  all_goals first | exact nl_line (by decide) _ | rfl
theorem nl_pad (x : DPad) : (padT x).count 10 = 0 := by
  unfold padT
  rw [List.count_append, List.count_append, List.count_append, nl_line (by decide)]
  have h1 : (if 0 < x.catches.length then 32 :: lineT [99, 97, 116, 99, 104] x.catches else []).count 10 = 0 := by
    split
    · rw [List.count_cons, nl_line (by decide)]; rfl
    · rfl
  rw [h1]
  cases x.all <;> cases x.cleanup <;> rfl
theorem nl_head (b : DBlock) : (headT b).count 10 = 0 := by
  unfold headT
  cases b.landing
  · exact nl_line (by decide) _
  · exact nl_pad _
theorem nl_inss : ∀ (l : List DIns), (l.flatMap fun x => insT x ++ [10]).count 10 = l.length
  | [] => rfl
  | x :: l => by
    rw [List.flatMap_cons, List.count_append, nl_inss l, List.count_append, nl_ins, List.length_cons]
    simp; omega
def cntB (b : DBlock) : Nat := b.ins.length
def cntF (f : DFunc) : Nat := 2 * f.blocks.length + (f.blocks.map cntB).sum
def cntM (m : DMod) : Nat := m.funcs.length + (m.funcs.map cntF).sum
theorem nl_block (b : DBlock) : (blockT b).count 10 = 2 + cntB b := by
  simp only [blockT, List.count_append, nl_head, nl_inss, nl_end, cntB]
  simp; omega
theorem nl_blocks : ∀ (l : List DBlock), (l.flatMap blockT).count 10 = 2 * l.length + (l.map cntB).sum
  | [] => rfl
  | b :: l => by
    rw [List.flatMap_cons, List.count_append, nl_blocks l, nl_block, List.length_cons, List.map_cons, List.sum_cons]
    omega
theorem nl_func (f : DFunc) : (funcT f).count 10 = 1 + cntF f := by
  simp only [funcT, List.count_append, nl_blocks, cntF, nl_line (w := [102, 117, 110, 99]) (by decide)]
  simp
theorem nl_funcs : ∀ (l : List DFunc), (l.flatMap funcT).count 10 = l.length + (l.map cntF).sum
  | [] => rfl
  | b :: l => by
    rw [List.flatMap_cons, List.count_append, nl_funcs l, nl_func, List.length_cons, List.map_cons, List.sum_cons]
    omega
theorem nl_mod (m : DMod) : (modT m).count 10 = cntM m := nl_funcs m.funcs

/-! ### how long -/
theorem insT_len {q : Option Bool} {e : List TV} {x : DIns} (h : RIns q e x) (hl : x.args.length ≤ 20) : (insT x).length ≤ 500 := by
  obtain ⟨g, rfl, hg, ho, hd, ha, hb, hk, hf⟩ := h
  have hkI : inI x.k := by obtain ⟨_, _⟩ := hk; constructor <;> omega
  have hgI := hg.inI
  have key : ∀ (w : List UInt8) (ns : List Int), w.length ≤ 10 → ns.length ≤ 22 → (∀ n, n ∈ ns → inI n) → (lineT w ns).length ≤ 500 := fun w ns h1 h2 h3 => by have := lineT_len (w := w) h3; omega
  have hc : ∀ n, n ∈ [x.dst, x.f] ++ x.args → inI n := fun n hn => by
    rcases List.mem_append.1 hn with h | h
    · simp at h; rcases h with rfl | rfl <;> assumption
    · exact hgI n h
  unfold insT
  repeat' (refine ite_P (P := fun l => l.length ≤ 500) ?_ ?_)
  all_goals first
    | exact key _ ([x.dst, x.f] ++ x.args) (by simp) (by simp; omega) hc
    | exact key _ _ (by simp) (by simp) (by simp [*])
    | simp
theorem endT_len {x : DEnd} (ho : x.ok) (hgI : ∀ n, n ∈ x.args → inI n) (hl : x.args.length ≤ 20) : (endT x).length ≤ 600 := by
  obtain ⟨hk, ha, hd, hf, ht, he, hp⟩ := ho
  have key : ∀ (w : List UInt8) (ns : List Int), w.length ≤ 10 → ns.length ≤ 24 → (∀ n, n ∈ ns → inI n) → (lineT w ns).length ≤ 600 := fun w ns h1 h2 h3 => by have := lineT_len (w := w) h3; omega
  have hc : ∀ n, n ∈ [x.dst, x.f, x.to, x.pad] ++ x.args → inI n := fun n hn => by
    rcases List.mem_append.1 hn with h | h
    · simp at h; rcases h with rfl | rfl | rfl | rfl <;> assumption
    · exact hgI n h
  unfold endT
  repeat' (refine ite_P (P := fun l => l.length ≤ 600) ?_ ?_)
  all_goals first
    | exact key _ ([x.dst, x.f, x.to, x.pad] ++ x.args) (by simp) (by simp; omega) hc
    | exact key _ _ (by simp) (by simp) (by simp [*])
    | simp
theorem padT_len {x : DPad} (hd : inI x.dst) (hgI : ∀ n, n ∈ x.catches → inW n) (hl : x.catches.length ≤ 20) : (padT x).length ≤ 600 := by
  have h1 := lineT_len (w := [112, 97, 100]) (ns := [x.dst]) (by simp [hd])
  have h2 := lineT_len (w := [99, 97, 116, 99, 104]) (ns := x.catches) (fun n hn => by obtain ⟨_, _⟩ := hgI n hn; constructor <;> omega)
  simp only [List.length_cons, List.length_nil] at h1 h2
  unfold padT
  have h3 : (if 0 < x.catches.length then 32 :: lineT [99, 97, 116, 99, 104] x.catches else []).length ≤ 500 := by
    split
    · simp only [List.length_cons]; omega
    · simp
  have h4 : (bif x.all then ([32, 97, 108, 108] : List UInt8) else []).length ≤ 4 := by cases x.all <;> simp
  have h5 : (bif x.cleanup then ([32, 99, 108, 101, 97, 110, 117, 112] : List UInt8) else []).length ≤ 8 := by cases x.cleanup <;> simp
  simp only [List.length_append]
  omega
theorem blockT_len {q : Option Bool} {e : List TV} {b : DBlock} (h : RBlock q e b) (hs : shortB b) : (blockT b).length ≤ 40000 := by
  obtain ⟨c, i, g, rfl, hc, hd, hi, hg, ho⟩ := h
  have h1 := endT_len ho hg.inI hs.2.2.1
  have h2 := padT_len hd (fun n hn => by obtain ⟨e, _, h⟩ := RL.memR hc n hn; exact h) hs.2.1
  have h3 : (headT b).length ≤ 600 := by
    unfold headT
    cases b.landing
    · simp [lineT]
    · exact h2
  have h4 := textFlat_len (g := fun x => insT x ++ [10]) (c := 501) (l := b.ins) fun x hx => by
    obtain ⟨i, hi'⟩ := List.mem_iff_getElem?.1 hx
    obtain ⟨e, he⟩ := RL.memR hi x hx
    have := insT_len he (hs.2.2.2 i (List.getElem?_eq_some_iff.1 hi').1 x hi')
    simp; omega
  have h5 := hs.1
  simp only [blockT, List.length_append, List.length_cons, List.length_nil]
  omega
theorem funcT_len {q : Option Bool} {e : List TV} {f : DFunc} (h : RFunc q e f) (hs : shortF f) : (funcT f).length ≤ 3000000 := by
  obtain ⟨y, rfl, hy, hp, hr⟩ := h
  have h1 := lineT_len (w := [102, 117, 110, 99]) (ns := [f.params, f.regs]) (by simp [hp, hr])
  have h4 := textFlat_len (g := blockT) (c := 40000) (l := f.blocks) fun x hx => by
    obtain ⟨i, hi'⟩ := List.mem_iff_getElem?.1 hx
    obtain ⟨e, he⟩ := RL.memR hy x hx
    exact blockT_len he (hs.2 i (List.getElem?_eq_some_iff.1 hi').1 x hi')
  have h5 := hs.1
  simp only [List.length_cons, List.length_nil] at h1
  simp only [funcT, List.length_append, List.length_cons, List.length_nil]
  omega
theorem modT_len {q : Option Bool} {e : List TV} {m : DMod} (h : RMod q e m) (hs : shortM m) : (modT m).length ≤ 60000000 := by
  obtain ⟨y, rfl, hy⟩ := h
  have h4 := textFlat_len (g := funcT) (c := 3000000) (l := m.funcs) fun x hx => by
    obtain ⟨i, hi'⟩ := List.mem_iff_getElem?.1 hx
    obtain ⟨e, he⟩ := RL.memR hy x hx
    exact funcT_len he (hs.2 i (List.getElem?_eq_some_iff.1 hi').1 x hi')
  have h5 := hs.1
  simp only [modT]
  omega
theorem modT_room {q : Option Bool} {e : List TV} {m : DMod} (h : RMod q e m) (hs : shortM m) : (modT m).length ≤ roomB := by
  have := modT_len h hs
  simp [roomB]; omega
theorem pstr_at {t : List UInt8} {k : Nat} {c : UInt8} (h : t[k]? = some c) : pstr (S t) (I k) = some (.lit (.int .u8 (c.toNat : Int))) := by
  obtain ⟨hk, rfl⟩ := List.getElem?_eq_some_iff.1 h
  have : (⟨⟨t⟩⟩ : ByteArray)[k]? = some t[k] := by
    rw [getElem?_pos _ _ (by exact hk)]
    rfl
  simp [pstr, this]
end Go.Ab


/- The law of layer 3: how many lines a text has. No condition. -/
set_option linter.unusedVariables false
set_option maxRecDepth 20000
namespace Go.Ab.D5
open Go Go.Ab Go.Proofs
def tm0 : DMod := ⟨[⟨0, 1, [⟨false, ⟨0, [], false, false⟩, [], ⟨1, 0, 0, 0, [], 0, 0, 0⟩⟩]⟩]⟩
def te0 : List TV := [frz (TV.sl true 3 (chunks 3 1 [TV.lit (Value.int IntKind.i64 (0 : Int)), TV.lit (Value.int IntKind.i64 (1 : Int)), TV.sl true 14 (chunks 14 1 [TV.lit (Value.bool false), TV.lit (Value.int IntKind.i64 (0 : Int)), TV.lit (Value.slice Option.none 0 0), TV.lit (Value.bool false), TV.lit (Value.bool false), TV.lit (Value.slice Option.none 0 0), TV.lit (Value.int IntKind.i64 (1 : Int)), TV.lit (Value.int IntKind.i64 (0 : Int)), TV.lit (Value.int IntKind.i64 (0 : Int)), TV.lit (Value.int IntKind.i64 (0 : Int)), TV.lit (Value.slice Option.none 0 0), TV.lit (Value.int IntKind.i64 (0 : Int)), TV.lit (Value.int IntKind.i64 (0 : Int)), TV.lit (Value.int IntKind.i64 (0 : Int))])]))]
theorem tm0_rep : RMod (some false) te0 tm0 := by
  have z : inI 0 := by constructor <;> omega
  have o : inI 1 := by constructor <;> omega
  have hq : ∀ b, some false = some b → false = b := fun b h => by cases h; rfl
  refine ⟨_, rfl, .sl hq (.cons ⟨_, rfl, .sl hq (.cons ⟨_, _, _, rfl, .nil, z, .nil, .nil, ⟨o, z, z, z, z, z, z⟩⟩ .nil) ?_, z, o⟩ .nil) ?_⟩
  · show 1 ≤ _; omega
  · show 1 ≤ _; omega
theorem tm0_short : shortM tm0 := by
  refine ⟨by simp [tm0], fun i hi f hf => ?_⟩
  have h0 : i = 0 := by simp [tm0] at hi; exact hi
  subst h0
  obtain rfl : _ = f := Option.some.inj hf
  refine ⟨by simp, fun i hi b hb => ?_⟩
  have h0 : i = 0 := by simp at hi; exact hi
  subst h0
  obtain rfl : _ = b := Option.some.inj hb
  exact ⟨by simp, by simp, by simp, fun i hi => by simp at hi⟩
theorem tm0_may : modP tm0 := by
  have h : Runs prog 21 [.agg te0] (B true) := ⟨30, by kernel_rfl⟩
  have h' := Runs.det h (r8 tm0_rep)
  have : tt (modP tm0) = true := by
    injection h' with h'
    injection h' with h'
    exact h'.symm
  exact tt_iff.1 this
theorem one_digit {n : Nat} (h : n < 10) : Lib.itoa (n : Int) = [UInt8.ofNat (48 + n)] := by
  rw [Lib.itoa, if_neg (by omega), Int.toNat_natCast, Lib.decDigits_one h]
theorem tm0_text : modT tm0 = [102, 117, 110, 99, 32, 48, 32, 49, 10, 98, 108, 111, 99, 107, 10, 114, 101, 116, 32, 48, 10] := by
  have h0 : Lib.itoa 0 = [48] := one_digit (n := 0) (by omega)
  have h1 : Lib.itoa 1 = [49] := one_digit (n := 1) (by omega)
  simp [modT, tm0, funcT, blockT, headT, endT, lineT, numT, h0, h1]
theorem peql_str (a b : List UInt8) : pbin .str .eql (S a) (S b) = some (B (tt (a = b))) := by
  have : ((⟨⟨a⟩⟩ : ByteArray) = ⟨⟨b⟩⟩) ↔ a = b := by simp
  simp only [pbin, strBin, tt]
  congr 3
  exact tt_eq (by simp)
theorem peql_same (a : List UInt8) : pbin .str .eql (S a) (S a) = some (B true) := by rw [peql_str, tt_true rfl]
theorem awake_runs : Runs prog 5 [] (B true) := by
  have h9 := show_runs tm0_rep tm0_short (modT_room tm0_rep tm0_short)
  rw [showT, if_pos tm0_may, tm0_text, if_pos (by simp)] at h9
  have h2 : Lib.itoa 2 = [50] := one_digit (n := 2) (by omega)
  have h1 : Lib.itoa 1 = [49] := one_digit (n := 1) (by omega)
  have h3 : Lib.itoa 3 = [51] := one_digit (n := 3) (by omega)
  have h4 : Lib.itoa 4 = [52] := one_digit (n := 4) (by omega)
  have h7 : Lib.itoa 7 = [55] := one_digit (n := 7) (by omega)
  have z : inI 0 := by constructor <;> omega
  have i1 : inI 1 := by constructor <;> omega
  have i2 : inI 2 := by constructor <;> omega
  have i3 : inI 3 := by constructor <;> omega
  have i4 : inI 4 := by constructor <;> omega
  have i6 : inI 6 := by constructor <;> omega
  have w0 : inW 0 := by constructor <;> omega
  have w7 : inW 7 := by constructor <;> omega
  have hi : Runs prog 9 [.agg [I 3, I 1, I 2, I 3, W 0, I 0, .lit (.slice none 0 0)]] (S [97, 100, 100, 32, 49, 32, 50, 32, 51]) := by
    have := ins_runs (q := none) (e := [I 3, I 1, I 2, I 3, W 0, I 0, .lit (.slice none 0 0)]) (x := ⟨3, 1, 2, 3, 0, 0, []⟩) ⟨_, rfl, .nil, i3, i1, i2, i3, w0, z⟩ (by simp)
    simpa [insT, lineT, numT, h1, h2, h3] using this
  have he : Runs prog 11 [.agg [I 6, I 0, I 0, I 0, .lit (.slice none 0 0), I 0, I 0, I 0]] (S [114, 101, 115, 117, 109, 101]) := by
    have := end_runs (q := none) (e := [I 6, I 0, I 0, I 0, .lit (.slice none 0 0), I 0, I 0, I 0]) (x := ⟨6, 0, 0, 0, [], 0, 0, 0⟩) ⟨_, rfl, .nil, i6, z, z, z, z, z, z⟩ (by simp)
    simpa [endT, lineT, numT] using this
  have hp : Runs prog 13 [.agg [I 4, frz (TV.sl true 1 (chunks 1 1 [W 7])), B true, B false]] (S [112, 97, 100, 32, 52, 32, 99, 97, 116, 99, 104, 32, 55, 32, 97, 108, 108]) := by
    have := pad_runs (q := some false) (e := [I 4, frz (TV.sl true 1 (chunks 1 1 [W 7])), B true, B false]) (x := ⟨4, [7], true, false⟩) ⟨_, rfl, .sl (fun b h => by cases h; rfl) (.cons ⟨rfl, w7⟩ .nil) (show 1 ≤ 9223372036854775807 by omega), i4⟩ (by simp)
    simpa [padT, lineT, numT, h4, h7] using this
  refine Runs.of f5_MR ?_
  unfold f5_M
  refine Goes.call h9 ?_
  refine Goes.chk rfl (Goes.chk rfl (Goes.chk rfl (Goes.tv rfl (Goes.ite (v := true) rfl (fun _ => ?_) fun h => nomatch h))))
  refine Goes.tv (v := B true) (peql_same _) (Goes.ite rfl (fun _ => ?_) fun h => nomatch h)
  refine Goes.call hi (Goes.chk rfl (Goes.tv (v := B true) (peql_same _) (Goes.ite rfl (fun _ => ?_) fun h => nomatch h)))
  refine Goes.call he (Goes.chk rfl (Goes.tv (v := B true) (peql_same _) (Goes.ite rfl (fun _ => ?_) fun h => nomatch h)))
  exact Goes.call hp (Goes.chk rfl (Goes.tv (v := B true) (peql_same _) Goes.ret))
end Go.Ab.D5


/- The law of layer 3: how many lines a text has. No condition. -/
set_option linter.unusedVariables false
set_option maxRecDepth 20000
namespace Go.Ab.D5
open Go Go.Ab Go.Proofs
end Go.Ab.D5

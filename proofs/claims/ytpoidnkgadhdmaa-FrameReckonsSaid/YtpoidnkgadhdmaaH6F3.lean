
/- What the functions of layer 2 answer: when two are the same. No condition. -/
import Derived.Test.YtpoidnkgadhdmaaF1
import Derived.Test.YtpoidnkgadhdmaaH6Xa
import Derived.Test.YtpoidnkgadhdmaaH6Xb
import Derived.Test.YtpoidnkgadhdmaaH6Xc
import Derived.Test.YtpoidnkgadhdmaaH6Xd
set_option linter.unusedVariables false
set_option maxRecDepth 10000
namespace Go.Ab.H6
open Go Go.Ab Go.Proofs

theorem r58 {q q' : Option Bool} {x y : TV} {l m : List Int} (hx : RInts q x l) (hy : RInts q' y m) : Runs prog 124 [x, y] (B (tt (l = m))) := by
  refine Runs.of (f124_MR _ _) ?_
  unfold f124_M
  repeat' (first
    | refine Goes.chk rfl ?_
    | refine Goes.tv rfl ?_
    | refine Goes.tv (RL.len (by assumption)) ?_
    | refine Goes.nat rfl ?_
    | refine Goes.ite rfl (fun _ => ?_) (fun _ => ?_)
    | refine Goes.call (by assumption) ?_
    | refine Goes.tvs (by assumption) ?_)
  · rename_i h
    have h : ¬ l = m := by rintro rfl; simp at h
    exact ret_no h
  · rename_i h
    have hlen : l.length = m.length := by simp at h; omega
    refine Goes.jmp (f124_0_R _ _ _ _) ?_
    rw [tt_congr (list_eq_iff' hlen)]
    refine allLoop' (g := fun k => f124_0 x y (I l.length) (I k)) ?_ ?_
    · unfold f124_0
      refine Goes.tv rfl (Goes.ite asB_end (fun h => nomatch h) fun _ => Goes.ret)
    · intro k hk r h1 h2
      have hk' : k < m.length := by omega
      have ha : l[k]? = some l[k] := List.getElem?_eq_getElem hk
      have hb : m[k]? = some m[k] := List.getElem?_eq_getElem hk'
      obtain ⟨e, he, rfl, _⟩ := hx.idx (k := .i64) ha
      obtain ⟨e', he', rfl, _⟩ := hy.idx (k := .i64) hb
      unfold f124_0
      refine Goes.tv rfl (Goes.ite (asB_lt hk) (fun _ => ?_) fun h => nomatch h)
      refine Goes.tvs he (Goes.chk rfl (Goes.tvs he' (Goes.chk rfl (Goes.tv rfl (Goes.ite rfl (fun h => ?_) fun h => ?_)))))
      · rw [h1 (by rw [ha, hb]; simpa using h)]; exact Goes.ret
      · refine Goes.tv (inc hk hx.bnd) (Goes.jmp (f124_0_R _ _ _ _) (h2 ?_))
        rw [ha, hb]; simpa using h

theorem r57 {q q' : Option Bool} {x y : TV} {l m : List Int} (hx : RWords q x l) (hy : RWords q' y m) : Runs prog 123 [x, y] (B (tt (l = m))) := by
  refine Runs.of (f123_MR _ _) ?_
  unfold f123_M
  repeat' (first
    | refine Goes.chk rfl ?_
    | refine Goes.tv rfl ?_
    | refine Goes.tv (RL.len (by assumption)) ?_
    | refine Goes.nat rfl ?_
    | refine Goes.ite rfl (fun _ => ?_) (fun _ => ?_)
    | refine Goes.call (by assumption) ?_
    | refine Goes.tvs (by assumption) ?_)
  · rename_i h
    have h : ¬ l = m := by rintro rfl; simp at h
    exact ret_no h
  · rename_i h
    have hlen : l.length = m.length := by simp at h; omega
    refine Goes.jmp (f123_0_R _ _ _ _) ?_
    rw [tt_congr (list_eq_iff' hlen)]
    refine allLoop' (g := fun k => f123_0 x y (I l.length) (I k)) ?_ ?_
    · unfold f123_0
      refine Goes.tv rfl (Goes.ite asB_end (fun h => nomatch h) fun _ => Goes.ret)
    · intro k hk r h1 h2
      have hk' : k < m.length := by omega
      have ha : l[k]? = some l[k] := List.getElem?_eq_getElem hk
      have hb : m[k]? = some m[k] := List.getElem?_eq_getElem hk'
      obtain ⟨e, he, rfl, _⟩ := hx.idx (k := .i64) ha
      obtain ⟨e', he', rfl, _⟩ := hy.idx (k := .i64) hb
      unfold f123_0
      refine Goes.tv rfl (Goes.ite (asB_lt hk) (fun _ => ?_) fun h => nomatch h)
      refine Goes.tvs he (Goes.chk rfl (Goes.tvs he' (Goes.chk rfl (Goes.tv rfl (Goes.ite rfl (fun h => ?_) fun h => ?_)))))
      · rw [h1 (by rw [ha, hb]; simpa using h)]; exact Goes.ret
      · refine Goes.tv (inc hk hx.bnd) (Goes.jmp (f123_0_R _ _ _ _) (h2 ?_))
        rw [ha, hb]; simpa using h

theorem ins_eq {a b : DIns} : a = b ↔ a.op = b.op ∧ a.dst = b.dst ∧ a.a = b.a ∧ a.b = b.b ∧ a.k = b.k ∧ a.f = b.f ∧ a.args = b.args := by
  cases a; cases b; simp
theorem end_eq {a b : DEnd} : a = b ↔ a.kind = b.kind ∧ a.a = b.a ∧ a.dst = b.dst ∧ a.f = b.f ∧ a.args = b.args ∧ a.to = b.to ∧ a.els = b.els ∧ a.pad = b.pad := by
  cases a; cases b; simp
theorem pad_eq {a b : DPad} : a = b ↔ a.dst = b.dst ∧ a.catches = b.catches ∧ a.all = b.all ∧ a.cleanup = b.cleanup := by
  cases a; cases b; simp
theorem block_eq {a b : DBlock} : a = b ↔ a.landing = b.landing ∧ a.pad = b.pad ∧ a.ins = b.ins ∧ a.fin = b.fin := by
  cases a; cases b; simp
theorem func_eq {a b : DFunc} : a = b ↔ a.params = b.params ∧ a.regs = b.regs ∧ a.blocks = b.blocks := by
  cases a; cases b; simp
theorem mod_eq {a b : DMod} : a = b ↔ a.funcs = b.funcs := by
  cases a; cases b; simp

theorem r54 {q q' : Option Bool} {e e' : List TV} {a b : DIns} (ha : RIns q e a) (hb : RIns q' e' b) : Runs prog 100 [.agg e, .agg e'] (B (tt (a = b))) := by
  obtain ⟨g, rfl, hg, _⟩ := ha
  obtain ⟨g', rfl, hg', _⟩ := hb
  have h58 := r58 hg hg'
  refine Runs.of (f100_MR _ _) ?_
  unfold f100_M
  repeat' (first
    | refine Goes.chk rfl ?_
    | refine Goes.tv rfl ?_
    | refine Goes.tv (RL.len (by assumption)) ?_
    | refine Goes.nat rfl ?_
    | refine Goes.ite rfl (fun _ => ?_) (fun _ => ?_)
    | refine Goes.call (by assumption) ?_
    | refine Goes.tvs (by assumption) ?_)
  · apply ret_tt; rw [ins_eq]; simp_all [tt_iff]
  all_goals (apply ret_no; rw [ins_eq]; simp_all)

theorem r53 {q q' : Option Bool} {x y : TV} {l m : List DIns} {g : FuncId} (hg : ∀ e e' a b, RIns q e a → RIns q' e' b → Runs prog g [.agg e, .agg e'] (B (tt (a = b)))) (hgl : (prog.lent g).isNone = true) (hx : RL q 7 (RIns q) x l) (hy : RL q' 7 (RIns q') y m) :
    Runs prog 99 [x, y, .lit (.func (.func g) #[] #[])] (B (tt (l = m))) := by
  refine Runs.of (f99_MR _ _ _) ?_
  unfold f99_M
  repeat' (first
    | refine Goes.chk rfl ?_
    | refine Goes.tv rfl ?_
    | refine Goes.tv (RL.len (by assumption)) ?_
    | refine Goes.nat rfl ?_
    | refine Goes.ite rfl (fun _ => ?_) (fun _ => ?_)
    | refine Goes.call (by assumption) ?_
    | refine Goes.tvs (by assumption) ?_)
  · rename_i h
    have h : ¬ l = m := by rintro rfl; simp at h
    exact ret_no h
  · rename_i h
    have hlen : l.length = m.length := by simp at h; omega
    refine Goes.jmp (f99_0_R _ _ _ _ _) ?_
    rw [tt_congr (list_eq_iff' hlen)]
    refine allLoop' (g := fun k => f99_0 y (.lit (.func (.func g) #[] #[])) x (I l.length) (I k)) ?_ ?_
    · unfold f99_0
      refine Goes.tv rfl (Goes.ite asB_end (fun h => nomatch h) fun _ => Goes.ret)
    · intro k hk r h1 h2
      have hk' : k < m.length := by omega
      have ha : l[k]? = some l[k] := List.getElem?_eq_getElem hk
      have hb : m[k]? = some m[k] := List.getElem?_eq_getElem hk'
      obtain ⟨e, he, hea⟩ := hx.idx (k := .i64) ha
      obtain ⟨e', he', heb⟩ := hy.idx (k := .i64) hb
      have hc := hg _ _ _ _ hea heb
      obtain ⟨_, rfl, _⟩ := hea
      obtain ⟨_, rfl, _⟩ := heb
      unfold f99_0
      refine Goes.tv rfl (Goes.ite (asB_lt hk) (fun _ => ?_) fun h => nomatch h)
      refine Goes.tvs he (Goes.chk rfl (Goes.tvs he' (Goes.chk rfl (Goes.nat rfl (Goes.chk hgl (Goes.call hc (Goes.chk rfl (Goes.tv rfl (Goes.ite rfl (fun h => ?_) fun h => ?_)))))))))
      · rw [h1 (by rw [ha, hb]; simpa [tt] using h)]; exact Goes.ret
      · refine Goes.tv (inc hk hx.bnd) (Goes.jmp (f99_0_R _ _ _ _ _) (h2 ?_))
        rw [ha, hb]; simpa [tt] using h


theorem r55 {q q' : Option Bool} {e e' : List TV} {a b : DEnd} (ha : REnd q e a) (hb : REnd q' e' b) : Runs prog 101 [.agg e, .agg e'] (B (tt (a = b))) := by
  obtain ⟨g, rfl, hg, _⟩ := ha
  obtain ⟨g', rfl, hg', _⟩ := hb
  have h58 := r58 hg hg'
  refine Runs.of (f101_MR _ _) ?_
  unfold f101_M
  repeat' (first
    | refine Goes.chk rfl ?_
    | refine Goes.tv rfl ?_
    | refine Goes.tv (RL.len (by assumption)) ?_
    | refine Goes.nat rfl ?_
    | refine Goes.ite rfl (fun _ => ?_) (fun _ => ?_)
    | refine Goes.call (by assumption) ?_
    | refine Goes.tvs (by assumption) ?_)
  · apply ret_tt; rw [end_eq]; simp_all [tt]
  all_goals (apply ret_no; rw [end_eq]; simp_all [tt])
theorem r52 {q q' : Option Bool} {e e' : List TV} {a b : DPad} (ha : RPad q e a) (hb : RPad q' e' b) : Runs prog 98 [.agg e, .agg e'] (B (tt (a = b))) := by
  obtain ⟨g, rfl, hg, _⟩ := ha
  obtain ⟨g', rfl, hg', _⟩ := hb
  have h57 := r57 hg hg'
  refine Runs.of (f98_MR _ _) ?_
  unfold f98_M
  repeat' (first
    | refine Goes.chk rfl ?_
    | refine Goes.tv rfl ?_
    | refine Goes.tv (RL.len (by assumption)) ?_
    | refine Goes.nat rfl ?_
    | refine Goes.ite rfl (fun _ => ?_) (fun _ => ?_)
    | refine Goes.call (by assumption) ?_
    | refine Goes.tvs (by assumption) ?_)
  · apply ret_tt; rw [pad_eq]; simp_all [tt]
  all_goals (apply ret_no; rw [pad_eq]; simp_all [tt])
theorem r43 {q q' : Option Bool} {e e' : List TV} {a b : DBlock} (ha : RBlock q e a) (hb : RBlock q' e' b) : Runs prog 74 [.agg e, .agg e'] (B (tt (a = b))) := by
  obtain ⟨c, i, g, rfl, hc, hd, hi, hg, ho⟩ := ha
  obtain ⟨c', i', g', rfl, hc', hd', hi', hg', ho'⟩ := hb
  have h52 := r52 (q := q) (q' := q') (a := a.pad) (b := b.pad) ⟨c, rfl, hc, hd⟩ ⟨c', rfl, hc', hd'⟩
  have h53 := r53 (fun _ _ _ _ h h' => r54 h h') rfl hi hi'
  have h55 := r55 (q := q) (q' := q') (a := a.fin) (b := b.fin) ⟨g, rfl, hg, ho⟩ ⟨g', rfl, hg', ho'⟩
  refine Runs.of (f74_MR _ _) ?_
  unfold f74_M
  repeat' (first
    | refine Goes.chk rfl ?_
    | refine Goes.tv rfl ?_
    | refine Goes.tv (RL.len (by assumption)) ?_
    | refine Goes.nat rfl ?_
    | refine Goes.ite rfl (fun _ => ?_) (fun _ => ?_)
    | refine Goes.call (by assumption) ?_
    | refine Goes.tvs (by assumption) ?_)
  · apply ret_tt; rw [block_eq]; simp_all [tt]
  all_goals (apply ret_no; rw [block_eq]; simp_all [tt])

theorem r42 {q q' : Option Bool} {x y : TV} {l m : List DBlock} {g : FuncId} (hg : ∀ e e' a b, RBlock q e a → RBlock q' e' b → Runs prog g [.agg e, .agg e'] (B (tt (a = b)))) (hgl : (prog.lent g).isNone = true) (hx : RL q 14 (RBlock q) x l) (hy : RL q' 14 (RBlock q') y m) :
    Runs prog 73 [x, y, .lit (.func (.func g) #[] #[])] (B (tt (l = m))) := by
  refine Runs.of (f73_MR _ _ _) ?_
  unfold f73_M
  repeat' (first
    | refine Goes.chk rfl ?_
    | refine Goes.tv rfl ?_
    | refine Goes.tv (RL.len (by assumption)) ?_
    | refine Goes.nat rfl ?_
    | refine Goes.ite rfl (fun _ => ?_) (fun _ => ?_)
    | refine Goes.call (by assumption) ?_
    | refine Goes.tvs (by assumption) ?_)
  · rename_i h
    have h : ¬ l = m := by rintro rfl; simp at h
    exact ret_no h
  · rename_i h
    have hlen : l.length = m.length := by simp at h; omega
    refine Goes.jmp (f73_0_R _ _ _ _ _) ?_
    rw [tt_congr (list_eq_iff' hlen)]
    refine allLoop' (g := fun k => f73_0 y (.lit (.func (.func g) #[] #[])) x (I l.length) (I k)) ?_ ?_
    · unfold f73_0
      refine Goes.tv rfl (Goes.ite asB_end (fun h => nomatch h) fun _ => Goes.ret)
    · intro k hk r h1 h2
      have hk' : k < m.length := by omega
      have ha : l[k]? = some l[k] := List.getElem?_eq_getElem hk
      have hb : m[k]? = some m[k] := List.getElem?_eq_getElem hk'
      obtain ⟨e, he, hea⟩ := hx.idx (k := .i64) ha
      obtain ⟨e', he', heb⟩ := hy.idx (k := .i64) hb
      have hc := hg _ _ _ _ hea heb
      obtain ⟨_, _, _, rfl, _⟩ := hea
      obtain ⟨_, _, _, rfl, _⟩ := heb
      unfold f73_0
      refine Goes.tv rfl (Goes.ite (asB_lt hk) (fun _ => ?_) fun h => nomatch h)
      refine Goes.tvs he (Goes.chk rfl (Goes.tvs he' (Goes.chk rfl (Goes.nat rfl (Goes.chk hgl (Goes.call hc (Goes.chk rfl (Goes.tv rfl (Goes.ite rfl (fun h => ?_) fun h => ?_)))))))))
      · rw [h1 (by rw [ha, hb]; simpa [tt] using h)]; exact Goes.ret
      · refine Goes.tv (inc hk hx.bnd) (Goes.jmp (f73_0_R _ _ _ _ _) (h2 ?_))
        rw [ha, hb]; simpa [tt] using h


theorem r30 {q q' : Option Bool} {e e' : List TV} {a b : DFunc} (ha : RFunc q e a) (hb : RFunc q' e' b) : Runs prog 48 [.agg e, .agg e'] (B (tt (a = b))) := by
  obtain ⟨g, rfl, hg, _⟩ := ha
  obtain ⟨g', rfl, hg', _⟩ := hb
  have h42 := r42 (fun _ _ _ _ h h' => r43 h h') rfl hg hg'
  refine Runs.of (f48_MR _ _) ?_
  unfold f48_M
  repeat' (first
    | refine Goes.chk rfl ?_
    | refine Goes.tv rfl ?_
    | refine Goes.tv (RL.len (by assumption)) ?_
    | refine Goes.nat rfl ?_
    | refine Goes.ite rfl (fun _ => ?_) (fun _ => ?_)
    | refine Goes.call (by assumption) ?_
    | refine Goes.tvs (by assumption) ?_)
  · apply ret_tt; rw [func_eq]; simp_all [tt]
  all_goals (apply ret_no; rw [func_eq]; simp_all [tt])

theorem r29 {q q' : Option Bool} {x y : TV} {l m : List DFunc} {g : FuncId} (hg : ∀ e e' a b, RFunc q e a → RFunc q' e' b → Runs prog g [.agg e, .agg e'] (B (tt (a = b)))) (hgl : (prog.lent g).isNone = true) (hx : RL q 3 (RFunc q) x l) (hy : RL q' 3 (RFunc q') y m) :
    Runs prog 47 [x, y, .lit (.func (.func g) #[] #[])] (B (tt (l = m))) := by
  refine Runs.of (f47_MR _ _ _) ?_
  unfold f47_M
  repeat' (first
    | refine Goes.chk rfl ?_
    | refine Goes.tv rfl ?_
    | refine Goes.tv (RL.len (by assumption)) ?_
    | refine Goes.nat rfl ?_
    | refine Goes.ite rfl (fun _ => ?_) (fun _ => ?_)
    | refine Goes.call (by assumption) ?_
    | refine Goes.tvs (by assumption) ?_)
  · rename_i h
    have h : ¬ l = m := by rintro rfl; simp at h
    exact ret_no h
  · rename_i h
    have hlen : l.length = m.length := by simp at h; omega
    refine Goes.jmp (f47_0_R _ _ _ _ _) ?_
    rw [tt_congr (list_eq_iff' hlen)]
    refine allLoop' (g := fun k => f47_0 y (.lit (.func (.func g) #[] #[])) x (I l.length) (I k)) ?_ ?_
    · unfold f47_0
      refine Goes.tv rfl (Goes.ite asB_end (fun h => nomatch h) fun _ => Goes.ret)
    · intro k hk r h1 h2
      have hk' : k < m.length := by omega
      have ha : l[k]? = some l[k] := List.getElem?_eq_getElem hk
      have hb : m[k]? = some m[k] := List.getElem?_eq_getElem hk'
      obtain ⟨e, he, hea⟩ := hx.idx (k := .i64) ha
      obtain ⟨e', he', heb⟩ := hy.idx (k := .i64) hb
      have hc := hg _ _ _ _ hea heb
      obtain ⟨_, rfl, _⟩ := hea
      obtain ⟨_, rfl, _⟩ := heb
      unfold f47_0
      refine Goes.tv rfl (Goes.ite (asB_lt hk) (fun _ => ?_) fun h => nomatch h)
      refine Goes.tvs he (Goes.chk rfl (Goes.tvs he' (Goes.chk rfl (Goes.nat rfl (Goes.chk hgl (Goes.call hc (Goes.chk rfl (Goes.tv rfl (Goes.ite rfl (fun h => ?_) fun h => ?_)))))))))
      · rw [h1 (by rw [ha, hb]; simpa [tt] using h)]; exact Goes.ret
      · refine Goes.tv (inc hk hx.bnd) (Goes.jmp (f47_0_R _ _ _ _ _) (h2 ?_))
        rw [ha, hb]; simpa [tt] using h


/-- shape.Same -/
theorem r17 {q q' : Option Bool} {e e' : List TV} {a b : DMod} (ha : RMod q e a) (hb : RMod q' e' b) : Runs prog 15 [.agg e, .agg e'] (B (tt (a = b))) := by
  obtain ⟨g, rfl, hg⟩ := ha
  obtain ⟨g', rfl, hg'⟩ := hb
  have h29 := r29 (fun _ _ _ _ h h' => r30 h h') rfl hg hg'
  refine Runs.of (f15_MR _ _) ?_
  unfold f15_M
  repeat' (first
    | refine Goes.chk rfl ?_
    | refine Goes.tv rfl ?_
    | refine Goes.tv (RL.len (by assumption)) ?_
    | refine Goes.nat rfl ?_
    | refine Goes.ite rfl (fun _ => ?_) (fun _ => ?_)
    | refine Goes.call (by assumption) ?_
    | refine Goes.tvs (by assumption) ?_)
  rw [tt_congr mod_eq]; exact Goes.ret

/-! ### the document's -/
/-- davitref02.Ints -/
theorem r14 {q q' : Option Bool} {x y : TV} {l m : List Int} (hx : RInts q x l) (hy : RInts q' y m) : Runs prog 62 [x, y] (B (tt (l = m))) := by
  refine Runs.of (f62_MR _ _) ?_
  unfold f62_M
  repeat' (first
    | refine Goes.chk rfl ?_
    | refine Goes.tv rfl ?_
    | refine Goes.tv (RL.len (by assumption)) ?_
    | refine Goes.nat rfl ?_
    | refine Goes.ite rfl (fun _ => ?_) (fun _ => ?_)
    | refine Goes.call (by assumption) ?_
    | refine Goes.tvs (by assumption) ?_)
  · rename_i h
    have h : ¬ l = m := by rintro rfl; simp at h
    exact ret_no h
  · rename_i h
    have hlen : l.length = m.length := by simp at h; omega
    refine Goes.jmp (f62_0_R _ _ _) ?_
    rw [tt_congr (list_eq_iff' hlen)]
    refine allLoop' (g := fun k => f62_0 x y (I k)) ?_ ?_
    · unfold f62_0
      refine Goes.tv hx.len (Goes.tv rfl (Goes.ite asB_end (fun h => nomatch h) fun _ => Goes.ret))
    · intro k hk r h1 h2
      have hk' : k < m.length := by omega
      have ha : l[k]? = some l[k] := List.getElem?_eq_getElem hk
      have hb : m[k]? = some m[k] := List.getElem?_eq_getElem hk'
      obtain ⟨e, he, rfl, _⟩ := hx.idx (k := .i64) ha
      obtain ⟨e', he', rfl, _⟩ := hy.idx (k := .i64) hb
      unfold f62_0
      refine Goes.tv hx.len (Goes.tv rfl (Goes.ite (asB_lt hk) (fun _ => ?_) fun h => nomatch h))
      refine Goes.tvs he (Goes.chk rfl (Goes.tvs he' (Goes.chk rfl (Goes.tv rfl (Goes.ite rfl (fun h => ?_) fun h => ?_)))))
      · rw [h1 (by rw [ha, hb]; simpa using h)]; exact Goes.ret
      · refine Goes.tv (inc hk hx.bnd) (Goes.jmp (f62_0_R _ _ _) (h2 ?_))
        rw [ha, hb]; simpa using h
theorem r46 {q q' : Option Bool} {e e' : List TV} {a b : DIns} (ha : RIns q e a) (hb : RIns q' e' b) : Runs prog 77 [.agg e, .agg e'] (B (tt (a = b))) := by
  obtain ⟨g, rfl, hg, _⟩ := ha
  obtain ⟨g', rfl, hg', _⟩ := hb
  have h14 := r14 hg hg'
  refine Runs.of (f77_MR _ _) ?_
  unfold f77_M
  repeat' (first
    | refine Goes.chk rfl ?_
    | refine Goes.tv rfl ?_
    | refine Goes.tv (RL.len (by assumption)) ?_
    | refine Goes.nat rfl ?_
    | refine Goes.ite rfl (fun _ => ?_) (fun _ => ?_)
    | refine Goes.call (by assumption) ?_
    | refine Goes.tvs (by assumption) ?_)
  · apply ret_tt; rw [ins_eq]; simp_all [tt]
  all_goals (apply ret_no; rw [ins_eq]; simp_all [tt])
theorem r45 {q q' : Option Bool} {e e' : List TV} {a b : DEnd} (ha : REnd q e a) (hb : REnd q' e' b) : Runs prog 76 [.agg e, .agg e'] (B (tt (a = b))) := by
  obtain ⟨g, rfl, hg, _⟩ := ha
  obtain ⟨g', rfl, hg', _⟩ := hb
  have h14 := r14 hg hg'
  refine Runs.of (f76_MR _ _) ?_
  unfold f76_M
  repeat' (first
    | refine Goes.chk rfl ?_
    | refine Goes.tv rfl ?_
    | refine Goes.tv (RL.len (by assumption)) ?_
    | refine Goes.nat rfl ?_
    | refine Goes.ite rfl (fun _ => ?_) (fun _ => ?_)
    | refine Goes.call (by assumption) ?_
    | refine Goes.tvs (by assumption) ?_)
  · apply ret_tt; rw [end_eq]; simp_all [tt]
  all_goals (apply ret_no; rw [end_eq]; simp_all [tt])
theorem r44 {q q' : Option Bool} {e e' : List TV} {a b : DPad} (ha : RPad q e a) (hb : RPad q' e' b) : Runs prog 75 [.agg e, .agg e'] (B (tt (a = b))) := by
  obtain ⟨x, rfl, hx, _⟩ := ha
  obtain ⟨y, rfl, hy, _⟩ := hb
  refine Runs.of (f75_MR _ _) ?_
  unfold f75_M
  repeat' (first
    | refine Goes.chk rfl ?_
    | refine Goes.tv rfl ?_
    | refine Goes.tv (RL.len (by assumption)) ?_
    | refine Goes.nat rfl ?_
    | refine Goes.ite rfl (fun _ => ?_) (fun _ => ?_)
    | refine Goes.call (by assumption) ?_
    | refine Goes.tvs (by assumption) ?_)
  · apply ret_no; rw [pad_eq]; simp_all
  · apply ret_no; rw [pad_eq]; simp_all
  · apply ret_no; rw [pad_eq]; simp_all
  · rename_i h
    apply ret_no; rw [pad_eq]
    intro h'
    rw [h'.2.1] at h
    simp at h
  · rename_i h1 h2 h3 h
    have hlen : a.catches.length = b.catches.length := by simp at h; omega
    refine Goes.jmp (f75_0_R _ _ _ _ _ _ _ _ _) ?_
    have hp : a = b ↔ ∀ i, i < a.catches.length → a.catches[i]? = b.catches[i]? := by
      rw [pad_eq, list_eq_iff' hlen]
      simp at h1 h2 h3
      exact ⟨fun h => h.2.1, fun h => ⟨h1, h, h2, h3⟩⟩
    rw [tt_congr hp]
    refine allLoop' (g := fun k => f75_0 (I k) (I a.dst) x (B a.all) (B a.cleanup) (I b.dst) y (B b.all) (B b.cleanup)) ?_ ?_
    · unfold f75_0
      refine Goes.tv hx.len (Goes.tv rfl (Goes.ite asB_end (fun h => nomatch h) fun _ => Goes.ret))
    · intro k hk r h1 h2
      have hk' : k < b.catches.length := by omega
      have ha : a.catches[k]? = some a.catches[k] := List.getElem?_eq_getElem hk
      have hb : b.catches[k]? = some b.catches[k] := List.getElem?_eq_getElem hk'
      obtain ⟨e, he, rfl, _⟩ := hx.idx (k := .i64) ha
      obtain ⟨e', he', rfl, _⟩ := hy.idx (k := .i64) hb
      unfold f75_0
      refine Goes.tv hx.len (Goes.tv rfl (Goes.ite (asB_lt hk) (fun _ => ?_) fun h => nomatch h))
      refine Goes.tvs he (Goes.chk rfl (Goes.tvs he' (Goes.chk rfl (Goes.tv rfl (Goes.ite rfl (fun h => ?_) fun h => ?_)))))
      · rw [h1 (by rw [ha, hb]; simpa using h)]; exact Goes.ret
      · refine Goes.tv (inc hk hx.bnd) (Goes.jmp (f75_0_R _ _ _ _ _ _ _ _ _) (h2 ?_))
        rw [ha, hb]; simpa using h

theorem r31 {q q' : Option Bool} {e e' : List TV} {a b : DFunc} (ha : RFunc q e a) (hb : RFunc q' e' b) : Runs prog 49 [.agg e, .agg e'] (B (tt (a = b))) := by
  obtain ⟨x, rfl, hx, _⟩ := ha
  obtain ⟨y, rfl, hy, _⟩ := hb
  refine Runs.of (f49_MR _ _) ?_
  unfold f49_M
  repeat' (first
    | refine Goes.chk rfl ?_
    | refine Goes.tv rfl ?_
    | refine Goes.tv (RL.len (by assumption)) ?_
    | refine Goes.nat rfl ?_
    | refine Goes.ite rfl (fun _ => ?_) (fun _ => ?_)
    | refine Goes.call (by assumption) ?_
    | refine Goes.tvs (by assumption) ?_)
  · apply ret_no; rw [func_eq]; simp_all
  · apply ret_no; rw [func_eq]; simp_all
  · rename_i h
    apply ret_no; rw [func_eq]
    intro h'
    rw [h'.2.2] at h
    simp at h
  · rename_i h1 h2 h
    have hlen : a.blocks.length = b.blocks.length := by simp at h; omega
    refine Goes.jmp (f49_0_R _ _ _ _ _ _ _) ?_
    have hp : a = b ↔ ∀ i, i < a.blocks.length → a.blocks[i]? = b.blocks[i]? := by
      rw [func_eq, list_eq_iff' hlen]
      simp at h1 h2
      exact ⟨fun h => h.2.2, fun h => ⟨h1, h2, h⟩⟩
    rw [tt_congr hp]
    refine allLoop' (g := fun k => f49_0 (I k) (I a.params) (I a.regs) x (I b.params) (I b.regs) y) ?_ ?_
    · unfold f49_0
      refine Goes.tv hx.len (Goes.tv rfl (Goes.ite asB_end (fun h => nomatch h) fun _ => Goes.ret))
    · intro k hk r h1 h2
      have hk' : k < b.blocks.length := by omega
      have hak : a.blocks[k]? = some a.blocks[k] := List.getElem?_eq_getElem hk
      have hbk : b.blocks[k]? = some b.blocks[k] := List.getElem?_eq_getElem hk'
      obtain ⟨e, he, hea⟩ := hx.idx (k := .i64) hak
      obtain ⟨e', he', heb⟩ := hy.idx (k := .i64) hbk
      rw [hak, hbk, Option.some_inj, block_eq] at h1 h2
      generalize a.blocks[k] = u at *
      generalize b.blocks[k] = v at *
      obtain ⟨c, i, g, rfl, hc, hd, hi, hg, ho⟩ := hea
      obtain ⟨c', i', g', rfl, hc', hd', hi', hg', ho'⟩ := heb
      have h44 := r44 (q := q) (q' := q') (a := u.pad) (b := v.pad) ⟨c, rfl, hc, hd⟩ ⟨c', rfl, hc', hd'⟩
      have h45 := r45 (q := q) (q' := q') (a := u.fin) (b := v.fin) ⟨g, rfl, hg, ho⟩ ⟨g', rfl, hg', ho'⟩
      unfold f49_0
      refine Goes.tv hx.len (Goes.tv rfl (Goes.ite (asB_lt hk) (fun _ => ?_) fun h => nomatch h))
      refine Goes.tvs he (Goes.chk rfl (Goes.tvs he' (Goes.chk rfl (Goes.tv rfl (Goes.ite rfl (fun h => ?_) fun h3 => ?_)))))
      · rw [h1 (by simp at h; simp [h])]; exact Goes.ret
      · refine Goes.call h44 (Goes.chk rfl (Goes.tv rfl (Goes.ite rfl (fun h => ?_) fun h4 => ?_)))
        · rw [h1 (by simp [tt] at h; simp [h])]; exact Goes.ret
        · refine Goes.call h45 (Goes.chk rfl (Goes.tv rfl (Goes.ite rfl (fun h => ?_) fun h5 => ?_)))
          · rw [h1 (by simp [tt] at h; simp [h])]; exact Goes.ret
          · refine Goes.tv hi.len (Goes.tv hi'.len (Goes.tv rfl (Goes.ite rfl (fun h => ?_) fun h6 => ?_)))
            · rw [h1 (by intro h'; rw [h'.2.2.1] at h; simp at h)]; exact Goes.ret
            · refine Goes.jmp (f49_1_R _ _ _ _ _ _ _ _ _ _ _ _ _ _ _ _ _ _ _ _ _ _ _ _ _ _ _ _ _ _ _ _ _ _ _ _) ?_
              have hil : u.ins.length = v.ins.length := by simp at h6; omega
              simp [tt] at h3 h4 h5
              refine allLoopR (n := u.ins.length) (P := fun j => u.ins[j]? = v.ins[j]?) (g := fun j => f49_1 (I k) (I j) (I a.params) (I a.regs) x (I b.params) (I b.regs) y (B u.landing) (I u.pad.dst) c (B u.pad.all) (B u.pad.cleanup) i (I u.fin.kind) (I u.fin.a) (I u.fin.dst) (I u.fin.f) g (I u.fin.to) (I u.fin.els) (I u.fin.pad) (B v.landing) (I v.pad.dst) c' (B v.pad.all) (B v.pad.cleanup) i' (I v.fin.kind) (I v.fin.a) (I v.fin.dst) (I v.fin.f) g' (I v.fin.to) (I v.fin.els) (I v.fin.pad)) ?_ ?_ ?_
              · intro hn; exact h1 fun h' => hn ((list_eq_iff' hil).1 h'.2.2.1)
              · intro hn
                unfold f49_1
                refine Goes.tv hi.len (Goes.tv rfl (Goes.ite asB_end (fun h => nomatch h) fun _ => ?_))
                refine Goes.tv (inc hk hx.bnd) (Goes.jmp (f49_0_R _ _ _ _ _ _ _) (h2 ?_))
                exact ⟨h3, h4, (list_eq_iff' hil).2 hn, h5⟩
              · intro j hj r g1 g2
                have hj' : j < v.ins.length := by omega
                have hau : u.ins[j]? = some u.ins[j] := List.getElem?_eq_getElem hj
                have hbu : v.ins[j]? = some v.ins[j] := List.getElem?_eq_getElem hj'
                obtain ⟨e, he, hea⟩ := hi.idx (k := .i64) hau
                obtain ⟨e', he', heb⟩ := hi'.idx (k := .i64) hbu
                have h46 := r46 hea heb
                obtain ⟨_, rfl, _⟩ := hea
                obtain ⟨_, rfl, _⟩ := heb
                unfold f49_1
                refine Goes.tv hi.len (Goes.tv rfl (Goes.ite (asB_lt hj) (fun _ => ?_) fun h => nomatch h))
                refine Goes.tvs he (Goes.chk rfl (Goes.tvs he' (Goes.chk rfl (Goes.call h46 (Goes.chk rfl (Goes.tv rfl (Goes.ite rfl (fun h => ?_) fun h => ?_)))))))
                · rw [g1 (by rw [hau, hbu]; simpa [tt] using h)]; exact Goes.ret
                · refine Goes.tv (inc hj hi.bnd) (Goes.jmp (f49_1_R _ _ _ _ _ _ _ _ _ _ _ _ _ _ _ _ _ _ _ _ _ _ _ _ _ _ _ _ _ _ _ _ _ _ _ _) (g2 ?_))
                  rw [hau, hbu]; simpa [tt] using h

/-- davitref02.Same -/
theorem r18 {q q' : Option Bool} {e e' : List TV} {a b : DMod} (ha : RMod q e a) (hb : RMod q' e' b) : Runs prog 16 [.agg e, .agg e'] (B (tt (a = b))) := by
  obtain ⟨x, rfl, hx⟩ := ha
  obtain ⟨y, rfl, hy⟩ := hb
  refine Runs.of (f16_MR _ _) ?_
  unfold f16_M
  repeat' (first
    | refine Goes.chk rfl ?_
    | refine Goes.tv rfl ?_
    | refine Goes.tv (RL.len (by assumption)) ?_
    | refine Goes.nat rfl ?_
    | refine Goes.ite rfl (fun _ => ?_) (fun _ => ?_)
    | refine Goes.call (by assumption) ?_
    | refine Goes.tvs (by assumption) ?_)
  · rename_i h
    apply ret_no; rw [mod_eq]
    intro h'
    rw [h'] at h
    simp at h
  · rename_i h
    have hlen : a.funcs.length = b.funcs.length := by simp at h; omega
    refine Goes.jmp (f16_0_R _ _ _) ?_
    rw [tt_congr (mod_eq.trans (list_eq_iff' hlen))]
    refine allLoop' (g := fun k => f16_0 (I k) x y) ?_ ?_
    · unfold f16_0
      refine Goes.tv hx.len (Goes.tv rfl (Goes.ite asB_end (fun h => nomatch h) fun _ => Goes.ret))
    · intro k hk r h1 h2
      have hk' : k < b.funcs.length := by omega
      have hak : a.funcs[k]? = some a.funcs[k] := List.getElem?_eq_getElem hk
      have hbk : b.funcs[k]? = some b.funcs[k] := List.getElem?_eq_getElem hk'
      obtain ⟨e, he, hea⟩ := hx.idx (k := .i64) hak
      obtain ⟨e', he', heb⟩ := hy.idx (k := .i64) hbk
      have hc := r31 hea heb
      obtain ⟨_, rfl, _⟩ := hea
      obtain ⟨_, rfl, _⟩ := heb
      unfold f16_0
      refine Goes.tv hx.len (Goes.tv rfl (Goes.ite (asB_lt hk) (fun _ => ?_) fun h => nomatch h))
      refine Goes.tvs he (Goes.chk rfl (Goes.tvs he' (Goes.chk rfl (Goes.call hc (Goes.chk rfl (Goes.tv rfl (Goes.ite rfl (fun h => ?_) fun h => ?_)))))))
      · rw [h1 (by rw [hak, hbk]; simpa [tt] using h)]; exact Goes.ret
      · refine Goes.tv (inc hk hx.bnd) (Goes.jmp (f16_0_R _ _ _) (h2 ?_))
        rw [hak, hbk]; simpa [tt] using h
end Go.Ab.H6


/- What the functions of layer 2 answer: when two are the same. No condition. -/
import Derived.Test.YtpjgfmcefipjpaaDoorF1
import Derived.Test.YtpjgfmcefipjpaaDoorD3Xa
import Derived.Test.YtpjgfmcefipjpaaDoorD3Xb
import Derived.Test.YtpjgfmcefipjpaaDoorD3Xc
import Derived.Test.YtpjgfmcefipjpaaDoorD3Xd
set_option linter.unusedVariables false
set_option maxRecDepth 10000
namespace Go.Ab.D3
open Go Go.Ab Go.Proofs

theorem r58 {q q' : Option Bool} {x y : TV} {l m : List Int} (hx : RInts q x l) (hy : RInts q' y m) : Runs prog 84 [x, y] (B (tt (l = m))) := by
  refine Runs.of (f84_MR _ _) ?_
  unfold f84_M
  repeat' (first
    | refine Goes.chk rfl ?_
    | refine Goes.tv rfl ?_
    | refine Goes.tv (RL.len (by assumption)) ?_
    | refine Goes.nat rfl ?_
    | refine Goes.ite rfl (fun _ => ?_) (fun _ => ?_)
    | refine Goes.call (by assumption) ?_
    | refine Goes.tvs (by assumption) ?_)
  · rename_i h
    have h : ¬ l = m := by rintro rfl; simp at h
    exact ret_no h
  · rename_i h
    have hlen : l.length = m.length := by simp at h; omega
    refine Goes.jmp (f84_0_R _ _ _ _) ?_
    rw [tt_congr (list_eq_iff' hlen)]
    refine allLoop' (g := fun k => f84_0 x y (I l.length) (I k)) ?_ ?_
    · unfold f84_0
      refine Goes.tv rfl (Goes.ite asB_end (fun h => nomatch h) fun _ => Goes.ret)
    · intro k hk r h1 h2
      have hk' : k < m.length := by omega
      have ha : l[k]? = some l[k] := List.getElem?_eq_getElem hk
      have hb : m[k]? = some m[k] := List.getElem?_eq_getElem hk'
      obtain ⟨e, he, rfl, _⟩ := hx.idx (k := .i64) ha
      obtain ⟨e', he', rfl, _⟩ := hy.idx (k := .i64) hb
      unfold f84_0
      refine Goes.tv rfl (Goes.ite (asB_lt hk) (fun _ => ?_) fun h => nomatch h)
      refine Goes.tvs he (Goes.chk rfl (Goes.tvs he' (Goes.chk rfl (Goes.tv rfl (Goes.ite rfl (fun h => ?_) fun h => ?_)))))
      · rw [h1 (by rw [ha, hb]; simpa using h)]; exact Goes.ret
      · refine Goes.tv (inc hk hx.bnd) (Goes.jmp (f84_0_R _ _ _ _) (h2 ?_))
        rw [ha, hb]; simpa using h

theorem r57 {q q' : Option Bool} {x y : TV} {l m : List Int} (hx : RWords q x l) (hy : RWords q' y m) : Runs prog 83 [x, y] (B (tt (l = m))) := by
  refine Runs.of (f83_MR _ _) ?_
  unfold f83_M
  repeat' (first
    | refine Goes.chk rfl ?_
    | refine Goes.tv rfl ?_
    | refine Goes.tv (RL.len (by assumption)) ?_
    | refine Goes.nat rfl ?_
    | refine Goes.ite rfl (fun _ => ?_) (fun _ => ?_)
    | refine Goes.call (by assumption) ?_
    | refine Goes.tvs (by assumption) ?_)
  · rename_i h
    have h : ¬ l = m := by rintro rfl; simp at h
    exact ret_no h
  · rename_i h
    have hlen : l.length = m.length := by simp at h; omega
    refine Goes.jmp (f83_0_R _ _ _ _) ?_
    rw [tt_congr (list_eq_iff' hlen)]
    refine allLoop' (g := fun k => f83_0 x y (I l.length) (I k)) ?_ ?_
    · unfold f83_0
      refine Goes.tv rfl (Goes.ite asB_end (fun h => nomatch h) fun _ => Goes.ret)
    · intro k hk r h1 h2
      have hk' : k < m.length := by omega
      have ha : l[k]? = some l[k] := List.getElem?_eq_getElem hk
      have hb : m[k]? = some m[k] := List.getElem?_eq_getElem hk'
      obtain ⟨e, he, rfl, _⟩ := hx.idx (k := .i64) ha
      obtain ⟨e', he', rfl, _⟩ := hy.idx (k := .i64) hb
      unfold f83_0
      refine Goes.tv rfl (Goes.ite (asB_lt hk) (fun _ => ?_) fun h => nomatch h)
      refine Goes.tvs he (Goes.chk rfl (Goes.tvs he' (Goes.chk rfl (Goes.tv rfl (Goes.ite rfl (fun h => ?_) fun h => ?_)))))
      · rw [h1 (by rw [ha, hb]; simpa using h)]; exact Goes.ret
      · refine Goes.tv (inc hk hx.bnd) (Goes.jmp (f83_0_R _ _ _ _) (h2 ?_))
        rw [ha, hb]; simpa using h

theorem ins_eq {a b : DIns} : a = b ↔ a.op = b.op ∧ a.dst = b.dst ∧ a.a = b.a ∧ a.b = b.b ∧ a.k = b.k ∧ a.f = b.f ∧ a.args = b.args := by
  cases a; cases b; simp
theorem end_eq {a b : DEnd} : a = b ↔ a.kind = b.kind ∧ a.a = b.a ∧ a.dst = b.dst ∧ a.f = b.f ∧ a.args = b.args ∧ a.to = b.to ∧ a.els = b.els ∧ a.pad = b.pad := by
  cases a; cases b; simp
theorem pad_eq {a b : DPad} : a = b ↔ a.dst = b.dst ∧ a.catches = b.catches ∧ a.all = b.all ∧ a.cleanup = b.cleanup := by
  cases a; cases b; simp
theorem block_eq {a b : DBlock} : a = b ↔ a.landing = b.landing ∧ a.pad = b.pad ∧ a.ins = b.ins ∧ a.fin = b.fin := by
  cases a; cases b; simp
theorem func_eq {a b : DFunc} : a = b ↔ a.params = b.params ∧ a.regs = b.regs ∧ a.blocks = b.blocks := by
  cases a; cases b; simp
theorem mod_eq {a b : DMod} : a = b ↔ a.funcs = b.funcs := by
  cases a; cases b; simp

theorem r54 {q q' : Option Bool} {e e' : List TV} {a b : DIns} (ha : RIns q e a) (hb : RIns q' e' b) : Runs prog 66 [.agg e, .agg e'] (B (tt (a = b))) := by
  obtain ⟨g, rfl, hg, _⟩ := ha
  obtain ⟨g', rfl, hg', _⟩ := hb
  have h58 := r58 hg hg'
  refine Runs.of (f66_MR _ _) ?_
  unfold f66_M
  repeat' (first
    | refine Goes.chk rfl ?_
    | refine Goes.tv rfl ?_
    | refine Goes.tv (RL.len (by assumption)) ?_
    | refine Goes.nat rfl ?_
    | refine Goes.ite rfl (fun _ => ?_) (fun _ => ?_)
    | refine Goes.call (by assumption) ?_
    | refine Goes.tvs (by assumption) ?_)
  · apply ret_tt; rw [ins_eq]; simp_all [tt_iff]
  all_goals (apply ret_no; rw [ins_eq]; simp_all)

theorem r53 {q q' : Option Bool} {x y : TV} {l m : List DIns} {g : FuncId} (hg : ∀ e e' a b, RIns q e a → RIns q' e' b → Runs prog g [.agg e, .agg e'] (B (tt (a = b)))) (hgl : (prog.lent g).isNone = true) (hx : RL q 7 (RIns q) x l) (hy : RL q' 7 (RIns q') y m) :
    Runs prog 65 [x, y, .lit (.func (.func g) #[] #[])] (B (tt (l = m))) := by
  refine Runs.of (f65_MR _ _ _) ?_
  unfold f65_M
  repeat' (first
    | refine Goes.chk rfl ?_
    | refine Goes.tv rfl ?_
    | refine Goes.tv (RL.len (by assumption)) ?_
    | refine Goes.nat rfl ?_
    | refine Goes.ite rfl (fun _ => ?_) (fun _ => ?_)
    | refine Goes.call (by assumption) ?_
    | refine Goes.tvs (by assumption) ?_)
  · rename_i h
    have h : ¬ l = m := by rintro rfl; simp at h
    exact ret_no h
  · rename_i h
    have hlen : l.length = m.length := by simp at h; omega
    refine Goes.jmp (f65_0_R _ _ _ _ _) ?_
    rw [tt_congr (list_eq_iff' hlen)]
    refine allLoop' (g := fun k => f65_0 y (.lit (.func (.func g) #[] #[])) x (I l.length) (I k)) ?_ ?_
    · unfold f65_0
      refine Goes.tv rfl (Goes.ite asB_end (fun h => nomatch h) fun _ => Goes.ret)
    · intro k hk r h1 h2
      have hk' : k < m.length := by omega
      have ha : l[k]? = some l[k] := List.getElem?_eq_getElem hk
      have hb : m[k]? = some m[k] := List.getElem?_eq_getElem hk'
      obtain ⟨e, he, hea⟩ := hx.idx (k := .i64) ha
      obtain ⟨e', he', heb⟩ := hy.idx (k := .i64) hb
      have hc := hg _ _ _ _ hea heb
      obtain ⟨_, rfl, _⟩ := hea
      obtain ⟨_, rfl, _⟩ := heb
      unfold f65_0
      refine Goes.tv rfl (Goes.ite (asB_lt hk) (fun _ => ?_) fun h => nomatch h)
      refine Goes.tvs he (Goes.chk rfl (Goes.tvs he' (Goes.chk rfl (Goes.nat rfl (Goes.chk hgl (Goes.call hc (Goes.chk rfl (Goes.tv rfl (Goes.ite rfl (fun h => ?_) fun h => ?_)))))))))
      · rw [h1 (by rw [ha, hb]; simpa [tt] using h)]; exact Goes.ret
      · refine Goes.tv (inc hk hx.bnd) (Goes.jmp (f65_0_R _ _ _ _ _) (h2 ?_))
        rw [ha, hb]; simpa [tt] using h


theorem r55 {q q' : Option Bool} {e e' : List TV} {a b : DEnd} (ha : REnd q e a) (hb : REnd q' e' b) : Runs prog 67 [.agg e, .agg e'] (B (tt (a = b))) := by
  obtain ⟨g, rfl, hg, _⟩ := ha
  obtain ⟨g', rfl, hg', _⟩ := hb
  have h58 := r58 hg hg'
  refine Runs.of (f67_MR _ _) ?_
  unfold f67_M
  repeat' (first
    | refine Goes.chk rfl ?_
    | refine Goes.tv rfl ?_
    | refine Goes.tv (RL.len (by assumption)) ?_
    | refine Goes.nat rfl ?_
    | refine Goes.ite rfl (fun _ => ?_) (fun _ => ?_)
    | refine Goes.call (by assumption) ?_
    | refine Goes.tvs (by assumption) ?_)
  · apply ret_tt; rw [end_eq]; simp_all [tt]
  all_goals (apply ret_no; rw [end_eq]; simp_all [tt])
theorem r52 {q q' : Option Bool} {e e' : List TV} {a b : DPad} (ha : RPad q e a) (hb : RPad q' e' b) : Runs prog 64 [.agg e, .agg e'] (B (tt (a = b))) := by
  obtain ⟨g, rfl, hg, _⟩ := ha
  obtain ⟨g', rfl, hg', _⟩ := hb
  have h57 := r57 hg hg'
  refine Runs.of (f64_MR _ _) ?_
  unfold f64_M
  repeat' (first
    | refine Goes.chk rfl ?_
    | refine Goes.tv rfl ?_
    | refine Goes.tv (RL.len (by assumption)) ?_
    | refine Goes.nat rfl ?_
    | refine Goes.ite rfl (fun _ => ?_) (fun _ => ?_)
    | refine Goes.call (by assumption) ?_
    | refine Goes.tvs (by assumption) ?_)
  · apply ret_tt; rw [pad_eq]; simp_all [tt]
  all_goals (apply ret_no; rw [pad_eq]; simp_all [tt])
theorem r43 {q q' : Option Bool} {e e' : List TV} {a b : DBlock} (ha : RBlock q e a) (hb : RBlock q' e' b) : Runs prog 51 [.agg e, .agg e'] (B (tt (a = b))) := by
  obtain ⟨c, i, g, rfl, hc, hd, hi, hg, ho⟩ := ha
  obtain ⟨c', i', g', rfl, hc', hd', hi', hg', ho'⟩ := hb
  have h52 := r52 (q := q) (q' := q') (a := a.pad) (b := b.pad) ⟨c, rfl, hc, hd⟩ ⟨c', rfl, hc', hd'⟩
  have h53 := r53 (fun _ _ _ _ h h' => r54 h h') rfl hi hi'
  have h55 := r55 (q := q) (q' := q') (a := a.fin) (b := b.fin) ⟨g, rfl, hg, ho⟩ ⟨g', rfl, hg', ho'⟩
  refine Runs.of (f51_MR _ _) ?_
  unfold f51_M
  repeat' (first
    | refine Goes.chk rfl ?_
    | refine Goes.tv rfl ?_
    | refine Goes.tv (RL.len (by assumption)) ?_
    | refine Goes.nat rfl ?_
    | refine Goes.ite rfl (fun _ => ?_) (fun _ => ?_)
    | refine Goes.call (by assumption) ?_
    | refine Goes.tvs (by assumption) ?_)
  · apply ret_tt; rw [block_eq]; simp_all [tt]
  all_goals (apply ret_no; rw [block_eq]; simp_all [tt])

theorem r42 {q q' : Option Bool} {x y : TV} {l m : List DBlock} {g : FuncId} (hg : ∀ e e' a b, RBlock q e a → RBlock q' e' b → Runs prog g [.agg e, .agg e'] (B (tt (a = b)))) (hgl : (prog.lent g).isNone = true) (hx : RL q 14 (RBlock q) x l) (hy : RL q' 14 (RBlock q') y m) :
    Runs prog 50 [x, y, .lit (.func (.func g) #[] #[])] (B (tt (l = m))) := by
  refine Runs.of (f50_MR _ _ _) ?_
  unfold f50_M
  repeat' (first
    | refine Goes.chk rfl ?_
    | refine Goes.tv rfl ?_
    | refine Goes.tv (RL.len (by assumption)) ?_
    | refine Goes.nat rfl ?_
    | refine Goes.ite rfl (fun _ => ?_) (fun _ => ?_)
    | refine Goes.call (by assumption) ?_
    | refine Goes.tvs (by assumption) ?_)
  · rename_i h
    have h : ¬ l = m := by rintro rfl; simp at h
    exact ret_no h
  · rename_i h
    have hlen : l.length = m.length := by simp at h; omega
    refine Goes.jmp (f50_0_R _ _ _ _ _) ?_
    rw [tt_congr (list_eq_iff' hlen)]
    refine allLoop' (g := fun k => f50_0 y (.lit (.func (.func g) #[] #[])) x (I l.length) (I k)) ?_ ?_
    · unfold f50_0
      refine Goes.tv rfl (Goes.ite asB_end (fun h => nomatch h) fun _ => Goes.ret)
    · intro k hk r h1 h2
      have hk' : k < m.length := by omega
      have ha : l[k]? = some l[k] := List.getElem?_eq_getElem hk
      have hb : m[k]? = some m[k] := List.getElem?_eq_getElem hk'
      obtain ⟨e, he, hea⟩ := hx.idx (k := .i64) ha
      obtain ⟨e', he', heb⟩ := hy.idx (k := .i64) hb
      have hc := hg _ _ _ _ hea heb
      obtain ⟨_, _, _, rfl, _⟩ := hea
      obtain ⟨_, _, _, rfl, _⟩ := heb
      unfold f50_0
      refine Goes.tv rfl (Goes.ite (asB_lt hk) (fun _ => ?_) fun h => nomatch h)
      refine Goes.tvs he (Goes.chk rfl (Goes.tvs he' (Goes.chk rfl (Goes.nat rfl (Goes.chk hgl (Goes.call hc (Goes.chk rfl (Goes.tv rfl (Goes.ite rfl (fun h => ?_) fun h => ?_)))))))))
      · rw [h1 (by rw [ha, hb]; simpa [tt] using h)]; exact Goes.ret
      · refine Goes.tv (inc hk hx.bnd) (Goes.jmp (f50_0_R _ _ _ _ _) (h2 ?_))
        rw [ha, hb]; simpa [tt] using h


theorem r30 {q q' : Option Bool} {e e' : List TV} {a b : DFunc} (ha : RFunc q e a) (hb : RFunc q' e' b) : Runs prog 36 [.agg e, .agg e'] (B (tt (a = b))) := by
  obtain ⟨g, rfl, hg, _⟩ := ha
  obtain ⟨g', rfl, hg', _⟩ := hb
  have h42 := r42 (fun _ _ _ _ h h' => r43 h h') rfl hg hg'
  refine Runs.of (f36_MR _ _) ?_
  unfold f36_M
  repeat' (first
    | refine Goes.chk rfl ?_
    | refine Goes.tv rfl ?_
    | refine Goes.tv (RL.len (by assumption)) ?_
    | refine Goes.nat rfl ?_
    | refine Goes.ite rfl (fun _ => ?_) (fun _ => ?_)
    | refine Goes.call (by assumption) ?_
    | refine Goes.tvs (by assumption) ?_)
  · apply ret_tt; rw [func_eq]; simp_all [tt]
  all_goals (apply ret_no; rw [func_eq]; simp_all [tt])

theorem r29 {q q' : Option Bool} {x y : TV} {l m : List DFunc} {g : FuncId} (hg : ∀ e e' a b, RFunc q e a → RFunc q' e' b → Runs prog g [.agg e, .agg e'] (B (tt (a = b)))) (hgl : (prog.lent g).isNone = true) (hx : RL q 3 (RFunc q) x l) (hy : RL q' 3 (RFunc q') y m) :
    Runs prog 35 [x, y, .lit (.func (.func g) #[] #[])] (B (tt (l = m))) := by
  refine Runs.of (f35_MR _ _ _) ?_
  unfold f35_M
  repeat' (first
    | refine Goes.chk rfl ?_
    | refine Goes.tv rfl ?_
    | refine Goes.tv (RL.len (by assumption)) ?_
    | refine Goes.nat rfl ?_
    | refine Goes.ite rfl (fun _ => ?_) (fun _ => ?_)
    | refine Goes.call (by assumption) ?_
    | refine Goes.tvs (by assumption) ?_)
  · rename_i h
    have h : ¬ l = m := by rintro rfl; simp at h
    exact ret_no h
  · rename_i h
    have hlen : l.length = m.length := by simp at h; omega
    refine Goes.jmp (f35_0_R _ _ _ _ _) ?_
    rw [tt_congr (list_eq_iff' hlen)]
    refine allLoop' (g := fun k => f35_0 y (.lit (.func (.func g) #[] #[])) x (I l.length) (I k)) ?_ ?_
    · unfold f35_0
      refine Goes.tv rfl (Goes.ite asB_end (fun h => nomatch h) fun _ => Goes.ret)
    · intro k hk r h1 h2
      have hk' : k < m.length := by omega
      have ha : l[k]? = some l[k] := List.getElem?_eq_getElem hk
      have hb : m[k]? = some m[k] := List.getElem?_eq_getElem hk'
      obtain ⟨e, he, hea⟩ := hx.idx (k := .i64) ha
      obtain ⟨e', he', heb⟩ := hy.idx (k := .i64) hb
      have hc := hg _ _ _ _ hea heb
      obtain ⟨_, rfl, _⟩ := hea
      obtain ⟨_, rfl, _⟩ := heb
      unfold f35_0
      refine Goes.tv rfl (Goes.ite (asB_lt hk) (fun _ => ?_) fun h => nomatch h)
      refine Goes.tvs he (Goes.chk rfl (Goes.tvs he' (Goes.chk rfl (Goes.nat rfl (Goes.chk hgl (Goes.call hc (Goes.chk rfl (Goes.tv rfl (Goes.ite rfl (fun h => ?_) fun h => ?_)))))))))
      · rw [h1 (by rw [ha, hb]; simpa [tt] using h)]; exact Goes.ret
      · refine Goes.tv (inc hk hx.bnd) (Goes.jmp (f35_0_R _ _ _ _ _) (h2 ?_))
        rw [ha, hb]; simpa [tt] using h


/-- shape.Same -/
theorem r17 {q q' : Option Bool} {e e' : List TV} {a b : DMod} (ha : RMod q e a) (hb : RMod q' e' b) : Runs prog 17 [.agg e, .agg e'] (B (tt (a = b))) := by
  obtain ⟨g, rfl, hg⟩ := ha
  obtain ⟨g', rfl, hg'⟩ := hb
  have h29 := r29 (fun _ _ _ _ h h' => r30 h h') rfl hg hg'
  refine Runs.of (f17_MR _ _) ?_
  unfold f17_M
  repeat' (first
    | refine Goes.chk rfl ?_
    | refine Goes.tv rfl ?_
    | refine Goes.tv (RL.len (by assumption)) ?_
    | refine Goes.nat rfl ?_
    | refine Goes.ite rfl (fun _ => ?_) (fun _ => ?_)
    | refine Goes.call (by assumption) ?_
    | refine Goes.tvs (by assumption) ?_)
  rw [tt_congr mod_eq]; exact Goes.ret

/-! ### the document's -/
end Go.Ab.D3

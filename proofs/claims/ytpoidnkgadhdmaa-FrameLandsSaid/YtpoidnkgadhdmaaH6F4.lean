
/- What the functions of layer 2 answer: which modules may be. No condition. -/
import Derived.Test.YtpoidnkgadhdmaaH6F3
set_option linter.unusedVariables false
set_option maxRecDepth 10000
namespace Go.Ab
theorem RL.idxI {α : Type} {q : Option Bool} {s : Nat} {R : List TV → α → Prop} {x : TV} {l : List α} (h : RL q s R x l) {k : IntKind} {n : Int} {a : α} (h0 : 0 ≤ n) (hi : l[n.toNat]? = some a) : ∃ e, pidx s x (.lit (.int k n)) = some e ∧ R e a := by
  rcases h with ⟨rfl, rfl⟩ | ⟨o, xs, rfl, hq, h, _⟩
  · simp at hi
  · obtain ⟨e, he, hr⟩ := h.get hi
    exact ⟨e, by simp [pidx, he, h0], hr⟩
def within (n most : Int) : Prop := 0 ≤ n ∧ n < most
def placeP (u : Bool) (regs n : Int) : Prop := (u = true → within n regs) ∧ (u = false → n = 0)
def argsP (fs : List DFunc) (regs n : Int) (l : List Int) : Prop := 0 ≤ n ∧ ∃ g, fs[n.toNat]? = some g ∧ (l.length : Int) = g.params ∧ ∀ i, i < l.length → ∀ a, l[i]? = some a → within a regs
def callP (u : Bool) (fs : List DFunc) (regs n : Int) (l : List Int) : Prop := (u = true → argsP fs regs n l) ∧ (u = false → n = 0 ∧ l = [])
def goalAt (bs : List DBlock) (n : Int) (landing : Bool) : Prop := 0 ≤ n ∧ ∃ b, bs[n.toNat]? = some b ∧ b.landing = landing
def goalP (u : Bool) (bs : List DBlock) (n : Int) (landing : Bool) : Prop := (u = true → goalAt bs n landing) ∧ (u = false → n = 0)

theorem within_iff {n m : Int} : (bif decide (n ≥ 0) then decide (n < m) else false) = true ↔ within n m := by
  simp [within, Bool.and_eq_true]
theorem placeP_t {regs n : Int} : placeP true regs n ↔ within n regs := ⟨fun h => h.1 rfl, fun h => ⟨fun _ => h, fun h => nomatch h⟩⟩
theorem tt_iff0 {p : Prop} : tt p = false ↔ ¬ p := ⟨fun h hp => (by rw [tt_true hp] at h; exact Bool.noConfusion h), fun h => tt_false h⟩
theorem len0 {α : Type} {l : List α} : decide ((l.length : Int) = 0) = true ↔ l = [] := by simp
end Go.Ab
namespace Go.Ab.H6
open Go Go.Ab Go.Proofs

/-- The set of what is used. -/
def usesI (op : Int) : Int :=
  if op = 1 then 19 else if op = 2 then 7 else if op = 9 then 7 else if op = 3 then 15 else if op = 4 then 15 else if op = 5 then 15 else if op = 6 then 15 else if op = 7 then 15 else if op = 8 then 15 else if op = 10 then 13 else if op = 11 then 35 else if op = 12 then 5 else if op = 13 then 3 else 0
def usesE (k : Int) : Int :=
  if k = 1 then 5 else if k = 5 then 5 else if k = 2 then 65 else if k = 3 then 197 else if k = 4 then 355 else if k = 6 then 1 else 0
def has (u f : Int) : Bool := decide (¬ IntKind.i64.wrap ((BitVec.ofInt 64 u &&& BitVec.ofInt 64 f).toNat : Int) = 0)

theorem r25 (u f : Int) : Runs prog 69 [I u, I f] (B (has u f)) := by
  refine Runs.of (f69_MR _ _) ?_
  unfold f69_M
  repeat' (first
    | refine Goes.chk rfl ?_
    | refine Goes.tv rfl ?_
    | refine Goes.tv (RL.len (by assumption)) ?_
    | refine Goes.nat rfl ?_
    | refine Goes.ite rfl (fun _ => ?_) (fun _ => ?_)
    | refine Goes.call (by assumption) ?_
    | refine Goes.tvs (by assumption) ?_)
  refine goes_ret.2 ?_
  simp [has]
  rfl
theorem r24 (k : Int) : Runs prog 68 [I k] (I (usesE k)) := by
  refine Runs.of (f68_MR _) ?_
  unfold f68_M
  repeat' (first
    | refine Goes.chk rfl ?_
    | refine Goes.tv rfl ?_
    | refine Goes.tv (RL.len (by assumption)) ?_
    | refine Goes.nat rfl ?_
    | refine Goes.ite rfl (fun _ => ?_) (fun _ => ?_)
    | refine Goes.call (by assumption) ?_
    | refine Goes.tvs (by assumption) ?_)
  all_goals (refine goes_ret.2 ?_; simp_all [usesE])
theorem r49 (k : Int) : Runs prog 120 [I k] (I (usesI k)) := by
  refine Runs.of (f120_MR _) ?_
  unfold f120_M
  repeat' (first
    | refine Goes.chk rfl ?_
    | refine Goes.tv rfl ?_
    | refine Goes.tv (RL.len (by assumption)) ?_
    | refine Goes.nat rfl ?_
    | refine Goes.ite rfl (fun _ => ?_) (fun _ => ?_)
    | refine Goes.call (by assumption) ?_
    | refine Goes.tvs (by assumption) ?_)
  all_goals (refine goes_ret.2 ?_; simp_all [usesI])
theorem r35 (n m : Int) : Runs prog 102 [I n, I m] (B (tt (within n m))) := by
  refine Runs.of (f102_MR _ _) ?_
  unfold f102_M
  repeat' (first
    | refine Goes.chk rfl ?_
    | refine Goes.tv rfl ?_
    | refine Goes.tv (RL.len (by assumption)) ?_
    | refine Goes.nat rfl ?_
    | refine Goes.ite rfl (fun _ => ?_) (fun _ => ?_)
    | refine Goes.call (by assumption) ?_
    | refine Goes.tvs (by assumption) ?_)
  all_goals (apply ret_tt; simp_all [within] <;> omega)
theorem r47 {fs bs : TV} {p regs n : Int} {u : Bool} : Runs prog 118 [.agg [fs, I p, I regs, bs], B u, I n] (B (tt (placeP u regs n))) := by
  cases u
  · refine Runs.of (f118_MR _ _ _) ?_
    unfold f118_M
    repeat' (first
      | refine Goes.chk rfl ?_
      | refine Goes.tv rfl ?_
      | refine Goes.tv (RL.len (by assumption)) ?_
      | refine Goes.nat rfl ?_
      | refine Goes.ite (v := true) rfl (fun _ => ?_) (fun h => nomatch h)
      | refine Goes.ite (v := false) rfl (fun h => nomatch h) (fun _ => ?_)
      | refine Goes.ite rfl (fun _ => ?_) (fun _ => ?_)
      | refine Goes.call (by assumption) ?_
      | refine Goes.tvs (by assumption) ?_
       )
    all_goals (apply ret_tt; simp_all [placeP])
  · refine Runs.of (f118_MR _ _ _) ?_
    unfold f118_M
    repeat' (first
      | refine Goes.chk rfl ?_
      | refine Goes.tv rfl ?_
      | refine Goes.tv (RL.len (by assumption)) ?_
      | refine Goes.nat rfl ?_
      | refine Goes.ite (v := true) rfl (fun _ => ?_) (fun h => nomatch h)
      | refine Goes.ite (v := false) rfl (fun h => nomatch h) (fun _ => ?_)
      | refine Goes.ite rfl (fun _ => ?_) (fun _ => ?_)
      | refine Goes.call (by assumption) ?_
      | refine Goes.tvs (by assumption) ?_
       )
    all_goals (apply ret_tt; simp_all [placeP, within] <;> omega)
theorem r50 {q q' : Option Bool} {x bs g : TV} {fs : List DFunc} {p regs n : Int} {u : Bool} {l : List Int} (hx : RL q 3 (RFunc q) x fs) (hg : RInts q' g l) : Runs prog 121 [.agg [x, I p, I regs, bs], B u, I n, g] (B (tt (callP u fs regs n l))) := by
  cases u
  · refine Runs.of (f121_MR _ _ _ _) ?_
    unfold f121_M
    repeat' (first
      | refine Goes.chk rfl ?_
      | refine Goes.tv rfl ?_
      | refine Goes.tv (RL.len (by assumption)) ?_
      | refine Goes.nat rfl ?_
      | refine Goes.ite (v := true) rfl (fun _ => ?_) (fun h => nomatch h)
      | refine Goes.ite (v := false) rfl (fun h => nomatch h) (fun _ => ?_)
      | refine Goes.ite rfl (fun _ => ?_) (fun _ => ?_)
      | refine Goes.call (by assumption) ?_
      | refine Goes.tvs (by assumption) ?_
       )
    all_goals (apply ret_tt; simp_all [callP])
  · rw [show tt (callP true fs regs n l) = tt (argsP fs regs n l) from tt_congr ⟨fun h => h.1 rfl, fun h => ⟨fun _ => h, fun h => nomatch h⟩⟩]
    refine Runs.of (f121_MR _ _ _ _) ?_
    unfold f121_M
    refine Goes.chk rfl (Goes.tv rfl (Goes.ite rfl (fun h => nomatch h) fun _ => Goes.tv rfl (Goes.ite rfl (fun h => ?_) fun h => ?_)))
    · simp at h
      exact ret_no fun h' => by have := h'.1; omega
    · have h0 : 0 ≤ n := by simpa using h
      refine Goes.tv hx.len (Goes.tv rfl (Goes.ite rfl (fun h => ?_) fun h => ?_))
      · simp at h
        refine ret_no ?_
        rintro ⟨_, f, hf, _⟩
        have := (List.getElem?_eq_some_iff.1 hf).1
        omega
      · simp at h
        have hlt : n.toNat < fs.length := by omega
        have hf : fs[n.toNat]? = some fs[n.toNat] := List.getElem?_eq_getElem hlt
        obtain ⟨e, he, hr⟩ := hx.idxI (k := .i64) h0 hf
        obtain ⟨b, rfl, _⟩ := hr
        refine Goes.tv hg.len (Goes.tvs he (Goes.chk rfl (Goes.tv rfl (Goes.ite rfl (fun h => ?_) fun h => ?_))))
        · refine ret_no ?_
          rintro ⟨_, f, hf', hl, _⟩
          rw [hf] at hf'
          simp at hf' h
          subst hf'
          exact h hl
        · simp at h
          refine Goes.tv hg.len (Goes.jmp (f121_0_R _ _ _ _ _ _ _) ?_)
          have hp : argsP fs regs n l ↔ ∀ i, i < l.length → ∀ a, l[i]? = some a → within a regs := by
            refine ⟨fun ⟨_, f, hf', hl, ha⟩ => ha, fun ha => ⟨h0, _, hf, h, ha⟩⟩
          rw [tt_congr hp]
          refine allLoop' (g := fun k => f121_0 g (I l.length) (I k) x (I p) (I regs) bs) ?_ ?_
          · unfold f121_0
            refine Goes.tv rfl (Goes.ite asB_end (fun h => nomatch h) fun _ => ?_)
            exact Goes.ret
          · intro k hk r h1 h2
            have ha : l[k]? = some l[k] := List.getElem?_eq_getElem hk
            obtain ⟨e, he, rfl, _⟩ := hg.idx (k := .i64) ha
            unfold f121_0
            refine Goes.tv rfl (Goes.ite (asB_lt hk) (fun _ => ?_) fun h => nomatch h)
            refine Goes.tvs he (Goes.chk rfl (Goes.call r47 (Goes.chk rfl (Goes.tv rfl (Goes.ite rfl (fun h => ?_) fun h => ?_)))))
            · rw [h1 (by simp [ha]; simpa [tt_iff, tt_iff0, placeP_t] using h)]; exact Goes.ret
            · refine Goes.tv (inc hk hg.bnd) (Goes.jmp (f121_0_R _ _ _ _ _ _ _) (h2 ?_))
              simp [ha]; simpa [tt_iff, tt_iff0, placeP_t] using h
theorem r51 {q : Option Bool} {fs x : TV} {bs : List DBlock} {p regs n : Int} {u landing : Bool} (hx : RL q 14 (RBlock q) x bs) : Runs prog 122 [.agg [fs, I p, I regs, x], B u, I n, B landing] (B (tt (goalP u bs n landing))) := by
  cases u
  · refine Runs.of (f122_MR _ _ _ _) ?_
    unfold f122_M
    repeat' (first
      | refine Goes.chk rfl ?_
      | refine Goes.tv rfl ?_
      | refine Goes.tv (RL.len (by assumption)) ?_
      | refine Goes.nat rfl ?_
      | refine Goes.ite (v := true) rfl (fun _ => ?_) (fun h => nomatch h)
      | refine Goes.ite (v := false) rfl (fun h => nomatch h) (fun _ => ?_)
      | refine Goes.ite rfl (fun _ => ?_) (fun _ => ?_)
      | refine Goes.call (by assumption) ?_
      | refine Goes.tvs (by assumption) ?_
       )
    all_goals (apply ret_tt; simp_all [goalP])
  · rw [show tt (goalP true bs n landing) = tt (goalAt bs n landing) from tt_congr ⟨fun h => h.1 rfl, fun h => ⟨fun _ => h, fun h => nomatch h⟩⟩]
    refine Runs.of (f122_MR _ _ _ _) ?_
    unfold f122_M
    refine Goes.chk rfl (Goes.tv rfl (Goes.ite rfl (fun h => nomatch h) fun _ => Goes.tv rfl (Goes.ite rfl (fun h => ?_) fun h => ?_)))
    · have h0 : 0 ≤ n := by simpa using h
      refine Goes.tv hx.len (Goes.tv rfl (Goes.ite rfl (fun h => ?_) fun h => ?_))
      · simp at h
        have hlt : n.toNat < bs.length := by omega
        have hf : bs[n.toNat]? = some bs[n.toNat] := List.getElem?_eq_getElem hlt
        obtain ⟨e, he, hr⟩ := hx.idxI (k := .i64) h0 hf
        obtain ⟨c, i, g, rfl, _⟩ := hr
        refine Goes.tvs he (Goes.chk rfl (Goes.tv rfl ?_))
        apply ret_tt
        simp [goalAt, h0, hf]
      · simp at h
        refine ret_no ?_
        rintro ⟨_, f, hf, _⟩
        have := (List.getElem?_eq_some_iff.1 hf).1
        omega
    · simp at h
      exact ret_no fun h' => by have := h'.1; omega
def insP (fs : List DFunc) (regs : Int) (x : DIns) : Prop :=
  has (usesI x.op) 1 = true ∧ placeP (has (usesI x.op) 2) regs x.dst ∧ placeP (has (usesI x.op) 4) regs x.a ∧ placeP (has (usesI x.op) 8) regs x.b ∧ (has (usesI x.op) 16 = true ∨ x.k = 0) ∧ callP (has (usesI x.op) 32) fs regs x.f x.args
theorem r33 {q q' : Option Bool} {x bs : TV} {e : List TV} {fs : List DFunc} {p regs : Int} {a : DIns} (hx : RL q 3 (RFunc q) x fs) (he : RIns q' e a) : Runs prog 96 [.agg [x, I p, I regs, bs], .agg e] (B (tt (insP fs regs a))) := by
  obtain ⟨g, rfl, hg, _⟩ := he
  have h49 := r49 a.op
  have h50 : ∀ {u : Bool} {n : Int}, Runs prog 121 [.agg [x, I p, I regs, bs], B u, I n, g] (B (tt (callP u fs regs n a.args))) := r50 hx hg
  refine Runs.of (f96_MR _ _) ?_
  unfold f96_M
  repeat' (first
    | refine Goes.chk rfl ?_
    | refine Goes.tv rfl ?_
    | refine Goes.tv (RL.len (by assumption)) ?_
    | refine Goes.nat rfl ?_
    | refine Goes.ite (v := true) rfl (fun _ => ?_) (fun h => nomatch h)
    | refine Goes.ite (v := false) rfl (fun h => nomatch h) (fun _ => ?_)
    | refine Goes.ite rfl (fun _ => ?_) (fun _ => ?_)
    | refine Goes.call (by assumption) ?_
    | refine Goes.tvs (by assumption) ?_
    | refine Goes.call (r25 _ _) ?_ | refine Goes.call r47 ?_ | refine Goes.call h50 ?_)
  all_goals (apply ret_tt; simp_all [insP, tt_iff, tt_iff0])
def endP (fs : List DFunc) (regs : Int) (bs : List DBlock) (x : DEnd) : Prop :=
  has (usesE x.kind) 1 = true ∧ placeP (has (usesE x.kind) 4) regs x.a ∧ placeP (has (usesE x.kind) 2) regs x.dst ∧ callP (has (usesE x.kind) 32) fs regs x.f x.args ∧
    goalP (has (usesE x.kind) 64) bs x.to false ∧ goalP (has (usesE x.kind) 128) bs x.els false ∧ goalP (has (usesE x.kind) 256) bs x.pad true
theorem r34 {q q' q2 : Option Bool} {x y : TV} {e : List TV} {fs : List DFunc} {bs : List DBlock} {p regs : Int} {a : DEnd} (hx : RL q 3 (RFunc q) x fs) (hy : RL q2 14 (RBlock q2) y bs) (he : REnd q' e a) : Runs prog 97 [.agg [x, I p, I regs, y], .agg e] (B (tt (endP fs regs bs a))) := by
  obtain ⟨g, rfl, hg, _⟩ := he
  have h24 := r24 a.kind
  have h50 : ∀ {u : Bool} {n : Int}, Runs prog 121 [.agg [x, I p, I regs, y], B u, I n, g] (B (tt (callP u fs regs n a.args))) := r50 hx hg
  have h51 : ∀ {u landing : Bool} {n : Int}, Runs prog 122 [.agg [x, I p, I regs, y], B u, I n, B landing] (B (tt (goalP u bs n landing))) := r51 hy
  refine Runs.of (f97_MR _ _) ?_
  unfold f97_M
  repeat' (first
    | refine Goes.chk rfl ?_
    | refine Goes.tv rfl ?_
    | refine Goes.tv (RL.len (by assumption)) ?_
    | refine Goes.nat rfl ?_
    | refine Goes.ite (v := true) rfl (fun _ => ?_) (fun h => nomatch h)
    | refine Goes.ite (v := false) rfl (fun h => nomatch h) (fun _ => ?_)
    | refine Goes.ite rfl (fun _ => ?_) (fun _ => ?_)
    | refine Goes.call (by assumption) ?_
    | refine Goes.tvs (by assumption) ?_
    | refine Goes.call (r25 _ _) ?_ | refine Goes.call r47 ?_ | refine Goes.call h50 ?_ | refine Goes.call h51 ?_)
  all_goals (apply ret_tt; simp_all [endP, tt_iff, tt_iff0])
end Go.Ab.H6

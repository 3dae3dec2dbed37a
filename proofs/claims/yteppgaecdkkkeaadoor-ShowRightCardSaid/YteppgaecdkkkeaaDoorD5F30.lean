
/- Layer 3: the document's own lines. No condition. -/
import Derived.Test.YteppgaecdkkkeaaDoorD5F25
set_option linter.unusedVariables false
set_option maxRecDepth 20000
namespace Go.Ab.D5
open Go Go.Ab Go.Proofs
theorem padd_s (a b : List UInt8) (h : a.length + b.length ≤ 10000) : pbin .str .add (S a) (S b) = some (S (a ++ b)) := padd_str a b h
theorem digit_str (d : Nat) (h : d < 10) : ∃ v, pbin (.int .i64) .add (I 48) (I (d : Int)) = some (I v) ∧ ∃ w, pconv (.int .i32) (I v) = some w ∧ pconv .str w = some (S [UInt8.ofNat (48 + d)]) := by
  rcases d with _ | _ | _ | _ | _ | _ | _ | _ | _ | _ | d
  all_goals first
    | exact absurd h (by omega)
    | exact ⟨_, rfl, _, rfl, rfl⟩
theorem quo10 (a : Nat) (ha : a ≤ 9223372036854775807) : pbin (.int .i64) .quo (I (a : Int)) (I (10 : Int)) = some (I ((a / 10 : Nat) : Int)) := by
  simp only [pbin, if_true, intBin, show ¬ ((10 : Int) = 0) by omega, if_false]
  rw [show ((a : Int).tdiv 10) = ((a / 10 : Nat) : Int) from rfl, IntWalk.i64_in _ (by constructor <;> omega)]
theorem rem10 (a : Nat) (ha : a ≤ 9223372036854775807) : pbin (.int .i64) .rem (I (a : Int)) (I (10 : Int)) = some (I ((a % 10 : Nat) : Int)) := by
  simp only [pbin, if_true, intBin, show ¬ ((10 : Int) = 0) by omega, if_false]
  rw [show ((a : Int).tmod 10) = ((a % 10 : Nat) : Int) from rfl]
theorem dec_len (u : Nat) (h : u ≤ 9223372036854775807) : (Lib.decDigits u).length ≤ 21 := by
  have := Lib.itoa_length_le (u : Int) (by omega) (by omega)
  rw [Lib.itoa, if_neg (by omega), Int.toNat_natCast] at this
  exact this
theorem num_nat : ∀ u : Nat, u ≤ 9223372036854775807 → Runs prog 28 [I (u : Int)] (S (Lib.decDigits u)) := by
  intro u
  induction u using Nat.strongRecOn with
  | _ u ih =>
    intro hu
    refine Runs.of (f28_MR _) ?_
    unfold f28_M
    refine Goes.tv rfl (Goes.ite (v := false) (by simp [asBool]) (fun h => nomatch h) fun _ => ?_)
    by_cases h : u < 10
    · obtain ⟨v, h1, w, h2, h3⟩ := digit_str u h
      rw [Lib.decDigits_one h]
      refine Goes.tv rfl (Goes.ite (v := true) (by simp [asBool]; omega) (fun _ => ?_) fun h => nomatch h)
      exact Goes.tv h1 (Goes.tv h2 (Goes.tv h3 Goes.ret))
    · obtain ⟨v, h1, w, h2, h3⟩ := digit_str (u % 10) (by omega)
      rw [Lib.decDigits, dif_neg h]
      have hl := dec_len (u / 10) (by omega)
      refine Goes.tv rfl (Goes.ite (v := false) (by simp [asBool]; omega) (fun h => nomatch h) fun _ => ?_)
      exact Goes.tv (quo10 u hu) (Goes.call (ih (u / 10) (by omega) (by omega)) (Goes.chk rfl (Goes.tv (rem10 u hu) (Goes.tv h1 (Goes.tv h2 (Goes.tv h3 (Goes.tv (padd_s _ _ (by simp; omega)) Goes.ret)))))))
def overI (n : Int) : Prop := -1000000000 ≤ n ∧ n ≤ 9223372036854775807
theorem num_runs {n : Int} (h : overI n) : Runs prog 28 [I n] (S (Lib.itoa n)) := by
  obtain ⟨h0, h1⟩ := h
  by_cases hn : n < 0
  · obtain ⟨u, rfl⟩ : ∃ u : Nat, n = -(u : Int) := ⟨n.natAbs, by omega⟩
    have hu := num_nat u (by omega)
    have hl := dec_len u (by omega)
    rw [Lib.itoa, if_pos hn, show (-(u : Int)).natAbs = u by omega]
    refine Runs.of (f28_MR _) ?_
    unfold f28_M
    refine Goes.tv rfl (Goes.ite (v := true) (by simp [asBool]; omega) (fun _ => ?_) fun h => nomatch h)
    have hs : pbin (.int .i64) .sub (I 0) (I (-(u : Int))) = some (I (u : Int)) := by
      rw [psub (by constructor <;> omega)]
      congr 3
      omega
    exact Goes.tv hs (Goes.call hu (Goes.chk rfl (Goes.tv (padd_s _ _ (by simp; omega)) Goes.ret)))
  · obtain ⟨u, rfl⟩ := Int.eq_ofNat_of_zero_le (by omega : 0 ≤ n)
    rw [Lib.itoa, if_neg hn, Int.toNat_natCast]
    exact num_nat u (by omega)
theorem itoa_len {n : Int} (h : overI n) : (Lib.itoa n).length ≤ 21 := Lib.itoa_length_le n (by have := h.1; omega) h.2
theorem nums_runs {q : Option Bool} {x : TV} {ns : List Int} (hx : RInts q x ns) (ho : ∀ n, n ∈ ns → overI n) (hl : ns.length ≤ 20) : Runs prog 30 [x] (S (ns.flatMap numT)) := by
  have loop : ∀ d k (acc : List UInt8), k + d = ns.length → acc.length ≤ 22 * k → Goes prog 30 (f30_0 x (S acc) (I k)) (S (acc ++ (ns.drop k).flatMap numT)) := by
    intro d
    induction d with
    | zero =>
      intro k acc hk _
      have hk : k = ns.length := by omega
      subst hk
      unfold f30_0
      refine Goes.tv (RL.len (by assumption)) (Goes.tv rfl (Goes.ite asB_end (fun h => nomatch h) fun _ => ?_))
      simp only [List.drop_length, List.flatMap_nil, List.append_nil]
      exact Goes.ret
    | succ d ih =>
      intro k acc hk hacc
      have hkl : k < ns.length := by omega
      have ha : ns[k]? = some ns[k] := List.getElem?_eq_getElem hkl
      have hov := ho _ (List.mem_of_getElem? ha)
      rw [List.drop_eq_getElem_cons hkl, List.flatMap_cons]
      obtain ⟨e, he, hr⟩ := hx.idx (k := .i64) ha
      generalize ns[k] = n at *
      obtain ⟨rfl, hn⟩ := hr
      have hlen := itoa_len hov
      unfold f30_0
      refine Goes.tv (RL.len (by assumption)) (Goes.tv rfl (Goes.ite (asB_lt hkl) (fun _ => ?_) fun h => nomatch h))
      refine Goes.tvs he (Goes.chk rfl (Goes.call (num_runs hov) (Goes.chk rfl (Goes.tv (padd_s _ _ (by simp; omega)) (Goes.tv (padd_s _ _ (by simp; omega)) (Goes.tv (inc hkl hx.bnd) (Goes.jmp (f30_0_R _ _ _) ?_)))))))
      have := ih (k + 1) (acc ++ numT n) (by omega) (by simp [numT]; omega)
      have e2 : acc ++ (numT n ++ (ns.drop (k + 1)).flatMap numT) = acc ++ numT n ++ (ns.drop (k + 1)).flatMap numT := (List.append_assoc _ _ _).symm
      rw [e2]
      exact this
  refine Runs.of (f30_MR _) ?_
  unfold f30_M
  exact Goes.jmp (f30_0_R _ _ _) (loop ns.length 0 [] (by omega) (by simp))
theorem nums_len {ns : List Int} (ho : ∀ n, n ∈ ns → overI n) (hl : ns.length ≤ 20) : (ns.flatMap numT).length ≤ 440 := by
  have := textFlat_len (g := numT) (c := 22) (l := ns) fun n hn => by have := itoa_len (ho n hn); simp [numT]; omega
  omega
def insO (x : DIns) : Prop := overI x.dst ∧ overI x.a ∧ overI x.b ∧ overI x.f ∧ (∀ n, n ∈ x.args → overI n) ∧ x.args.length ≤ 20
def endO (x : DEnd) : Prop := overI x.a ∧ overI x.dst ∧ overI x.f ∧ overI x.to ∧ overI x.els ∧ overI x.pad ∧ (∀ n, n ∈ x.args → overI n) ∧ x.args.length ≤ 20
set_option maxHeartbeats 4000000 in
theorem rins_runs {q : Option Bool} {e : List TV} {x : DIns} (h : RIns q e x) (ho : insO x) : Runs prog 10 [.agg e] (S (insT x)) := by
  obtain ⟨g, rfl, hg, ho', hd', ha', hb', hk, hf'⟩ := h
  obtain ⟨hd, ha, hb, hf, hargs, hl⟩ := ho
  have hkO : overI x.k := by obtain ⟨_, _⟩ := hk; constructor <;> omega
  have n1 := num_runs hd
  have n2 := num_runs ha
  have n3 := num_runs hb
  have n4 := num_runs hf
  have n5 := num_runs hkO
  have n6 := nums_runs hg hargs hl
  have l1 := itoa_len hd
  have l2 := itoa_len ha
  have l3 := itoa_len hb
  have l4 := itoa_len hf
  have l5 := itoa_len hkO
  have l6 := nums_len hargs hl
  refine Runs.of (f10_MR _) ?_
  unfold f10_M
  refine Goes.chk rfl (Goes.call n1 (Goes.chk rfl (Goes.tv (padd_s _ _ (by simp only [List.length_cons, List.length_nil]; omega)) (Goes.call n2 (Goes.chk rfl (Goes.tv (padd_s _ _ (by simp only [List.length_cons, List.length_nil]; omega)) (Goes.call n3 (Goes.chk rfl (Goes.tv (padd_s _ _ (by simp only [List.length_cons, List.length_nil]; omega)) (Goes.tv rfl (Goes.ite rfl (fun _ => ?_) fun _ => ?_)))))))))))
  · refine Goes.tv (padd_s _ _ (by simp only [List.length_append, List.length_cons, List.length_nil]; omega)) (Goes.tv (padd_s _ _ (by simp only [List.length_append, List.length_cons, List.length_nil]; omega)) (Goes.tv (v := I x.k) (pconv_w hk) (Goes.call n5 (Goes.chk rfl (Goes.tv (padd_s _ _ (by simp only [List.length_append, List.length_cons, List.length_nil]; omega)) (goes_ret.2 ?_))))))
    simp_all [insT, lineT, numT]
  repeat' (first
    | refine Goes.chk rfl ?_
    | refine Goes.call n1 ?_
    | refine Goes.call n2 ?_
    | refine Goes.call n3 ?_
    | refine Goes.call n4 ?_
    | refine Goes.call n5 ?_
    | refine Goes.call n6 ?_
    | refine Goes.tv (padd_s _ _ (by simp only [List.length_append, List.length_cons, List.length_nil]; omega)) ?_
    | refine Goes.ite rfl (fun _ => ?_) (fun _ => ?_)
    | refine Goes.tv rfl ?_)
  all_goals (refine goes_ret.2 ?_; simp_all [insT, lineT, numT])
set_option maxHeartbeats 4000000 in
theorem rend_runs {q : Option Bool} {e : List TV} {x : DEnd} (h : REnd q e x) (ho : endO x) : Runs prog 12 [.agg e] (S (endT x)) := by
  obtain ⟨g, rfl, hg, hk', ha', hd', hf', ht', he', hp'⟩ := h
  obtain ⟨ha, hd, hf, ht, he, hp, hargs, hl⟩ := ho
  have n1 := num_runs hd
  have n2 := num_runs ha
  have n3 := num_runs ht
  have n4 := num_runs hf
  have n5 := num_runs he
  have n6 := nums_runs hg hargs hl
  have n7 := num_runs hp
  have l1 := itoa_len hd
  have l2 := itoa_len ha
  have l3 := itoa_len ht
  have l4 := itoa_len hf
  have l5 := itoa_len he
  have l6 := nums_len hargs hl
  have l7 := itoa_len hp
  refine Runs.of (f12_MR _) ?_
  unfold f12_M
  repeat' (first
    | refine Goes.chk rfl ?_
    | refine Goes.call n1 ?_
    | refine Goes.call n2 ?_
    | refine Goes.call n3 ?_
    | refine Goes.call n4 ?_
    | refine Goes.call n5 ?_
    | refine Goes.call n6 ?_
    | refine Goes.call n7 ?_
    | refine Goes.tv (padd_s _ _ (by simp only [List.length_append, List.length_cons, List.length_nil]; omega)) ?_
    | refine Goes.ite rfl (fun _ => ?_) (fun _ => ?_)
    | refine Goes.tv rfl ?_)
  all_goals (refine goes_ret.2 ?_; simp_all [endT, lineT, numT])
end Go.Ab.D5


/- Layer 3: the document's own pad. No condition. -/
set_option linter.unusedVariables false
set_option maxRecDepth 20000
namespace Go.Ab.D5
open Go Go.Ab Go.Proofs
theorem rpad_tail {y : TV} (d : Int) (a c : Bool) (acc : List UInt8) (h : acc.length ≤ 1000) : Goes prog 14 (f14_2 (S acc) (I d) y (B a) (B c)) (S (acc ++ (bif a then [32, 97, 108, 108] else []) ++ (bif c then [32, 99, 108, 101, 97, 110, 117, 112] else []))) := by
  unfold f14_2
  cases a <;> cases c
  · refine Goes.ite (v := false) rfl (fun h => nomatch h) fun _ => Goes.ite (v := false) rfl (fun h => nomatch h) fun _ => goes_ret.2 ?_
    simp
  · refine Goes.ite (v := false) rfl (fun h => nomatch h) fun _ => Goes.ite (v := true) rfl (fun _ => Goes.tv (padd_s _ _ (by simp; omega)) (goes_ret.2 ?_)) fun h => nomatch h
    simp
  · refine Goes.ite (v := true) rfl (fun _ => Goes.tv (padd_s _ _ (by simp; omega)) (Goes.ite (v := false) rfl (fun h => nomatch h) fun _ => goes_ret.2 ?_)) fun h => nomatch h
    simp
  · refine Goes.ite (v := true) rfl (fun _ => Goes.tv (padd_s _ _ (by simp; omega)) (Goes.ite (v := true) rfl (fun _ => Goes.tv (padd_s _ _ (by simp; omega)) (goes_ret.2 ?_)) fun h => nomatch h)) fun h => nomatch h
    simp
theorem rpad_runs {q : Option Bool} {e : List TV} {x : DPad} (h : RPad q e x) (hd : overI x.dst) (hl : x.catches.length ≤ 20) : Runs prog 14 [.agg e] (S (padT x)) := by
  obtain ⟨g, rfl, hg, _⟩ := h
  have l1 := itoa_len hd
  have loop : ∀ d k (acc : List UInt8), k + d = x.catches.length → acc.length ≤ 40 + 28 * k →
      Goes prog 14 (f14_0 (S acc) (I k) (I x.dst) g (B x.all) (B x.cleanup)) (S (acc ++ ((if k = 0 ∧ 0 < x.catches.length then [32, 99, 97, 116, 99, 104] else []) ++ (x.catches.drop k).flatMap numT) ++ (bif x.all then [32, 97, 108, 108] else []) ++ (bif x.cleanup then [32, 99, 108, 101, 97, 110, 117, 112] else []))) := by
    intro d
    induction d with
    | zero =>
      intro k acc hk hacc
      have hk : k = x.catches.length := by omega
      subst hk
      unfold f14_0
      refine Goes.tv (RL.len (by assumption)) (Goes.tv rfl (Goes.ite asB_end (fun h => nomatch h) fun _ => ?_))
      rw [if_neg (by omega)]
      simp only [List.drop_length, List.flatMap_nil, List.append_nil]
      exact Goes.jmp (f14_2_R _ _ _ _ _) (rpad_tail _ _ _ _ (by omega))
    | succ d ih =>
      intro k acc hk hacc
      have hkl : k < x.catches.length := by omega
      have ha : x.catches[k]? = some x.catches[k] := List.getElem?_eq_getElem hkl
      rw [List.drop_eq_getElem_cons hkl, List.flatMap_cons]
      obtain ⟨e, he, hr⟩ := hg.idx (k := .i64) ha
      generalize x.catches[k] = n at *
      obtain ⟨rfl, hn⟩ := hr
      have hov : overI n := by obtain ⟨_, _⟩ := hn; constructor <;> omega
      have hlen := itoa_len hov
      have step : ∀ acc2 : List UInt8, acc2.length ≤ 46 + 28 * k → Goes prog 14 (f14_1 (S acc2) (I k) (I x.dst) g (B x.all) (B x.cleanup)) (S (acc2 ++ (numT n ++ (x.catches.drop (k + 1)).flatMap numT) ++ (bif x.all then [32, 97, 108, 108] else []) ++ (bif x.cleanup then [32, 99, 108, 101, 97, 110, 117, 112] else []))) := by
        intro acc2 h1
        unfold f14_1
        refine Goes.tvs he (Goes.chk rfl (Goes.tv (pconv_w hn) (Goes.call (num_runs hov) (Goes.chk rfl (Goes.tv (padd_s _ _ (by simp; omega)) (Goes.tv (padd_s _ _ (by simp; omega)) (Goes.tv (inc hkl hg.bnd) (Goes.jmp (f14_0_R _ _ _ _ _ _) ?_))))))))
        have := ih (k + 1) (acc2 ++ numT n) (by omega) (by simp [numT]; omega)
        rw [if_neg (by omega)] at this
        have e2 : acc2 ++ (numT n ++ (x.catches.drop (k + 1)).flatMap numT) = acc2 ++ numT n ++ ([] ++ (x.catches.drop (k + 1)).flatMap numT) := by simp [List.append_assoc]
        rw [e2]
        exact this
      unfold f14_0
      refine Goes.tv (RL.len (by assumption)) (Goes.tv rfl (Goes.ite (asB_lt hkl) (fun _ => ?_) fun h => nomatch h))
      refine Goes.tv (v := B (decide ((k : Int) = 0))) rfl (Goes.ite rfl (fun h => ?_) fun h => ?_)
      · have h0 : k = 0 := by simp at h; omega
        refine Goes.tv (padd_s _ _ (by simp; omega)) (Goes.jmp (f14_1_R _ _ _ _ _ _) ?_)
        have := step (acc ++ [32, 99, 97, 116, 99, 104]) (by simp; omega)
        rw [if_pos ⟨h0, by omega⟩]
        have e2 : acc ++ ([32, 99, 97, 116, 99, 104] ++ (numT n ++ (x.catches.drop (k + 1)).flatMap numT)) = acc ++ [32, 99, 97, 116, 99, 104] ++ (numT n ++ (x.catches.drop (k + 1)).flatMap numT) := by simp [List.append_assoc]
        rw [e2]
        exact this
      · have h0 : ¬ k = 0 := by simp at h; omega
        refine Goes.jmp (f14_1_R _ _ _ _ _ _) ?_
        rw [if_neg (by omega), List.nil_append]
        exact step acc (by omega)
  refine Runs.of (f14_MR _) ?_
  unfold f14_M
  refine Goes.chk rfl (Goes.call (num_runs hd) (Goes.chk rfl (Goes.tv (padd_s _ _ (by simp; omega)) (Goes.jmp (f14_0_R _ _ _ _ _ _) ?_))))
  have := loop x.catches.length 0 ([112, 97, 100, 32] ++ Lib.itoa x.dst) (by omega) (by simp; omega)
  have e2 : padT x = [112, 97, 100, 32] ++ Lib.itoa x.dst ++ ((if 0 = 0 ∧ 0 < x.catches.length then [32, 99, 97, 116, 99, 104] else []) ++ (x.catches.drop 0).flatMap numT) ++ (bif x.all then [32, 97, 108, 108] else []) ++ (bif x.cleanup then [32, 99, 108, 101, 97, 110, 117, 112] else []) := by
    unfold padT lineT
    by_cases hc : 0 < x.catches.length
    · rw [if_pos hc, if_pos ⟨rfl, hc⟩]
      simp [numT]
    · have : x.catches = [] := List.length_eq_zero_iff.1 (by omega)
      rw [this]
      simp [numT]
  rw [e2]
  exact this
end Go.Ab.D5

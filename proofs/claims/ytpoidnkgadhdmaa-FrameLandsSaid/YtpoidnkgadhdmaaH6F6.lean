
/- What the functions of layer 2 answer: short modules, and copies. No condition. -/
import Derived.Test.YtpoidnkgadhdmaaH6F5
set_option linter.unusedVariables false
set_option maxRecDepth 10000
namespace Go.Ab
def shortB (b : DBlock) : Prop := b.ins.length ≤ 70 ∧ b.pad.catches.length ≤ 20 ∧ b.fin.args.length ≤ 20 ∧ ∀ i, i < b.ins.length → ∀ x, b.ins[i]? = some x → x.args.length ≤ 20
def shortF (f : DFunc) : Prop := f.blocks.length ≤ 70 ∧ ∀ i, i < f.blocks.length → ∀ b, f.blocks[i]? = some b → shortB b
def shortM (m : DMod) : Prop := m.funcs.length ≤ 20 ∧ ∀ i, i < m.funcs.length → ∀ f, m.funcs[i]? = some f → shortF f

def rowsOf : TV → List (List TV)
  | .sl _ _ xs => xs
  | _ => []
theorem set_self {β : Type} {l : List β} {i : Nat} {a : β} (h : l[i]? = some a) : l.set i a = l := by
  apply List.ext_getElem?
  intro j
  rw [List.getElem?_set]
  by_cases hj : i = j
  · subst hj; have := (List.getElem?_eq_some_iff.1 h).1; simp only [if_true, this]; rw [h]
  · simp [hj]
/-- A slice of its own, of which each element is as its place says. -/
def RP {α : Type} (s : Nat) (R : Nat → List TV → α → Prop) (x : TV) (l : List α) : Prop :=
  (x = .lit nilV ∧ l = []) ∨ ∃ xs, x = .sl true s xs ∧ xs.length = l.length ∧ xs.length ≤ 9223372036854775807 ∧ ∀ i e a, xs[i]? = some e → l[i]? = some a → R i e a
section
variable {α : Type} {s : Nat} {R S : Nat → List TV → α → Prop} {x : TV} {l : List α}
theorem setNth_len {β : Type} : ∀ (l : List β) (n : Nat) (b : β), (setNth l n b).length = l.length
  | [], _, _ => rfl
  | _ :: _, 0, _ => rfl
  | a :: l, n + 1, b => by simp [setNth, setNth_len l n b]
theorem setNth_get {β : Type} : ∀ (l : List β) (n : Nat) (b : β) (i : Nat), n < l.length → (setNth l n b)[i]? = if i = n then some b else l[i]?
  | [], _, _, _, h => by simp at h
  | _ :: _, 0, _, 0, _ => rfl
  | _ :: _, 0, _, i + 1, _ => by simp [setNth]
  | a :: l, n + 1, b, 0, _ => by simp [setNth]
  | a :: l, n + 1, b, i + 1, h => by
    have := setNth_get l n b i (by simpa using h)
    simp [setNth, this]
theorem RP.bnd (h : RP s R x l) : l.length ≤ 9223372036854775807 := by
  rcases h with ⟨rfl, rfl⟩ | ⟨xs, rfl, hl, hb, h⟩
  · simp
  · omega
theorem RP.len {t : TypeId} (h : RP s R x l) : plen (.slice t) x = some (I l.length) := by
  rcases h with ⟨rfl, rfl⟩ | ⟨xs, rfl, hl, hb, h⟩
  · rfl
  · simp [plen, hl]
theorem RP.slLen (h : RP s R x l) : Go.Ab.slLen x = some l.length := by
  rcases h with ⟨rfl, rfl⟩ | ⟨xs, rfl, hl, hb, h⟩
  · rfl
  · simp [Go.Ab.slLen, hl]
theorem RP.slSize (h : RP s R x l) : Go.Ab.slSize x s = true := by
  rcases h with ⟨rfl, rfl⟩ | ⟨xs, rfl, hl, hb, h⟩
  · rfl
  · simp [Go.Ab.slSize]
theorem RP.isSl (h : RP s R x l) : x.isSl = true := by
  rcases h with ⟨rfl, rfl⟩ | ⟨xs, rfl, hl, hb, h⟩ <;> rfl
theorem RP.pel (h : RP s R x l) {i : Nat} {a : α} (hi : l[i]? = some a) : ∃ e, Go.Ab.pel x i = some e ∧ R i e a := by
  rcases h with ⟨rfl, rfl⟩ | ⟨xs, rfl, hl, hb, h⟩
  · simp at hi
  · have hlt := (List.getElem?_eq_some_iff.1 hi).1
    exact ⟨xs[i]'(by omega), List.getElem?_eq_getElem _, h i _ a (List.getElem?_eq_getElem _) hi⟩
/-- An element, and the slice with another one in its place. -/
theorem RP.row (h : RP s R x l) {i : Nat} {a : α} (hi : l[i]? = some a) : ∃ e, Go.Ab.pel x i = some e ∧ R i e a ∧ (∀ j y, e[j]? = some y → getP [(i, j)] x = some y) ∧
    ∀ j ys, setC [] x i j ys = some (.sl true s (setNth (rowsOf x) i (setCells e j ys))) := by
  rcases h with ⟨rfl, rfl⟩ | ⟨xs, rfl, hl, hb, h⟩
  · simp at hi
  · have hlt := (List.getElem?_eq_some_iff.1 hi).1
    have hx : xs[i]? = some (xs[i]'(by omega)) := List.getElem?_eq_getElem _
    refine ⟨_, hx, h i _ a hx hi, fun j y hy => ?_, fun j ys => ?_⟩
    · simp only [getP, hx, hy]
    · simp only [setC, getP, setEl, hx, setP, rowsOf]
/-- The same with another one in a place. -/
theorem RP.setTo (h : RP s R x l) {i : Nat} {a b : α} (hi : l[i]? = some a) {e : List TV} (hS : S i e b) (hR : ∀ j e c, j ≠ i → R j e c → S j e c) : RP s S (.sl true s (setNth (rowsOf x) i e)) (l.set i b) := by
  rcases h with ⟨rfl, rfl⟩ | ⟨xs, rfl, hl, hb, h⟩
  · simp at hi
  · have hlt := (List.getElem?_eq_some_iff.1 hi).1
    refine .inr ⟨_, rfl, by simp [setNth_len, rowsOf, hl], by simp [setNth_len, rowsOf, hb], fun j e' c hj hc => ?_⟩
    rw [setNth_get _ _ _ _ (by simp only [rowsOf]; omega)] at hj
    simp only [rowsOf] at hj
    rw [List.getElem?_set] at hc
    by_cases hji : j = i
    · subst hji
      simp [hlt] at hj hc
      subst hj hc
      exact hS
    · rw [if_neg hji] at hj
      rw [if_neg (fun h => hji h.symm)] at hc
      exact hR j _ _ hji (h j _ _ hj hc)
theorem RP.set (h : RP s R x l) {i : Nat} {a : α} (hi : l[i]? = some a) {e : List TV} (hS : S i e a) (hR : ∀ j e c, j ≠ i → R j e c → S j e c) : RP s S (.sl true s (setNth (rowsOf x) i e)) l := by
  have := RP.setTo h hi hS hR
  rwa [set_self hi] at this
theorem RP.toRL {T : List TV → α → Prop} (h : RP s R x l) (hm : ∀ i e a, i < l.length → R i e a → T e a) : RL (some true) s T x l := by
  rcases h with ⟨rfl, rfl⟩ | ⟨xs, rfl, hl, hb, h⟩
  · exact .nil
  · refine .sl (by simp) (F2.of_get hl fun i e a he ha => hm i e a ?_ (h i e a he ha)) hb
    exact (List.getElem?_eq_some_iff.1 ha).1
theorem RL.toRP {T : List TV → α → Prop} (h : RL (some true) s T x l) (hm : ∀ i e a, T e a → R i e a) : RP s R x l := by
  rcases h with ⟨rfl, rfl⟩ | ⟨o, xs, rfl, hq, h, hb⟩
  · exact .inl ⟨rfl, rfl⟩
  · have : o = true := hq true rfl
    subst this
    refine .inr ⟨xs, rfl, h.length, hb, fun i e a he ha => ?_⟩
    obtain ⟨e', he', hr⟩ := h.get ha
    rw [he] at he'
    cases he'
    exact hm _ _ _ hr
end
theorem RL.isFr {α : Type} {s : Nat} {R : List TV → α → Prop} {x : TV} {l : List α} (h : RL (some false) s R x l) : x.isFr = true := by
  rcases h with ⟨rfl, rfl⟩ | ⟨o, xs, rfl, hq, h, hb⟩
  · rfl
  · rw [hq false rfl]; rfl
theorem isOwnLL_all : ∀ (xs : List (List TV)), (∀ e ∈ xs, isOwnL e = true) → isOwnLL xs = true
  | [], _ => rfl
  | e :: xs, h => by
    simp only [isOwnLL, Bool.and_eq_true]
    exact ⟨h e List.mem_cons_self, isOwnLL_all xs fun e he => h e (List.mem_cons_of_mem _ he)⟩
theorem F2.memL {α β : Type} {R : α → β → Prop} {xs : List α} {l : List β} (h : F2 R xs l) {e : α} (he : e ∈ xs) : ∃ a, a ∈ l ∧ R e a := by
  obtain ⟨i, hi, rfl⟩ := List.mem_iff_getElem.1 he
  obtain ⟨a, ha, hr⟩ := h.getL (List.getElem?_eq_getElem hi)
  exact ⟨a, List.mem_of_getElem? ha, hr⟩
theorem RL.own {α : Type} {s : Nat} {R : List TV → α → Prop} {x : TV} {l : List α} (h : RL (some true) s R x l) (hm : ∀ e a, R e a → isOwnL e = true) : isOwn x = true := by
  rcases h with ⟨rfl, rfl⟩ | ⟨o, xs, rfl, hq, h, hb⟩
  · rfl
  · rw [hq true rfl]
    simp only [isOwn, Bool.true_and]
    refine isOwnLL_all _ fun e he => ?_
    obtain ⟨a, _, hr⟩ := h.memL he
    exact hm _ _ hr
theorem RI1.own {e : List TV} {n : Int} (h : RI1 e n) : isOwnL e = true := by obtain ⟨rfl, _⟩ := h; rfl
theorem RW1.own {e : List TV} {n : Int} (h : RW1 e n) : isOwnL e = true := by obtain ⟨rfl, _⟩ := h; rfl
theorem RB1.own {e : List TV} {n : Bool} (h : RB1 e n) : isOwnL e = true := by cases h; rfl
theorem RIns.own {e : List TV} {a : DIns} (h : RIns (some true) e a) : isOwnL e = true := by
  obtain ⟨g, rfl, hg, _⟩ := h
  simp [isOwnL, isOwn, hg.own fun _ _ h => h.own]
theorem RBlock.own {e : List TV} {a : DBlock} (h : RBlock (some true) e a) : isOwnL e = true := by
  obtain ⟨c, i, g, rfl, hc, hd, hi, hg, ho⟩ := h
  simp [isOwnL, isOwn, hc.own fun _ _ h => h.own, hi.own fun _ _ h => h.own, hg.own fun _ _ h => h.own]
theorem RFunc.own {e : List TV} {a : DFunc} (h : RFunc (some true) e a) : isOwnL e = true := by
  obtain ⟨b, rfl, hb, ho⟩ := h
  simp [isOwnL, isOwn, hb.own fun _ _ h => h.own]
theorem RMod.own {e : List TV} {a : DMod} (h : RMod (some true) e a) : isOwnL e = true := by
  obtain ⟨b, rfl, hb⟩ := h
  simp [isOwnL, hb.own fun _ _ h => h.own]

/-- A row copied. -/
theorem own_copy {α : Type} {q : Option Bool} {s : Nat} {R : List TV → α → Prop} {x : TV} {l : List α} (h : RL q s R x l) (z : List TV) {xs : List (List TV)} (hx : pelems s x = some xs) : ∃ y, pcopy s (.sl true s (List.replicate l.length z)) xs = some y ∧ RL (some true) s R y l := by
  have hl : F2 R xs l ∧ xs.length ≤ 9223372036854775807 := by
    rcases h with ⟨rfl, rfl⟩ | ⟨o, ys, rfl, hq, h, hb⟩
    · change some [] = some xs at hx; cases hx; exact ⟨.nil, by simp⟩
    · simp [pelems] at hx; subst hx; exact ⟨h, hb⟩
  have hlen := hl.1.length
  refine ⟨.sl true s (xs.take l.length ++ (List.replicate l.length z).drop xs.length), by simp [pcopy], ?_⟩
  rw [← hlen, List.take_length, List.drop_eq_nil_of_le (by simp), List.append_nil]
  exact .sl (by simp) hl.1 hl.2
end Go.Ab
namespace Go.Ab.H6
open Go Go.Ab Go.Proofs
theorem gt_false {n : Nat} {c : Int} {b : Bool} (h : (asBool (.lit (.bool (decide ((n : Int) > c))))) = some false) : (n : Int) ≤ c := by
  simp [asBool] at h; omega
/-- davitref02.Short -/
theorem r7 {q : Option Bool} {e : List TV} {m : DMod} (hm : RMod q e m) : ∃ b, Runs prog 13 [.agg e] (B b) ∧ (b = true → shortM m) := by
  obtain ⟨x, rfl, hx⟩ := hm
  -- the innermost
  have no : ∀ {p : Prg TV}, Goes prog 13 p (B false) → ∃ b, Goes prog 13 p (B b) ∧ (b = true → shortM m) := fun h => ⟨false, h, fun h => nomatch h⟩
  by_cases hlen : m.funcs.length ≤ 20
  · have outer : ∀ d i (n : Int), i + d = m.funcs.length → 0 ≤ n → n ≤ (i : Int) * 4900 → (∀ j, j < i → ∀ f, m.funcs[j]? = some f → shortF f) → ∃ b, Goes prog 13 (f13_0 (I n) (I i) x) (B b) ∧ (b = true → shortM m) := by
      intro d
      induction d with
      | zero =>
        intro i n hi h0 hn hs
        have hi : i = m.funcs.length := by omega
        subst hi
        refine ⟨decide (n ≤ 2000), ?_, fun _ => ⟨hlen, hs⟩⟩
        unfold f13_0
        refine Goes.tv (RL.len (by assumption)) (Goes.tv rfl (Goes.ite asB_end (fun h => nomatch h) fun _ => ?_))
        exact Goes.tv rfl Goes.ret
      | succ d ih =>
        intro i n hi h0 hn hs
        have hk : i < m.funcs.length := by omega
        have ha : m.funcs[i]? = some m.funcs[i] := List.getElem?_eq_getElem hk
        obtain ⟨e, he, hr⟩ := hx.idx (k := .i64) ha
        generalize m.funcs[i] = f at ha hr
        obtain ⟨y, rfl, hy, _⟩ := hr
        by_cases hbl : f.blocks.length ≤ 70
        · have mid : ∀ d k (n : Int), k + d = f.blocks.length → 0 ≤ n → n ≤ (i : Int) * 4900 + k * 70 → (∀ j, j < k → ∀ b, f.blocks[j]? = some b → shortB b) → ∃ b, Goes prog 13 (f13_1 (I n) (I i) (I k) x) (B b) ∧ (b = true → shortM m) := by
            intro d
            induction d with
            | zero =>
              intro k n hk' h0 hn hsb
              have hk' : k = f.blocks.length := by omega
              subst hk'
              obtain ⟨b, hb, himp⟩ := ih (i + 1) n (by omega) h0 (by simp; omega) (fun j hj g hg => by
                by_cases hji : j = i
                · subst hji; rw [ha] at hg; cases hg; exact ⟨hbl, fun j hj => hsb j hj⟩
                · exact hs j (by omega) g hg)
              refine ⟨b, ?_, himp⟩
              unfold f13_1
              refine Goes.tvs he (Goes.chk rfl (Goes.tv hy.len (Goes.tv rfl (Goes.ite asB_end (fun h => nomatch h) fun _ => ?_))))
              exact Goes.tv (inc hk hx.bnd) (Goes.jmp (f13_0_R _ _ _) hb)
            | succ d ihm =>
              intro k n hk' h0 hn hsb
              have hkb : k < f.blocks.length := by omega
              have hab : f.blocks[k]? = some f.blocks[k] := List.getElem?_eq_getElem hkb
              obtain ⟨e2, he2, hr2⟩ := hy.idx (k := .i64) hab
              generalize f.blocks[k] = b at hab hr2
              obtain ⟨c, is, g, rfl, hc, hd, his, hg, ho⟩ := hr2
              have start : ∀ r, (¬ (b.ins.length ≤ 70 ∧ b.pad.catches.length ≤ 20 ∧ b.fin.args.length ≤ 20) → r = B false) → (b.ins.length ≤ 70 ∧ b.pad.catches.length ≤ 20 ∧ b.fin.args.length ≤ 20 → Goes prog 13 (f13_2 (I (n + b.ins.length)) (I i) (I k) (I (0 : Nat)) x (B b.landing) (I b.pad.dst) c (B b.pad.all) (B b.pad.cleanup) is (I b.fin.kind) (I b.fin.a) (I b.fin.dst) (I b.fin.f) g (I b.fin.to) (I b.fin.els) (I b.fin.pad)) r) → Goes prog 13 (f13_1 (I n) (I i) (I k) x) r := by
                intro r h1 h2
                unfold f13_1
                refine Goes.tvs he (Goes.chk rfl (Goes.tv hy.len (Goes.tv rfl (Goes.ite (asB_lt hkb) (fun _ => ?_) fun h => nomatch h))))
                refine Goes.tvs he (Goes.chk rfl (Goes.tvs he2 (Goes.chk rfl (Goes.tv his.len (Goes.tv rfl (Goes.ite rfl (fun h => ?_) fun g1 => ?_))))))
                · rw [h1 (by simp at h; omega)]; exact Goes.ret
                · refine Goes.tv hc.len (Goes.tv rfl (Goes.ite rfl (fun h => ?_) fun g2 => ?_))
                  · rw [h1 (by simp at h; omega)]; exact Goes.ret
                  · refine Goes.tv hg.len (Goes.tv rfl (Goes.ite rfl (fun h => ?_) fun g3 => ?_))
                    · rw [h1 (by simp at h; omega)]; exact Goes.ret
                    · simp at g1 g2 g3
                      refine Goes.tv his.len (Goes.tv (padd (by constructor <;> omega)) (Goes.jmp (f13_2_R _ _ _ _ _ _ _ _ _ _ _ _ _ _ _ _ _ _ _) (h2 ⟨by omega, by omega, by omega⟩)))
              by_cases hsz : b.ins.length ≤ 70 ∧ b.pad.catches.length ≤ 20 ∧ b.fin.args.length ≤ 20
              · have inner : ∀ d j, j + d = b.ins.length → (∀ t, t < j → ∀ x, b.ins[t]? = some x → x.args.length ≤ 20) → ∃ r, Goes prog 13 (f13_2 (I (n + b.ins.length)) (I i) (I k) (I j) x (B b.landing) (I b.pad.dst) c (B b.pad.all) (B b.pad.cleanup) is (I b.fin.kind) (I b.fin.a) (I b.fin.dst) (I b.fin.f) g (I b.fin.to) (I b.fin.els) (I b.fin.pad)) (B r) ∧ (r = true → shortM m) := by
                  intro d
                  induction d with
                  | zero =>
                    intro j hj hs2
                    have hj : j = b.ins.length := by omega
                    subst hj
                    obtain ⟨r, hb, himp⟩ := ihm (k + 1) (n + b.ins.length) (by omega) (by omega) (by simp; omega) (fun j hj g hg => by
                      by_cases hji : j = k
                      · subst hji; rw [hab] at hg; cases hg; exact ⟨hsz.1, hsz.2.1, hsz.2.2, hs2⟩
                      · exact hsb j (by omega) g hg)
                    refine ⟨r, ?_, himp⟩
                    unfold f13_2
                    refine Goes.tv (RL.len (by assumption)) (Goes.tv rfl (Goes.ite asB_end (fun h => nomatch h) fun _ => ?_))
                    exact Goes.tv (inc hkb hy.bnd) (Goes.jmp (f13_1_R _ _ _ _) hb)
                  | succ d ihi =>
                    intro j hj hs2
                    have hjb : j < b.ins.length := by omega
                    have hax : b.ins[j]? = some b.ins[j] := List.getElem?_eq_getElem hjb
                    obtain ⟨e3, he3, hr3⟩ := his.idx (k := .i64) hax
                    generalize b.ins[j] = u at hax hr3
                    obtain ⟨v, rfl, hv, _⟩ := hr3
                    by_cases hu : u.args.length ≤ 20
                    · obtain ⟨r, hb, himp⟩ := ihi (j + 1) (by omega) (fun t ht z hz => by
                        by_cases htj : t = j
                        · subst htj; rw [hax] at hz; cases hz; exact hu
                        · exact hs2 t (by omega) z hz)
                      refine ⟨r, ?_, himp⟩
                      unfold f13_2
                      refine Goes.tv (RL.len (by assumption)) (Goes.tv rfl (Goes.ite (asB_lt hjb) (fun _ => ?_) fun h => nomatch h))
                      refine Goes.tvs he3 (Goes.chk rfl (Goes.tv hv.len (Goes.tv rfl (Goes.ite rfl (fun h => ?_) fun _ => ?_))))
                      · simp at h; omega
                      · exact Goes.tv (inc hjb his.bnd) (Goes.jmp (f13_2_R _ _ _ _ _ _ _ _ _ _ _ _ _ _ _ _ _ _ _) hb)
                    · refine no ?_
                      unfold f13_2
                      refine Goes.tv (RL.len (by assumption)) (Goes.tv rfl (Goes.ite (asB_lt hjb) (fun _ => ?_) fun h => nomatch h))
                      refine Goes.tvs he3 (Goes.chk rfl (Goes.tv hv.len (Goes.tv rfl (Goes.ite rfl (fun h => Goes.ret) fun h => ?_))))
                      simp at h; omega
                obtain ⟨r, hb, himp⟩ := inner b.ins.length 0 (by omega) (fun t ht => by omega)
                exact ⟨r, start _ (fun h => absurd hsz h) (fun _ => hb), himp⟩
              · exact no (start _ (fun _ => rfl) (fun h => absurd h hsz))
          obtain ⟨b, hb, himp⟩ := mid f.blocks.length 0 n (by omega) h0 (by simp; omega) (fun j hj => by omega)
          refine ⟨b, ?_, himp⟩
          unfold f13_0
          refine Goes.tv (RL.len (by assumption)) (Goes.tv rfl (Goes.ite (asB_lt hk) (fun _ => ?_) fun h => nomatch h))
          refine Goes.tvs he (Goes.chk rfl (Goes.tv hy.len (Goes.tv rfl (Goes.ite rfl (fun h => ?_) fun _ => ?_))))
          · simp at h; omega
          · exact Goes.jmp (f13_1_R _ _ _ _) hb
        · refine no ?_
          unfold f13_0
          refine Goes.tv (RL.len (by assumption)) (Goes.tv rfl (Goes.ite (asB_lt hk) (fun _ => ?_) fun h => nomatch h))
          refine Goes.tvs he (Goes.chk rfl (Goes.tv hy.len (Goes.tv rfl (Goes.ite rfl (fun h => Goes.ret) fun h => ?_))))
          simp at h; omega
    obtain ⟨b, hb, himp⟩ := outer m.funcs.length 0 0 (by omega) (by omega) (by simp) (fun j hj => by omega)
    refine ⟨b, ?_, himp⟩
    refine Runs.of (f13_MR _) ?_
    unfold f13_M
    refine Goes.chk rfl (Goes.tv hx.len (Goes.tv rfl (Goes.ite rfl (fun h => ?_) fun _ => Goes.jmp (f13_0_R _ _ _) hb)))
    simp at h; omega
  · refine ⟨false, ?_, fun h => nomatch h⟩
    refine Runs.of (f13_MR _) ?_
    unfold f13_M
    refine Goes.chk rfl (Goes.tv hx.len (Goes.tv rfl (Goes.ite rfl (fun _ => Goes.ret) fun h => ?_)))
    simp at h; omega

theorem r26 {α : Type} {q : Option Bool} {R : List TV → α → Prop} {x : TV} {l : List α} (hx : RL q 3 R x l) (hl : l.length ≤ 4294967296) : ∃ y, Runs prog 44 [x] y ∧ RL (some true) 3 R y l := by
  obtain ⟨xs, hxs, _⟩ := hx.elems
  obtain ⟨y, hy, hr⟩ := own_copy hx [.lit (.int .i64 0), .lit (.int .i64 0), .lit (.slice none 0 0)] hxs
  have hn := asNat_nat (k := l.length) (by omega)
  have hle : (Nat.ble l.length 4294967296) = true := by simpa using hl
  have hle' : (Nat.ble l.length l.length) = true := by simp
  rcases hx with ⟨rfl, rfl⟩ | ⟨o, ys, rfl, hq, h, hb⟩
  · refine ⟨.lit nilV, ?_, .nil⟩
    refine Runs.of (f44_MR _) ?_
    unfold f44_M
    exact Goes.tv rfl (Goes.ite rfl (fun _ => Goes.ret) fun h => nomatch h)
  · refine ⟨y, ?_, hr⟩
    refine Runs.of (f44_MR _) ?_
    unfold f44_M
    refine Goes.tv rfl (Goes.ite rfl (fun h => nomatch h) fun _ => ?_)
    refine Goes.tv (v := I l.length) (by simp [plen, h.length]) (Goes.nat hn (Goes.nat hn (Goes.chk (by rw [hle, hle']; rfl) (Goes.rws hxs (Goes.tv hy (Goes.nat rfl Goes.ret))))))

theorem r27 {α : Type} {q : Option Bool} {R : List TV → α → Prop} {x : TV} {l : List α} (hx : RL q 14 R x l) (hl : l.length ≤ 4294967296) : ∃ y, Runs prog 45 [x] y ∧ RL (some true) 14 R y l := by
  obtain ⟨xs, hxs, _⟩ := hx.elems
  obtain ⟨y, hy, hr⟩ := own_copy hx [.lit (.bool false), .lit (.int .i64 0), .lit (.slice none 0 0), .lit (.bool false), .lit (.bool false), .lit (.slice none 0 0), .lit (.int .i64 0), .lit (.int .i64 0), .lit (.int .i64 0), .lit (.int .i64 0), .lit (.slice none 0 0), .lit (.int .i64 0), .lit (.int .i64 0), .lit (.int .i64 0)] hxs
  have hn := asNat_nat (k := l.length) (by omega)
  have hle : (Nat.ble l.length 4294967296) = true := by simpa using hl
  have hle' : (Nat.ble l.length l.length) = true := by simp
  rcases hx with ⟨rfl, rfl⟩ | ⟨o, ys, rfl, hq, h, hb⟩
  · refine ⟨.lit nilV, ?_, .nil⟩
    refine Runs.of (f45_MR _) ?_
    unfold f45_M
    exact Goes.tv rfl (Goes.ite rfl (fun _ => Goes.ret) fun h => nomatch h)
  · refine ⟨y, ?_, hr⟩
    refine Runs.of (f45_MR _) ?_
    unfold f45_M
    refine Goes.tv rfl (Goes.ite rfl (fun h => nomatch h) fun _ => ?_)
    refine Goes.tv (v := I l.length) (by simp [plen, h.length]) (Goes.nat hn (Goes.nat hn (Goes.chk (by rw [hle, hle']; rfl) (Goes.rws hxs (Goes.tv hy (Goes.nat rfl Goes.ret))))))

theorem r40 {α : Type} {q : Option Bool} {R : List TV → α → Prop} {x : TV} {l : List α} (hx : RL q 7 R x l) (hl : l.length ≤ 4294967296) : ∃ y, Runs prog 71 [x] y ∧ RL (some true) 7 R y l := by
  obtain ⟨xs, hxs, _⟩ := hx.elems
  obtain ⟨y, hy, hr⟩ := own_copy hx [.lit (.int .i64 0), .lit (.int .i64 0), .lit (.int .i64 0), .lit (.int .i64 0), .lit (.int .u16 0), .lit (.int .i64 0), .lit (.slice none 0 0)] hxs
  have hn := asNat_nat (k := l.length) (by omega)
  have hle : (Nat.ble l.length 4294967296) = true := by simpa using hl
  have hle' : (Nat.ble l.length l.length) = true := by simp
  rcases hx with ⟨rfl, rfl⟩ | ⟨o, ys, rfl, hq, h, hb⟩
  · refine ⟨.lit nilV, ?_, .nil⟩
    refine Runs.of (f71_MR _) ?_
    unfold f71_M
    exact Goes.tv rfl (Goes.ite rfl (fun _ => Goes.ret) fun h => nomatch h)
  · refine ⟨y, ?_, hr⟩
    refine Runs.of (f71_MR _) ?_
    unfold f71_M
    refine Goes.tv rfl (Goes.ite rfl (fun h => nomatch h) fun _ => ?_)
    refine Goes.tv (v := I l.length) (by simp [plen, h.length]) (Goes.nat hn (Goes.nat hn (Goes.chk (by rw [hle, hle']; rfl) (Goes.rws hxs (Goes.tv hy (Goes.nat rfl Goes.ret))))))

theorem r39 {q : Option Bool} {x : TV} {l : List Int} (hx : RL q 1 RW1 x l) (hl : l.length ≤ 4294967296) : ∃ y, Runs prog 70 [x] y ∧ RL (some true) 1 RW1 y l := by
  obtain ⟨xs, hxs, _⟩ := hx.elems
  obtain ⟨y, hy, hr⟩ := own_copy hx [.lit (.int .u16 0)] hxs
  have hn := asNat_nat (k := l.length) (by omega)
  have hle : (Nat.ble l.length 4294967296) = true := by simpa using hl
  have hle' : (Nat.ble l.length l.length) = true := by simp
  have hown := hr.own fun _ _ h => h.own
  rcases hx with ⟨rfl, rfl⟩ | ⟨o, ys, rfl, hq, h, hb⟩
  · refine ⟨.lit nilV, ?_, .nil⟩
    refine Runs.of (f70_MR _) ?_
    unfold f70_M
    exact Goes.tv rfl (Goes.ite rfl (fun _ => Goes.chk rfl Goes.ret) fun h => nomatch h)
  · refine ⟨y, ?_, hr⟩
    refine Runs.of (f70_MR _) ?_
    unfold f70_M
    refine Goes.tv rfl (Goes.ite rfl (fun h => nomatch h) fun _ => ?_)
    refine Goes.tv (v := I l.length) (by simp [plen, h.length]) (Goes.nat hn (Goes.nat hn (Goes.chk (by rw [hle, hle']; rfl) (Goes.rws hxs (Goes.tv hy (Goes.nat rfl (Goes.chk hown Goes.ret)))))))

theorem r41 {q : Option Bool} {x : TV} {l : List Int} (hx : RL q 1 RI1 x l) (hl : l.length ≤ 4294967296) : ∃ y, Runs prog 72 [x] y ∧ RL (some true) 1 RI1 y l := by
  obtain ⟨xs, hxs, _⟩ := hx.elems
  obtain ⟨y, hy, hr⟩ := own_copy hx [.lit (.int .i64 0)] hxs
  have hn := asNat_nat (k := l.length) (by omega)
  have hle : (Nat.ble l.length 4294967296) = true := by simpa using hl
  have hle' : (Nat.ble l.length l.length) = true := by simp
  have hown := hr.own fun _ _ h => h.own
  rcases hx with ⟨rfl, rfl⟩ | ⟨o, ys, rfl, hq, h, hb⟩
  · refine ⟨.lit nilV, ?_, .nil⟩
    refine Runs.of (f72_MR _) ?_
    unfold f72_M
    exact Goes.tv rfl (Goes.ite rfl (fun _ => Goes.chk rfl Goes.ret) fun h => nomatch h)
  · refine ⟨y, ?_, hr⟩
    refine Runs.of (f72_MR _) ?_
    unfold f72_M
    refine Goes.tv rfl (Goes.ite rfl (fun h => nomatch h) fun _ => ?_)
    refine Goes.tv (v := I l.length) (by simp [plen, h.length]) (Goes.nat hn (Goes.nat hn (Goes.chk (by rw [hle, hle']; rfl) (Goes.rws hxs (Goes.tv hy (Goes.nat rfl (Goes.chk hown Goes.ret)))))))


/-- shape.copyBlock -/
theorem r28 {q : Option Bool} {e : List TV} {b : DBlock} (he : RBlock q e b) (hs : shortB b) : ∃ e', Runs prog 46 [.agg e] (.agg e') ∧ RBlock (some true) e' b := by
  obtain ⟨c, i, g, rfl, hc, hd, hi, hg, ho⟩ := he
  obtain ⟨hs1, hs2, hs3, hs4⟩ := hs
  obtain ⟨c', h39, hc'⟩ := r39 hc (by omega)
  obtain ⟨i', h40, hi'⟩ := r40 hi (by omega)
  obtain ⟨g', h41, hg'⟩ := r41 hg (by omega)
  have loop : ∀ d k w, k + d = b.ins.length → RP 7 (fun j e x => RIns (if j < k then some true else q) e x) w b.ins → ∃ w', Goes prog 46 (f46_0 (I b.ins.length) (I k) (B b.landing) (I b.pad.dst) (B b.pad.all) (B b.pad.cleanup) (I b.fin.kind) (I b.fin.a) (I b.fin.dst) (I b.fin.f) g (I b.fin.to) (I b.fin.els) (I b.fin.pad) c' w) (.agg [B b.landing, I b.pad.dst, c', B b.pad.all, B b.pad.cleanup, w', I b.fin.kind, I b.fin.a, I b.fin.dst, I b.fin.f, g', I b.fin.to, I b.fin.els, I b.fin.pad]) ∧ RL (some true) 7 (RIns (some true)) w' b.ins := by
    intro d
    induction d with
    | zero =>
      intro k w hk hw
      have hk : k = b.ins.length := by omega
      subst hk
      have hw' : RL (some true) 7 (RIns (some true)) w b.ins := hw.toRL fun i e a hi h => by simpa [hi] using h
      refine ⟨w, ?_, hw'⟩
      unfold f46_0
      refine Goes.tv rfl (Goes.ite asB_end (fun h => nomatch h) fun _ => ?_)
      refine Goes.jmp (f46_1_R _ _ _ _ _ _ _ _ _ _ _ _ _ _) ?_
      unfold f46_1
      refine Goes.call h41 (Goes.chk ?_ (Goes.chk ?_ Goes.ret))
      · simp [fitsAt, zSl, isSlV, hg'.isSl]
      · simp [isOwn, isOwnL, hc'.own fun _ _ h => h.own, hg'.own fun _ _ h => h.own, hw'.own fun _ _ h => h.own]
    | succ d ih =>
      intro k w hk hw
      have hkb : k < b.ins.length := by omega
      have ha : b.ins[k]? = some b.ins[k] := List.getElem?_eq_getElem hkb
      obtain ⟨e, he, hr, hget, hset⟩ := hw.row ha
      simp only [Nat.lt_irrefl, if_false] at hr
      have hrr := hr
      have hargs := hs4 k hkb _ ha
      generalize hu : b.ins[k] = u at *
      obtain ⟨v, rfl, hv, hok⟩ := hr
      obtain ⟨v', h41v, hv'⟩ := r41 (hv.frz (S := RI1) fun _ _ h => h.frz) (by omega)
      have hw2 := hw.set (S := fun j e x => RIns (if j < k + 1 then some true else q) e x) ha (e := [I u.op, I u.dst, I u.a, I u.b, W u.k, I u.f, v']) (by simp; exact ⟨v', rfl, hv', hok⟩) (fun j e c hj h => by
        by_cases hjk : j < k
        · simpa [hjk, show j < k + 1 by omega] using h
        · simpa [hjk, show ¬ j < k + 1 by omega] using h)
      obtain ⟨w', hw', hrl⟩ := ih (k + 1) _ (by omega) hw2
      refine ⟨w', ?_, hrl⟩
      have hb := hi.bnd
      have hlt : (Nat.blt k b.ins.length) = true := by simpa using hkb
      unfold f46_0
      refine Goes.tv rfl (Goes.ite (asB_lt hkb) (fun _ => ?_) fun h => nomatch h)
      refine Goes.nat hw.slLen (Goes.nat (asNat_nat (by omega)) (Goes.chk (by rw [hw.slSize, hlt]; rfl) (Goes.tvs he (Goes.chk (by simp [fitsAt, zSl, isSlV, hv.isSl]) (Goes.tv (hget 6 v rfl) (Goes.call h41v (Goes.chk (by simp [fitsAt, zSl, isSlV, hv'.isSl]) ?_)))))))
      refine Goes.nat hw.slLen (Goes.nat (asNat_nat (by omega)) (Goes.chk (by rw [hw.slSize, hlt]; rfl) (Goes.tvs he (Goes.chk (by simp [fitsAt, zSl, isSlV, hv.isSl, hv'.isSl]) (Goes.tv (hset 6 [v']) (Goes.tv (inc hkb hb) (Goes.jmp (f46_0_R _ _ _ _ _ _ _ _ _ _ _ _ _ _ _ _) hw')))))))
  obtain ⟨w', hw', hrl⟩ := loop b.ins.length 0 i' (by omega) (hi'.toRP fun i e a h => by simpa using h)
  refine ⟨_, ?_, ⟨c', w', g', rfl, hc', hd, hrl, hg', ho⟩⟩
  refine Runs.of (f46_MR _) ?_
  unfold f46_M
  refine Goes.chk rfl (Goes.call h39 (Goes.chk (by simp [fitsAt, zSl, isSlV, hc'.isSl]) (Goes.call h40 (Goes.chk (by simp [fitsAt, zSl, isSlV, hi'.isSl]) (Goes.tv hi'.len (Goes.jmp (f46_0_R _ _ _ _ _ _ _ _ _ _ _ _ _ _ _ _) hw'))))))
end Go.Ab.H6

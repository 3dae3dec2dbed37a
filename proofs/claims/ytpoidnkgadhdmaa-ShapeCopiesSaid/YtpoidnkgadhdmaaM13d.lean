/- A region whose order is open: whichever order is drawn, it does what it does in the order of its text. No condition but those of the operations. -/
import Derived.Test.YtpoidnkgadhdmaaM13e
namespace Go.Ab
open Go.RowKit
set_option linter.unusedVariables false

/-! ### those that stand ahead -/
theorem mask_spec {acc : List Nat} {j : Nat} : ∀ {es : List Edge}, (maskOf acc es).testBit j = true → ∃ e ∈ es, Region.binds .any e = true ∧ (e.on = j ∨ (nth 0 acc e.on).testBit j = true)
  | [], h => by simp [maskOf] at h
  | e :: es, h => by
    simp only [maskOf] at h
    cases hb : Region.binds .any e with
    | false =>
      simp only [hb, cond_false] at h
      obtain ⟨e', he, r⟩ := mask_spec h
      exact ⟨e', List.mem_cons_of_mem _ he, r⟩
    | true =>
      simp only [hb, cond_true, Nat.testBit_or, Bool.or_eq_true] at h
      rcases h with (h | h) | h
      · obtain ⟨e', he, r⟩ := mask_spec h
        exact ⟨e', List.mem_cons_of_mem _ he, r⟩
      · rw [Nat.testBit_two_pow] at h
        exact ⟨e, List.mem_cons_self, hb, .inl (by simpa using h)⟩
      · exact ⟨e, List.mem_cons_self, hb, .inr h⟩

theorem behindFrom_spec : ∀ (ops : List Oper) (acc : List Nat), (behindFrom acc ops).length = acc.length + ops.length ∧ (behindFrom acc ops).take acc.length = acc ∧
    ∀ (k : Nat) (o : Oper), ops[k]? = some o → (behindFrom acc ops)[acc.length + k]? = some (maskOf ((behindFrom acc ops).take (acc.length + k)) o.after.toList)
  | [], acc => ⟨by simp [behindFrom], by simp [behindFrom], by simp⟩
  | o :: ops, acc => by
    obtain ⟨h1, h2, h3⟩ := behindFrom_spec ops (acc ++ [maskOf acc o.after.toList])
    simp only [List.length_append, List.length_cons, List.length_nil] at h1 h2 h3
    have hpre : (behindFrom acc (o :: ops)).take acc.length = acc := by
      simp only [behindFrom]
      have := congrArg (List.take acc.length) h2
      rw [List.take_take] at this
      rw [show min acc.length (acc.length + (0 + 1)) = acc.length by omega] at this
      rw [this]; simp
    refine ⟨by simp only [behindFrom]; rw [h1]; simp; omega, hpre, fun k o' hk => ?_⟩
    cases k with
    | zero =>
      simp at hk
      subst hk
      simp only [Nat.add_zero]
      rw [hpre]
      simp only [behindFrom]
      have : ((behindFrom (acc ++ [maskOf acc o.after.toList]) ops).take (acc.length + (0 + 1)))[acc.length]? = (acc ++ [maskOf acc o.after.toList])[acc.length]? := by rw [h2]
      rw [List.getElem?_take_of_lt (by omega)] at this
      rw [this]; simp
    | succ k =>
      simp at hk
      have := h3 k o' hk
      simp only [behindFrom]
      rw [show acc.length + (k + 1) = acc.length + (0 + 1) + k by omega]
      exact this

theorem behind_at {ops : List Oper} {k : Nat} {o : Oper} (h : ops[k]? = some o) : nth 0 (behind ops) k = maskOf ((behind ops).take k) o.after.toList := by
  have := (behindFrom_spec ops []).2.2 k o h
  simp only [List.length_nil, Nat.zero_add] at this
  exact nth_some this

theorem edgesBelow_spec {i : Nat} : ∀ {es : List Edge}, edgesBelow i es = true → ∀ e ∈ es, Region.binds .any e = true → e.on < i
  | [], _, e, he, _ => by cases he
  | e' :: es, h, e, he, hb => by
    simp only [edgesBelow] at h
    rcases List.mem_cons.1 he with rfl | he
    · simp only [hb, cond_true] at h
      cases hl : e.on.blt i with
      | false => simp [hl] at h
      | true => simpa using hl
    · cases hb' : Region.binds .any e' with
      | false => simp only [hb', cond_false] at h; exact edgesBelow_spec h e he hb
      | true =>
        simp only [hb', cond_true] at h
        cases hl : e'.on.blt i with
        | false => simp [hl] at h
        | true => simp only [hl, cond_true] at h; exact edgesBelow_spec h e he hb

theorem pairsOk_spec {ops : List Oper} {m : Nat} {y : Oper} {j : Nat} : ∀ (l : List Oper) (i : Nat), pairsOk ops m y j i l = true → ∀ (k : Nat) (x : Oper), l[k]? = some x → i + k < j → m.testBit (i + k) = true ∨ apartB ops x y = true
  | [], i, _, k, x, hx, _ => by simp at hx
  | o :: l, i, h, k, x, hx, hlt => by
    simp only [pairsOk] at h
    have hi : i.blt j = true := by simp; omega
    simp only [hi, cond_true] at h
    cases hc : m.testBit i || apartB ops o y with
    | false => simp [hc] at h
    | true =>
      simp only [hc, cond_true] at h
      cases k with
      | zero => simp at hx; subst hx; simpa [Bool.or_eq_true] using hc
      | succ k =>
        simp at hx
        have := pairsOk_spec l (i + 1) h k x hx (by omega)
        rwa [show i + 1 + k = i + (k + 1) by omega] at this

theorem allOk_spec {ops : List Oper} {bs : List Nat} : ∀ (l : List Oper) (j : Nat), allOk ops bs j l = true → ∀ (k : Nat) (y : Oper), l[k]? = some y → edgesBelow (j + k) y.after.toList = true ∧ pairsOk ops (nth 0 bs (j + k)) y (j + k) 0 ops = true
  | [], j, _, k, y, hy => by simp at hy
  | o :: l, j, h, k, y, hy => by
    simp only [allOk] at h
    cases hc : edgesBelow j o.after.toList && pairsOk ops (nth 0 bs j) o j 0 ops with
    | false => simp [hc] at h
    | true =>
      simp only [hc, cond_true] at h
      cases k with
      | zero => simp at hy; subst hy; simpa [Bool.and_eq_true] using hc
      | succ k =>
        simp at hy
        have := allOk_spec l (j + 1) h k y hy
        rwa [show j + 1 + k = j + (k + 1) by omega] at this

theorem itemsFrom_get (ex : List (List Nat)) (ops : List Oper) (bs : List Nat) : ∀ (l : List Oper) (j k : Nat), (itemsFrom ex ops bs j l)[k]? = (l[k]?).map fun o => itemAt ex ops bs (j + k) o
  | [], j, k => by simp [itemsFrom]
  | o :: l, j, 0 => by simp [itemsFrom]
  | o :: l, j, k + 1 => by
    simp only [itemsFrom, List.getElem?_cons_succ, itemsFrom_get ex ops bs l (j + 1) k]
    rw [show j + 1 + k = j + (k + 1) by omega]

theorem mem_bif {c : Bool} {x y : Nat} {l : List Nat} (h : x ∈ l) : x ∈ (bif c then y :: l else l) := by
  cases c
  · exact h
  · exact List.mem_cons_of_mem _ h

theorem banOf_mem {bs : List Nat} {j : Nat} {all : List Oper} : ∀ (l : List Oper) (i k d : Nat) (o : Oper), l[k]? = some o → d ∈ madeBy all o → i + k ≠ j → (nth 0 bs j).testBit (i + k) = false → (nth 0 bs (i + k)).testBit j = false → d ∈ banOf bs j all i l
  | [], i, k, d, o, h, _, _, _, _ => by simp at h
  | o' :: l, i, k, d, o, h, hd, hne, h1, h2 => by
    simp only [banOf]
    cases k with
    | zero =>
      simp at h
      subst h
      have hb : i.beq j = false := by
        cases hb : i.beq j with
        | false => rfl
        | true => exact absurd ((beq_iff _ _).1 hb) hne
      simp only [Nat.add_zero] at h1 h2
      simp [hd, hb, h1, h2]
    | succ k =>
      simp at h
      have := banOf_mem (bs := bs) (j := j) (all := all) l (i + 1) k d o h hd (by omega) (by rwa [show i + 1 + k = i + (k + 1) by omega]) (by rwa [show i + 1 + k = i + (k + 1) by omega])
      cases !(i.beq j) && !((nth 0 bs j).testBit i) && !((nth 0 bs i).testBit j) with
      | true => exact List.mem_append_right _ this
      | false => exact this
theorem pushesOf_mem {bs : List Nat} {j : Nat} {all : List Oper} : ∀ (l : List Oper) (i k d : Nat) (o : Oper), l[k]? = some o → rootSlot all o = some d → i + k ≠ j → (nth 0 bs j).testBit (i + k) = false → (nth 0 bs (i + k)).testBit j = false → d ∈ pushesOf bs j all i l
  | [], i, k, d, o, h, _, _, _, _ => by simp at h
  | o' :: l, i, k, d, o, h, hd, hne, h1, h2 => by
    simp only [pushesOf]
    cases k with
    | zero =>
      simp at h
      subst h
      have hb : i.beq j = false := by
        cases hb : i.beq j with
        | false => rfl
        | true => exact absurd ((beq_iff _ _).1 hb) hne
      simp only [Nat.add_zero] at h1 h2
      simp [hd, hb, h1, h2]
    | succ k =>
      simp at h
      have := pushesOf_mem (bs := bs) (j := j) (all := all) l (i + 1) k d o h hd (by omega) (by rwa [show i + 1 + k = i + (k + 1) by omega]) (by rwa [show i + 1 + k = i + (k + 1) by omega])
      cases !(i.beq j) && !((nth 0 bs j).testBit i) && !((nth 0 bs i).testBit j) with
      | true =>
        simp only [cond_true]
        split
        · exact List.mem_cons_of_mem _ this
        · exact this
      | false => exact this
theorem madeBy_dst {all : List Oper} {o : Oper} {d : Nat} (hm : (clsOf o.op).makes = true) (hd : o.dst = some d) : d ∈ madeBy all o := by
  unfold madeBy
  rw [hd, hm]
  exact List.mem_append_left _ List.mem_cons_self
theorem madeBy_push {all : List Oper} {o : Oper} {s : Nat} (hs : rootSlot all o = some s) : s ∈ madeBy all o := by
  unfold madeBy
  rw [hs]
  exact List.mem_append_right _ List.mem_cons_self

theorem item_root {ex : List (List Nat)} {ops : List Oper} {bs : List Nat} {j s : Nat} {o : Oper} (hs : pushSlot o.op = some s) : rootSlot ops o = some (itemAt ex ops bs j o).root ∧ (itemAt ex ops bs j o).root = makerOf ops 20 s := by
  have h : rootSlot ops o = some (makerOf ops 20 s) := by unfold rootSlot; rw [hs]
  simp only [itemAt, h, and_self]

theorem othersOf_mem {ex : List (List Nat)} {bs : List Nat} {j : Nat} {all : List Oper} : ∀ (l : List Oper) (i k : Nat) (o : Oper), l[k]? = some o → (clsOf o.op).reads = true → i + k ≠ j → (nth 0 bs j).testBit (i + k) = false → (nth 0 bs (i + k)).testBit j = false → (banOf bs (i + k) all 0 all, nth [] ex (i + k)) ∈ othersOf ex bs j all i l
  | [], i, k, o, h, _, _, _, _ => by simp at h
  | o' :: l, i, k, o, h, hm, hne, h1, h2 => by
    cases k with
    | zero =>
      simp at h
      subst h
      have hb : i.beq j = false := by
        cases hb : i.beq j with
        | false => rfl
        | true => exact absurd ((beq_iff _ _).1 hb) hne
      simp only [Nat.add_zero] at h1 h2
      simp [othersOf, hm, hb, h1, h2]
    | succ k =>
      simp at h
      have := othersOf_mem (ex := ex) (bs := bs) (j := j) (all := all) l (i + 1) k o h hm (by omega) (by rwa [show i + 1 + k = i + (k + 1) by omega]) (by rwa [show i + 1 + k = i + (k + 1) by omega])
      rw [show i + 1 + k = i + (k + 1) by omega] at this
      simp only [othersOf]
      cases (clsOf o'.op).reads && !(i.beq j) && !((nth 0 bs j).testBit i) && !((nth 0 bs i).testBit j) with
      | true => exact List.mem_cons_of_mem _ this
      | false => exact this


theorem besides_true {bs : List Nat} {j : Nat} : ∀ (l : List Oper) (i k : Nat), k < l.length → i + k ≠ j → (nth 0 bs j).testBit (i + k) = false → (nth 0 bs (i + k)).testBit j = false → besides bs j i l = true
  | [], i, k, h, _, _, _ => by simp at h
  | o :: l, i, k, h, hne, h1, h2 => by
    simp only [besides]
    cases hc : !(i.beq j) && !((nth 0 bs j).testBit i) && !((nth 0 bs i).testBit j) with
    | true => rfl
    | false =>
      simp only [cond_false]
      cases k with
      | zero =>
        have hb : i.beq j = false := by
          cases hb : i.beq j with
          | false => rfl
          | true => exact absurd ((beq_iff _ _).1 hb) hne
        simp only [Nat.add_zero] at h1 h2
        simp [hb, h1, h2] at hc
      | succ k => exact besides_true l (i + 1) k (by simpa using h) (by omega) (by rwa [show i + 1 + k = i + (k + 1) by omega]) (by rwa [show i + 1 + k = i + (k + 1) by omega])

section
variable {P : Program} {E : Env} {C : Cal} {w0 : Bs} {w w' : World} {I0 : Nat → Prop} {st st' s1 s2 : ASt} {a : Act} {ov : List Value} {Q : Exit → Act → World → Prop}

/-- Those of a list, by their numbers. -/
inductive RunIdx (E : Env) (C : Cal) (ex : List (List Nat)) (ops : List Oper) : List Nat → ASt → ASt → Prop
  | nil (s : ASt) : RunIdx E C ex ops [] s s
  | cons {i : Nat} {o : Oper} {l : List Nat} {s s1 s' : ASt} (ho : ops[i]? = some o) (h : OpN E C ops (itemAt ex ops (behind ops) i o) s s1) (r : RunIdx E C ex ops l s1 s') : RunIdx E C ex ops (i :: l) s s'

theorem runIdx_of (ex : List (List Nat)) (ops : List Oper) : ∀ (l : List Oper) (k : Nat) (s s' : ASt), (∀ j, l[j]? = ops[k + j]?) → OpsN E C ops (itemsFrom ex ops (behind ops) k l) s s' → RunIdx E C ex ops (List.range' k l.length) s s'
  | [], k, s, s', h, hr => by cases hr; exact .nil _
  | o :: l, k, s, s', h, hr => by
    have h0 : ops[k]? = some o := by have := h 0; simpa using this.symm
    simp only [itemsFrom] at hr
    cases hr with
    | cons h1 h2 =>
      simp only [List.length_cons, List.range'_succ]
      exact .cons h0 h1 (runIdx_of ex ops l (k + 1) _ s' (fun j => by have := h (j + 1); simp at this; rw [this]; congr 1; omega) h2)

variable {ops : List Oper} {ex : List (List Nat)}

/-- An unlisted one ahead of a ready one has nothing to do with it. -/
theorem move_front : ∀ (pre : List Nat) (i : Nat) (y : Oper) (post : List Nat) (st fin : ASt), ops[i]? = some y →
    (∀ j ∈ pre, j < i ∧ (nth 0 (behind ops) i).testBit j = false) → drawOk ops = true → RunIdx E C ex ops (pre ++ i :: post) st fin →
    ∃ s1, OpN E C ops (itemAt ex ops (behind ops) i y) st s1 ∧ RunIdx E C ex ops (pre ++ post) s1 fin
  | [], i, y, post, st, fin, hy, hpre, hok, h => by
    simp only [List.nil_append] at h
    cases h with
    | cons ho h1 h2 =>
      rw [hy] at ho
      cases ho
      exact ⟨_, h1, h2⟩
  | j :: pre, i, y, post, st, fin, hy, hpre, hok, h => by
    simp only [List.cons_append] at h
    cases h with
    | @cons _ x _ _ sj _ hx h1 h =>
      obtain ⟨s', h2, h3⟩ := move_front pre i y post sj fin hy (fun k hk => hpre k (List.mem_cons_of_mem _ hk)) hok h
      obtain ⟨hji, hbit⟩ := hpre j List.mem_cons_self
      -- what the check says of the two
      obtain ⟨hei, hpi⟩ := allOk_spec ops 0 hok i y hy
      obtain ⟨hej, hpj⟩ := allOk_spec ops 0 hok j x hx
      simp only [Nat.zero_add] at hei hpi hej hpj
      have hap : apartB ops x y = true := by
        rcases pairsOk_spec ops 0 hpi j x hx (by omega) with h | h
        · simp only [Nat.zero_add] at h; rw [hbit] at h; cases h
        · exact h
      have hg : goTogether (clsOf x.op) (clsOf y.op) = true := by
        simp only [apartB, Bool.and_eq_true] at hap; exact hap.1.1.1.1
      have hxx : (clsOf x.op).isX = false := by cases hc : clsOf x.op <;> first | rfl | (rw [hc] at hg; simp [goTogether] at hg)
      have hyx : (clsOf y.op).isX = false := by cases hc : clsOf y.op <;> first | rfl | (rw [hc] at hg; cases hc2 : clsOf x.op <;> rw [hc2] at hg <;> simp [goTogether] at hg)
      have hbit2 : (nth 0 (behind ops) j).testBit i = false := by
        cases hb : (nth 0 (behind ops) j).testBit i with
        | false => rfl
        | true =>
          -- bits of j's mask are below j
          exfalso
          have below : ∀ (k : Nat) (o : Oper), ops[k]? = some o → ∀ q, (nth 0 (behind ops) k).testBit q = true → q < k := by
            intro k
            induction k using Nat.strongRecOn with
            | _ k ih =>
              intro o ho q hq
              rw [behind_at ho] at hq
              obtain ⟨e, he, hbn, hor⟩ := mask_spec hq
              have hlt := edgesBelow_spec ((allOk_spec ops 0 hok k o ho).1) e he hbn
              simp only [Nat.zero_add] at hlt
              rcases hor with h | h
              · omega
              · have hlt2 : e.on < ops.length := by have := (List.getElem?_eq_some_iff.1 ho).1; omega
                have hnt : nth 0 ((behind ops).take k) e.on = nth 0 (behind ops) e.on := by rw [nth_eq, nth_eq, List.getElem?_take_of_lt hlt]
                rw [hnt] at h
                have := ih e.on hlt _ (List.getElem?_eq_getElem hlt2) q h
                omega
          have := below j x hx i hb
          omega
      have hil : i < ops.length := (List.getElem?_eq_some_iff.1 hy).1
      have hjl : j < ops.length := (List.getElem?_eq_some_iff.1 hx).1
      obtain ⟨s1, k1, k2⟩ := opN_swap (x := itemAt ex ops (behind ops) j x) (y := itemAt ex ops (behind ops) i y) hap
        (by simp only [itemAt]; exact besides_true ops 0 i hil (by omega) (by simpa using hbit2) (by simpa using hbit)) (by simp only [itemAt]; exact besides_true ops 0 j hjl (by omega) (by simpa using hbit) (by simpa using hbit2)) hxx hyx
        (fun hm d hd => banOf_mem ops 0 j d x hx (madeBy_dst hm hd) (by omega) (by simpa using hbit) (by simpa using hbit2))
        (fun hm d hd => banOf_mem ops 0 i d y hy (madeBy_dst hm hd) (by omega) (by simpa using hbit2) (by simpa using hbit))
        (fun hm => by have := othersOf_mem (ex := ex) (bs := behind ops) (j := j) (all := ops) ops 0 i y hy hm (by omega) (by simpa using hbit2) (by simpa using hbit); simpa [itemAt] using this)
        (fun hm => by have := othersOf_mem (ex := ex) (bs := behind ops) (j := i) (all := ops) ops 0 j x hx hm (by omega) (by simpa using hbit) (by simpa using hbit2); simpa [itemAt] using this)
        (fun s hs => ⟨(item_root hs).2, banOf_mem ops 0 i _ y hy (madeBy_push (item_root hs).1) (by omega) (by simpa using hbit2) (by simpa using hbit), pushesOf_mem ops 0 i _ y hy (item_root hs).1 (by omega) (by simpa using hbit2) (by simpa using hbit)⟩)
        (fun s hs => ⟨(item_root hs).2, banOf_mem ops 0 j _ x hx (madeBy_push (item_root hs).1) (by omega) (by simpa using hbit) (by simpa using hbit2), pushesOf_mem ops 0 j _ x hx (item_root hs).1 (by omega) (by simpa using hbit) (by simpa using hbit2)⟩) h1 h2
      exact ⟨s1, k1, .cons hx k2 h3⟩

theorem plain_sound (hE : EnvOk P w0.G E C) {ops : Array Oper} {fin : ASt} (hQ : ∀ a w, Sim w0 I0 fin a ov w → Q .normal a w) :
    ∀ (l : List Item) (k : Nat) (st : ASt) (a : Act) (w : World), (∀ j, (l[j]?).map (·.o) = ops[k + j]?) → OpsN E C ops.toList l st fin → Sim w0 I0 st a ov w → wpOps P ops Q (List.range' k l.length) a w
  | [], k, st, a, w, hl, h, hs => by
    cases h
    simpa [wpOps] using hQ a w hs
  | i :: l, k, st, a, w, hl, h, hs => by
    simp only [List.length_cons, List.range'_succ, wpOps_cons]
    cases h with
    | @cons _ _ _ st1 _ h1 h2 =>
      have hk : ops[k]? = some i.o := by have := hl 0; simpa using this.symm
      refine wpOp_mono (fun a' w' hs' => ?_) (opN_sound hE hk hs h1)
      exact plain_sound hE hQ l (k + 1) st1 a' w' (fun j => by have := hl (j + 1); simp at this; rw [this]; congr 1; omega) h2 hs'

/-- The numbers that are not listed, in their order. -/
def unlisted (n : Nat) (listed : Array Bool) : List Nat := (List.range n).filter fun i => !listed.getD i true

theorem draw_sound (hE : EnvOk P w0.G E C) {ops : Array Oper} (hok : drawOk ops.toList = true) {fin : ASt} (hQ : ∀ a w, Sim w0 I0 fin a ov w → Q .normal a w) :
    ∀ (fuel : Nat) (listed : Array Bool) (st : ASt) (a : Act) (w : World), listed.size = ops.size → (unlisted ops.size listed).length ≤ fuel →
      (∀ (k : Nat) (o : Oper), ops[k]? = some o → listed.getD k true = true → ∀ e ∈ o.after, Region.binds .any e = true → listed.getD e.on false = true) →
      RunIdx E C ex ops.toList (unlisted ops.size listed) st fin → Sim w0 I0 st a ov w → wpAny P .any ops Q fuel listed a w := by
  have first_ready : ∀ (listed : Array Bool), listed.size = ops.size → Region.ready .any ops listed = [] → unlisted ops.size listed = [] := by
    intro listed hsz hr
    cases hu : unlisted ops.size listed with
    | nil => rfl
    | cons i l =>
      exfalso
      have hmem : i ∈ unlisted ops.size listed := by rw [hu]; exact List.mem_cons_self
      simp only [unlisted, List.mem_filter, List.mem_range, Bool.not_eq_true'] at hmem
      have hmin : ∀ j, j < i → listed.getD j true = true := by
        intro j hj
        cases hb : listed.getD j true with
        | true => rfl
        | false =>
          exfalso
          have hjm : j ∈ unlisted ops.size listed := by
            simp only [unlisted, List.mem_filter, List.mem_range, Bool.not_eq_true']
            exact ⟨by omega, hb⟩
          rw [hu] at hjm
          have hsorted : (unlisted ops.size listed).Pairwise (· < ·) := List.Pairwise.filter _ List.pairwise_lt_range
          rw [hu] at hsorted
          rcases List.mem_cons.1 hjm with h | h
          · omega
          · have := (List.pairwise_cons.1 hsorted).1 j h
            omega
      have hready : i ∈ Region.ready .any ops listed := by
        rw [mem_ready]
        refine ⟨hmem.2, ops[i]'hmem.1, Array.getElem?_eq_getElem hmem.1, fun e he hb => ?_⟩
        have hlt := edgesBelow_spec ((allOk_spec ops.toList 0 hok i _ (by rw [Array.getElem?_toList]; exact Array.getElem?_eq_getElem hmem.1)).1) e (by simpa using he) hb
        simp only [Nat.zero_add] at hlt
        have := hmin e.on hlt
        have hlt2 : e.on < listed.size := by omega
        simpa [hlt2] using this
      rw [hr] at hready
      cases hready
  intro fuel
  induction fuel with
  | zero =>
    intro listed st a w hsz hlen hcl h hs
    have hnil : unlisted ops.size listed = [] := List.eq_nil_of_length_eq_zero (by omega)
    rw [hnil] at h
    cases h
    refine ⟨?_, hQ a w hs⟩
    cases hr : Region.ready .any ops listed with
    | nil => rfl
    | cons i l =>
      exfalso
      have : i ∈ Region.ready .any ops listed := by rw [hr]; exact List.mem_cons_self
      rw [mem_ready] at this
      obtain ⟨h0, o, ho, _⟩ := this
      have : i ∈ unlisted ops.size listed := by
        simp only [unlisted, List.mem_filter, List.mem_range, Bool.not_eq_true']
        exact ⟨(Array.getElem?_eq_some_iff.1 ho).1, h0⟩
      rw [hnil] at this
      cases this
  | succ fuel ih =>
    intro listed st a w hsz hlen hcl h hs
    refine ⟨fun hr => ?_, fun i hi => ?_⟩
    · have hnil := first_ready listed hsz hr
      rw [hnil] at h
      cases h
      exact hQ a w hs
    · rw [mem_ready] at hi
      obtain ⟨h0, o, ho, hedges⟩ := hi
      have hlt : i < ops.size := (Array.getElem?_eq_some_iff.1 ho).1
      have hmem : i ∈ unlisted ops.size listed := by
        simp only [unlisted, List.mem_filter, List.mem_range, Bool.not_eq_true']
        exact ⟨hlt, h0⟩
      obtain ⟨pre, post, hsplit⟩ := List.append_of_mem hmem
      have hsorted : (unlisted ops.size listed).Pairwise (· < ·) := List.Pairwise.filter _ List.pairwise_lt_range
      rw [hsplit] at hsorted h
      have hpre : ∀ j ∈ pre, j < i ∧ (nth 0 (behind ops.toList) i).testBit j = false := by
        intro j hj
        refine ⟨(List.pairwise_append.1 hsorted).2.2 j hj i List.mem_cons_self, ?_⟩
        -- whoever stands ahead of it by the edges is listed
        have ahead : ∀ (k : Nat) (ok_ : Oper), ops[k]? = some ok_ → (∀ e ∈ ok_.after, Region.binds .any e = true → listed.getD e.on false = true) → ∀ q, (nth 0 (behind ops.toList) k).testBit q = true → listed.getD q true = true := by
          intro k
          induction k using Nat.strongRecOn with
          | _ k ihk =>
            intro ok_ hk hed q hq
            rw [behind_at (by rw [Array.getElem?_toList]; exact hk)] at hq
            obtain ⟨e, he, hbn, hor⟩ := mask_spec hq
            have hl := hed e (by simpa using he) hbn
            have hlt2 := edgesBelow_spec ((allOk_spec ops.toList 0 hok k ok_ (by rw [Array.getElem?_toList]; exact hk)).1) e he hbn
            simp only [Nat.zero_add] at hlt2
            have hks : k < ops.size := (Array.getElem?_eq_some_iff.1 hk).1
            have hl' : listed.getD e.on true = true := by
              have : e.on < listed.size := by omega
              simpa [this] using hl
            rcases hor with h | h
            · rw [← h]; exact hl'
            · have hnt : nth 0 ((behind ops.toList).take k) e.on = nth 0 (behind ops.toList) e.on := by rw [nth_eq, nth_eq, List.getElem?_take_of_lt hlt2]
              rw [hnt] at h
              have hon : ops[e.on]? = some (ops[e.on]'(by omega)) := Array.getElem?_eq_getElem (by omega)
              exact ihk e.on hlt2 _ hon (hcl e.on _ hon hl') q h
        cases hb : (nth 0 (behind ops.toList) i).testBit j with
        | false => rfl
        | true =>
          exfalso
          have h1 := ahead i o ho hedges j hb
          have : j ∈ unlisted ops.size listed := by rw [hsplit]; exact List.mem_append_left _ hj
          simp only [unlisted, List.mem_filter, List.mem_range, Bool.not_eq_true'] at this
          rw [this.2] at h1
          cases h1
      obtain ⟨s1, k1, k2⟩ := move_front pre i o post st fin (by rw [Array.getElem?_toList]; exact ho) hpre hok h
      refine wpOp_mono (fun a' w' hs' => ?_) (opN_sound hE (i := itemAt ex ops.toList (behind ops.toList) i o) ho hs k1)
      have hil : i < listed.size := by omega
      have hnew : unlisted ops.size (listed.setIfInBounds i true) = pre ++ post := by
        have hnd : (pre ++ i :: post).Nodup := hsorted.imp (fun h => Nat.ne_of_lt h)
        have : unlisted ops.size (listed.setIfInBounds i true) = (unlisted ops.size listed).filter (fun j => j ≠ i) := by
          simp only [unlisted, List.filter_filter]
          apply List.filter_congr
          intro j hj
          by_cases hji : j = i
          · subst hji
            simp [hil]
          · have : (listed.setIfInBounds i true).getD j true = listed.getD j true := getD_set_ne true (fun e => hji e.symm)
            rw [this]
            simp [hji]
        rw [this, hsplit, List.filter_append, List.filter_cons]
        have hni : i ∉ pre ∧ i ∉ post := by
          rw [List.nodup_append] at hnd
          refine ⟨fun hm => hnd.2.2 i hm i List.mem_cons_self rfl, (List.nodup_cons.1 hnd.2.1).1⟩
        simp only [ne_eq, not_true_eq_false, decide_false, Bool.false_eq_true, if_false]
        rw [List.filter_eq_self.2 (fun j hj => by simp; rintro rfl; exact hni.1 hj), List.filter_eq_self.2 (fun j hj => by simp; rintro rfl; exact hni.2 hj)]
      refine ih (listed.setIfInBounds i true) s1 a' w' (by simpa using hsz) ?_ ?_ (by rw [hnew]; exact k2) hs'
      · rw [hnew]
        rw [hsplit] at hlen
        simp at hlen ⊢
        omega
      · intro k ok_ hk hl e he hb
        by_cases hki : k = i
        · subst hki
          rw [ho] at hk
          cases hk
          exact getD_set_true (hedges e he hb)
        · rw [getD_set_ne true (fun e => hki e.symm)] at hl
          exact getD_set_true (hcl k ok_ hk hl e he hb)


/-- A region. -/
theorem region_sound (hE : EnvOk P w0.G E C) (hm : P.follows .mixedOrders = true) {T : Type} {J : List Nat → ASt → T → Prop} {id : Nat} {ops : Array Oper} {draw : Bool} {K : ASt → Prg T} {r : T} (hs : Sim w0 I0 st a ov w) (h : (regionQ E ops.toList draw K st).goes C J r)
    (hQ : ∀ st' a w, (K st').goes C J r → Sim w0 I0 st' a ov w → Q .normal a w) : (Code.region id ops draw).wp P Q a w := by
  unfold regionQ at h
  replace hs := sim_nf hs
  cases draw with
  | false =>
    simp only [cond_false] at h
    obtain ⟨fin, h1, h⟩ := opsQ_goes h
    refine wp_region ?_
    have hlen : (plainItems ops.toList).length = ops.size := by
      have : ∀ l : List Oper, (plainItems l).length = l.length := fun l => by induction l with
        | nil => rfl
        | cons o l ih => simp [plainItems, ih]
      rw [this]; simp
    have hget : ∀ (l : List Oper) (k : Nat), (plainItems l)[k]? = (l[k]?).map fun o => ⟨o, ([], []), false, [], [], 0⟩ := by
      intro l
      induction l with
      | nil => intro k; simp [plainItems]
      | cons o l ih => intro k; cases k with
        | zero => rfl
        | succ k => simp [plainItems, ih k]
    have := plain_sound hE (ops := ops) (fin := fin.nfS) (Q := Q) (fun a w hs => hQ fin a w h (sim_of_nf hs)) (plainItems ops.toList) 0 st.nfS a w (fun j => by rw [hget]; simp; cases ops[j]? <;> rfl) h1 hs
    rw [hlen] at this
    rwa [List.range_eq_range']
  | true =>
    simp only [cond_true] at h
    cases hok : drawOk ops.toList with
    | false => simp [hok, Prg.goes] at h
    | true =>
      simp only [hok, cond_true] at h
      obtain ⟨fin, h1, h⟩ := opsQ_goes h
      replace h1 := runIdx_of (exFrom st (behind ops.toList) ops.toList 0 ops.toList) ops.toList ops.toList 0 st.nfS fin.nfS (fun j => by simp) h1
      refine wp_region_any hm ?_
      have hun : unlisted ops.size (Array.replicate ops.size false) = List.range ops.size := by
        unfold unlisted
        rw [List.filter_eq_self]
        intro i hi
        have : i < ops.size := by simpa using hi
        simp [this]
      have hs' : Sim w0 I0 st.nfS a ov { w with drawn := w.drawn + 1 } := by
        obtain ⟨g, hs⟩ := hs
        exact ⟨_, hs.grow (w' := { w with drawn := w.drawn + 1 }) (I' := g.I) (R' := NoR) ⟨rfl, rfl, rfl, Nat.le_refl _, fun _ _ => rfl⟩ (fun _ h => h) hs.lt (fun _ _ h => h) (fun _ h => h.elim)⟩
      refine draw_sound (ex := exFrom st (behind ops.toList) ops.toList 0 ops.toList) hE hok (fin := fin.nfS) (fun a w hs => hQ fin a w h (sim_of_nf hs)) ops.size _ st.nfS a _ (by simp) (by rw [hun]; simp) (fun k o hk hl => ?_) ?_ hs'
      · have : k < ops.size := (Array.getElem?_eq_some_iff.1 hk).1
        simp [this] at hl
      · rw [hun, List.range_eq_range']
        simpa using h1
end
end Go.Ab

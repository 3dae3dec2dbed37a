/- Code: what the machine over closed values does from a piece on, the program's own machine does. No condition but those of the operations. -/
import Derived.Test.YteppgaecdkkkeaaDoorM14
import Derived.LoopN
namespace Go.Ab
open Go.RowKit
set_option linter.unusedVariables false

/-- A loop, at the beginning of a round. -/
def turns (P : Program) (c : Code) (Q : Exit → Act → World → Prop) (a : Act) (w : World) : Prop :=
  ∀ b k cs, ∃ e a' w', Q e a' w' ∧ Arrives P (lone (b.at a (.code c :: .inLoop c :: k)) cs w) b k cs e a' w'

theorem turns_of {P : Program} {c : Code} {Q : Exit → Act → World → Prop} {a : Act} {w : World} (h : c.wp P (Exit.then (turns P c Q) Q) a w) : turns P c Q a w := by
  intro b k cs
  obtain ⟨e, a₁, w₁, hq, harr⟩ := h b (.inLoop c :: k) cs
  cases e with
  | normal =>
    obtain ⟨e₂, a₂, w₂, hq₂, harr₂⟩ := hq b k cs
    exact ⟨e₂, a₂, w₂, hq₂, .of_steps (Steps.trans harr (.one step_inLoop)) harr₂⟩
  | exit id => exact ⟨_, a₁, w₁, hq, .pass (x := .inLoop c) rfl (fun _ _ => .inl (by simp)) harr⟩
  | goto l => exact ⟨_, a₁, w₁, hq, .pass (x := .inLoop c) rfl (fun _ _ => .inl (by simp)) harr⟩
  | ret => exact ⟨_, a₁, w₁, hq, .pass (x := .inLoop c) rfl (fun _ _ => .inl (by simp)) harr⟩
  | panic ch => exact ⟨_, a₁, w₁, hq, .pass (x := .inLoop c) rfl (fun _ _ => .inl (by simp)) harr⟩
  | outgrown => exact ⟨_, a₁, w₁, hq, .pass (x := .inLoop c) rfl (fun _ _ => .inl (by simp)) harr⟩

theorem loop_of_turns {P : Program} {c : Code} {Q : Exit → Act → World → Prop} {a : Act} {w : World} (h : turns P c Q a w) : (Code.loop c).wp P Q a w := by
  intro b k cs
  obtain ⟨e, a', w', hq, harr⟩ := h b k cs
  exact ⟨e, a', w', hq, .of_steps (.one step_loop) harr⟩

def exitOf : AEx → Exit
  | .normal => .normal
  | .ret => .ret
  | .exit id => .exit id

/-- A piece of a body, and what is asked behind it. -/
inductive At (P : Program) (body : Code) (Q0 : Exit → Act → World → Prop) : List Nat → Code → (Exit → Act → World → Prop) → Prop
  | top : At P body Q0 [] body Q0
  | seq0 {rp a b Q} : At P body Q0 rp (.seq a b) Q → At P body Q0 (0 :: rp) a (Exit.then (b.wp P Q) Q)
  | seq1 {rp a b Q} : At P body Q0 rp (.seq a b) Q → At P body Q0 (1 :: rp) b Q
  | cond0 {rp c a b Q} : At P body Q0 rp (.cond c a b) Q → At P body Q0 (0 :: rp) a Q
  | cond1 {rp c a b Q} : At P body Q0 rp (.cond c a b) Q → At P body Q0 (1 :: rp) b Q
  | block {rp id c Q} : At P body Q0 rp (.block id c) Q → At P body Q0 (0 :: rp) c (Exit.inBlock id Q)
  | loop {rp c Q} : At P body Q0 rp (.loop c) Q → At P body Q0 (0 :: rp) c (Exit.then (turns P c Q) Q)

section
variable {P : Program} {E : Env} {C : Cal} {w0 : Bs} {I0 : Nat → Prop} {ov : List Value} {R : Type} {J : List Nat → ASt → R → Prop} {r : R} {ann jn : Nat → Option Ann} {body : Code} {Q0 : Exit → Act → World → Prop}

/-- Where a jump leads, it goes well. -/
abbrev JOk (P : Program) (w0 : Bs) (I0 : Nat → Prop) (ov : List Value) (body : Code) (Q0 : Exit → Act → World → Prop) (J : List Nat → ASt → R → Prop) (r : R) : Prop :=
  ∀ rp c Q st a w, At P body Q0 rp c Q → J rp st r → Sim w0 I0 st a ov w → c.wp P Q a w

theorem code_sound (hE : EnvOk P w0.G E C) (hm : P.follows .mixedOrders = true) (hJ : JOk P w0 I0 ov body Q0 J r) : ∀ (c : Code) (rp : List Nat) (K : AEx → ASt → Prg R) (Q : Exit → Act → World → Prop) (st : ASt) (a : Act) (w : World), At P body Q0 rp c Q →
    (codeQ E ann jn rp c K st).goes C J r → Sim w0 I0 st a ov w → (∀ e st' a w, (K e st').goes C J r → Sim w0 I0 st' a ov w → Q (exitOf e) a w) → c.wp P Q a w
  | .skip, rp, K, Q, st, a, w, hat, h, hs, hQ => wp_skip (hQ .normal st a w h hs)
  | .region id ops draw, rp, K, Q, st, a, w, hat, h, hs, hQ => region_sound hE hm hs h (fun st' a w hk hs' => hQ .normal st' a w hk hs')
  | .seq x y, rp, K, Q, st, a, w, hat, h, hs, hQ => by
    refine wp_seq (code_sound hE hm hJ x (0 :: rp) _ _ st a w hat.seq0 h hs (fun e st' a' w' hk hs' => ?_))
    cases e with
    | normal =>
      simp only [thenQ] at hk
      cases han : annAt jn y with
      | none =>
        rw [han] at hk
        exact code_sound hE hm hJ y (1 :: rp) K Q st' a' w' hat.seq1 hk hs' hQ
      | some an =>
        rw [han] at hk
        obtain ⟨st2, h2, hs2⟩ := norm_sound hs' hk
        exact hJ (1 :: rp) y Q st2 a' w' hat.seq1 h2 hs2
    | ret => exact hQ .ret st' a' w' hk hs'
    | exit id => exact hQ (.exit id) st' a' w' hk hs'
  | .cond c x y, rp, K, Q, st, a, w, hat, h, hs, hQ => by
    simp only [codeQ] at h
    have hev : RepA w hs.choose st.look (st.ev c) (a.eval c) := hs.choose_spec.ev c
    split at h
    · rename_i v hv
      rw [hv] at hev
      have hcv : a.eval c = .bool v := hev
      refine wp_cond hcv ?_
      cases v with
      | true => exact code_sound hE hm hJ x (0 :: rp) K Q st a w hat.cond0 h hs hQ
      | false => exact code_sound hE hm hJ y (1 :: rp) K Q st a w hat.cond1 h hs hQ
    · split at h
      · rename_i v hv
        obtain ⟨b, hb, h⟩ := h
        have := asBool_some hb
        subst this
        have hcv : a.eval c = .bool b := rep_lit (tv_rep hev hv)
        refine wp_cond hcv ?_
        rcases h with ⟨rfl, h⟩ | ⟨rfl, h⟩
        · exact code_sound hE hm hJ x (0 :: rp) K Q st a w hat.cond0 h hs hQ
        · exact code_sound hE hm hJ y (1 :: rp) K Q st a w hat.cond1 h hs hQ
      · exact h.elim
  | .block id c, rp, K, Q, st, a, w, hat, h, hs, hQ => by
    refine wp_block (code_sound hE hm hJ c (0 :: rp) _ _ st a w hat.block h hs (fun e st' a' w' hk hs' => ?_))
    cases e with
    | normal => exact hQ .normal st' a' w' hk hs'
    | ret => exact hQ .ret st' a' w' hk hs'
    | exit i =>
      simp only [blockQ] at hk
      simp only [exitOf, Exit.inBlock]
      cases hb : i.beq id with
      | true =>
        simp only [hb, cond_true] at hk
        rw [if_pos ((beq_iff _ _).1 hb)]
        exact hQ .normal st' a' w' hk hs'
      | false =>
        simp only [hb, cond_false] at hk
        rw [if_neg (fun e => by subst e; simp at hb)]
        exact hQ (.exit i) st' a' w' hk hs'
  | .loop c, rp, K, Q, st, a, w, hat, h, hs, hQ => by
    simp only [codeQ, headQ] at h
    cases han : annAt ann c with
    | none => rw [han] at h; exact h.elim
    | some an =>
      rw [han] at h
      obtain ⟨st2, h2, hs2⟩ := norm_sound hs h
      exact loop_of_turns (turns_of (hJ (0 :: rp) c _ st2 a w hat.loop h2 hs2))
  | .exit id, rp, K, Q, st, a, w, hat, h, hs, hQ => wp_exit (hQ (.exit id) st a w h hs)
  | .ret, rp, K, Q, st, a, w, hat, h, hs, hQ => wp_ret (hQ .ret st a w h hs)
  | .rangeFunc _ _ _ _, rp, K, Q, st, a, w, hat, h, hs, hQ => h.elim
  | .scope _, rp, K, Q, st, a, w, hat, h, hs, hQ => h.elim
  | .label _, rp, K, Q, st, a, w, hat, h, hs, hQ => h.elim
  | .goto _, rp, K, Q, st, a, w, hat, h, hs, hQ => h.elim
  | .refuse _, rp, K, Q, st, a, w, hat, h, hs, hQ => h.elim

/-- A way that there is. -/
def okW : List Nat → Code → Bool
  | [], _ => true
  | 0 :: p, .seq a _ => okW p a
  | 1 :: p, .seq _ b => okW p b
  | 0 :: p, .cond _ a _ => okW p a
  | 1 :: p, .cond _ _ b => okW p b
  | 0 :: p, .block _ c => okW p c
  | 0 :: p, .loop c => okW p c
  | _, _ => false

theorem okW_app : ∀ (p : List Nat) (x : Nat) (c : Code), okW p c = true → okW [x] (subC p c) = true → okW (p ++ [x]) c = true
  | [], x, c, _, h => h
  | 0 :: p, x, c, h, h' => by cases c <;> simp only [okW, Bool.false_eq_true] at h <;> simp only [List.cons_append, okW, subC] at h' ⊢ <;> exact okW_app p x _ h h'
  | 1 :: p, x, c, h, h' => by cases c <;> simp only [okW, Bool.false_eq_true] at h <;> simp only [List.cons_append, okW, subC] at h' ⊢ <;> exact okW_app p x _ h h'
  | (n + 2) :: p, x, c, h, h' => by cases c <;> simp [okW] at h

theorem subC_app : ∀ (p : List Nat) (x : Nat) (c : Code), okW p c = true → subC (p ++ [x]) c = subC [x] (subC p c)
  | [], x, c, _ => rfl
  | 0 :: p, x, c, h => by cases c <;> simp only [okW, Bool.false_eq_true] at h <;> simp only [List.cons_append, subC] <;> exact subC_app p x _ h
  | 1 :: p, x, c, h => by cases c <;> simp only [okW, Bool.false_eq_true] at h <;> simp only [List.cons_append, subC] <;> exact subC_app p x _ h
  | (n + 2) :: p, x, c, h => by cases c <;> simp [okW] at h

theorem kAt_app : ∀ (p : List Nat) (x : Nat) (rp : List Nat) (c : Code) (K : AEx → ASt → Prg R), okW p c = true → kAt E ann jn (p ++ [x]) rp c K = kAt E ann jn [x] (p.reverse ++ rp) (subC p c) (kAt E ann jn p rp c K)
  | [], x, rp, c, K, _ => rfl
  | 0 :: p, x, rp, c, K, h => by
    rw [show (0 :: p).reverse ++ rp = p.reverse ++ (0 :: rp) by simp]
    cases c <;> simp only [okW, Bool.false_eq_true] at h <;> simp only [List.cons_append, subC, kAt] <;> exact kAt_app p x (0 :: rp) _ _ h
  | 1 :: p, x, rp, c, K, h => by
    rw [show (1 :: p).reverse ++ rp = p.reverse ++ (1 :: rp) by simp]
    cases c <;> simp only [okW, Bool.false_eq_true] at h <;> simp only [List.cons_append, subC, kAt] <;> exact kAt_app p x (1 :: rp) _ _ h
  | (n + 2) :: p, x, rp, c, K, h => by cases c <;> simp [okW] at h

theorem At.way {rp : List Nat} {c : Code} {Q : Exit → Act → World → Prop} (h : At P body Q0 rp c Q) : okW rp.reverse body = true ∧ subC rp.reverse body = c := by
  have ext : ∀ {rp : List Nat} {c : Code} (x : Nat) (d : Code), okW rp.reverse body = true ∧ subC rp.reverse body = c → okW [x] c = true → subC [x] c = d → okW (x :: rp).reverse body = true ∧ subC (x :: rp).reverse body = d := by
    intro rp c x d ⟨h1, h2⟩ h3 h4
    rw [List.reverse_cons]
    exact ⟨okW_app _ x _ h1 (by rw [h2]; exact h3), by rw [subC_app _ x _ h1, h2]; exact h4⟩
  induction h with
  | top => exact ⟨rfl, rfl⟩
  | seq0 _ ih => exact ext 0 _ ih rfl rfl
  | seq1 _ ih => exact ext 1 _ ih rfl rfl
  | cond0 _ ih => exact ext 0 _ ih rfl rfl
  | cond1 _ ih => exact ext 1 _ ih rfl rfl
  | block _ ih => exact ext 0 _ ih rfl rfl
  | loop _ ih => exact ext 0 _ ih rfl rfl

theorem kAt_sound (hE : EnvOk P w0.G E C) (hm : P.follows .mixedOrders = true) (hJ : JOk P w0 I0 ov body Q0 J r) {K0 : AEx → ASt → Prg R} (hK : ∀ e st' a w, (K0 e st').goes C J r → Sim w0 I0 st' a ov w → Q0 (exitOf e) a w)
    {rp : List Nat} {c : Code} {Q : Exit → Act → World → Prop} (h : At P body Q0 rp c Q) :
    ∀ e st' a w, (kAt E ann jn rp.reverse [] body K0 e st').goes C J r → Sim w0 I0 st' a ov w → Q (exitOf e) a w := by
  have eq : ∀ {rp : List Nat} {c : Code} {Q : Exit → Act → World → Prop} (x : Nat), At P body Q0 rp c Q → kAt E ann jn (x :: rp).reverse [] body K0 = kAt E ann jn [x] rp c (kAt E ann jn rp.reverse [] body K0) := by
    intro rp c Q x h
    rw [List.reverse_cons, kAt_app _ _ _ _ _ h.way.1, h.way.2]
    simp
  induction h with
  | top => exact hK
  | @seq0 rp x y Q hat ih =>
    intro e st' a w hk hs
    rw [eq 0 hat] at hk
    cases e with
    | normal =>
      simp only [kAt, thenQ] at hk
      cases han : annAt jn y with
      | none =>
        rw [han] at hk
        exact code_sound hE hm hJ y (1 :: rp) _ Q st' a w hat.seq1 hk hs ih
      | some an =>
        rw [han] at hk
        obtain ⟨st2, h2, hs2⟩ := norm_sound hs hk
        exact hJ (1 :: rp) y Q st2 a w hat.seq1 h2 hs2
    | ret => exact ih .ret st' a w hk hs
    | exit id => exact ih (.exit id) st' a w hk hs
  | @seq1 rp x y Q hat ih => intro e st' a w hk hs; rw [eq 1 hat] at hk; exact ih e st' a w hk hs
  | @cond0 rp c x y Q hat ih => intro e st' a w hk hs; rw [eq 0 hat] at hk; exact ih e st' a w hk hs
  | @cond1 rp c x y Q hat ih => intro e st' a w hk hs; rw [eq 1 hat] at hk; exact ih e st' a w hk hs
  | @block rp id c Q hat ih =>
    intro e st' a w hk hs
    rw [eq 0 hat] at hk
    cases e with
    | normal => exact ih .normal st' a w hk hs
    | ret => exact ih .ret st' a w hk hs
    | exit i =>
      simp only [kAt, blockQ] at hk
      simp only [exitOf, Exit.inBlock]
      cases hb : i.beq id with
      | true =>
        simp only [hb, cond_true] at hk
        rw [if_pos ((beq_iff _ _).1 hb)]
        exact ih .normal st' a w hk hs
      | false =>
        simp only [hb, cond_false] at hk
        rw [if_neg (fun e => by subst e; simp at hb)]
        exact ih (.exit i) st' a w hk hs
  | @loop rp c Q hat ih =>
    intro e st' a w hk hs
    rw [eq 0 hat] at hk
    cases e with
    | normal =>
      simp only [kAt, roundQ, headQ] at hk
      cases han : annAt ann c with
      | none => rw [han] at hk; exact hk.elim
      | some an =>
        rw [han] at hk
        obtain ⟨st2, h2, hs2⟩ := norm_sound hs hk
        exact turns_of (hJ (0 :: rp) c _ st2 a w hat.loop h2 hs2)
    | ret => exact ih .ret st' a w hk hs
    | exit id => exact ih (.exit id) st' a w hk hs

/-- What is run goes. -/
theorem run_goes {C' : FuncId → List TV → Option TV} {J' : List Nat → ASt → Option R} : ∀ {p : Prg R} {r : R}, p.run C' J' = some r → p.goes (fun f xs v => C' f xs = some v) (fun rp st r => J' rp st = some r) r
  | .fail, r, h => by simp [Prg.run] at h
  | .ret r', r, h => by simpa [Prg.run, Prg.goes] using h
  | .tv p k, r, h => by
    simp only [Prg.run, Option.bind_eq_some_iff] at h
    obtain ⟨v, h1, h2⟩ := h
    exact ⟨v, h1, run_goes h2⟩
  | .tvs p k, r, h => by
    simp only [Prg.run, Option.bind_eq_some_iff] at h
    obtain ⟨v, h1, h2⟩ := h
    exact ⟨v, h1, run_goes h2⟩
  | .rws p k, r, h => by
    simp only [Prg.run, Option.bind_eq_some_iff] at h
    obtain ⟨v, h1, h2⟩ := h
    exact ⟨v, h1, run_goes h2⟩
  | .nat p k, r, h => by
    simp only [Prg.run, Option.bind_eq_some_iff] at h
    obtain ⟨v, h1, h2⟩ := h
    exact ⟨v, h1, run_goes h2⟩
  | .chk b k, r, h => by
    cases b with
    | false => simp [Prg.run] at h
    | true => exact ⟨rfl, run_goes h⟩
  | .ite b t e, r, h => by
    simp only [Prg.run, Option.bind_eq_some_iff] at h
    obtain ⟨v, h1, h2⟩ := h
    cases v with
    | true => exact ⟨true, h1, .inl ⟨rfl, run_goes h2⟩⟩
    | false => exact ⟨false, h1, .inr ⟨rfl, run_goes h2⟩⟩
  | .call f xs k, r, h => by
    simp only [Prg.run, Option.bind_eq_some_iff] at h
    obtain ⟨v, h1, h2⟩ := h
    exact ⟨v, h1, run_goes h2⟩
  | .jmp p st, r, h => h
end
end Go.Ab


/- What the functions of layer 2 answer: where blocks go, and to which a cleanup leads, the program's. No condition. -/
import Derived.Test.YtbjomheepodapaaF11
import Derived.Test.YtbjomheepodapaaF10
set_option linter.unusedVariables false
set_option maxRecDepth 10000
namespace Go.Ab
def gl (b : DBlock) : List Int := (if b.fin.kind = 2 ∨ b.fin.kind = 3 ∨ b.fin.kind = 4 then [b.fin.to] else []) ++ (if b.fin.kind = 3 then [b.fin.els] else [])
/-- A cleanup leads to a block. -/
inductive Rch (bs : List DBlock) : Nat → Prop
  | start {i : Nat} {b : DBlock} (hb : bs[i]? = some b) (hl : b.landing = true) (hc : b.pad.cleanup = true) : Rch bs i
  | next {i : Nat} {b : DBlock} {g : Int} (hi : Rch bs i) (hb : bs[i]? = some b) (hg : g ∈ gl b) (h0 : 0 ≤ g) (hn : g.toNat < bs.length) : Rch bs g.toNat
def Sound (bs : List DBlock) (M : List Bool) : Prop := ∀ (i : Nat), M[i]? = some true → Rch bs i
def Starts (bs : List DBlock) (M : List Bool) : Prop := ∀ (i : Nat) (b : DBlock), bs[i]? = some b → b.landing = true → b.pad.cleanup = true → M[i]? = some true
def Closed (bs : List DBlock) (M : List Bool) : Prop := ∀ (i : Nat) (b : DBlock) (g : Int), M[i]? = some true → bs[i]? = some b → g ∈ gl b → 0 ≤ g → g.toNat < bs.length → M[g.toNat]? = some true
def Full (bs : List DBlock) (M : List Bool) : Prop := M.length = bs.length ∧ ∀ (i : Nat), M[i]? = some true ↔ Rch bs i
theorem full_of {bs : List DBlock} {M : List Bool} (hl : M.length = bs.length) (h1 : Sound bs M) (h2 : Starts bs M) (h3 : Closed bs M) : Full bs M := by
  refine ⟨hl, fun i => ⟨h1 i, fun h => ?_⟩⟩
  induction h with
  | start hb hl hc => exact h2 _ _ hb hl hc
  | next hi hb hg h0 hn ih => exact h3 _ _ _ ih hb hg h0 hn
theorem full_eq {bs : List DBlock} {M M' : List Bool} (h : Full bs M) (h' : Full bs M') : M = M' := by
  apply List.ext_getElem?
  intro i
  by_cases hi : i < bs.length
  · have h1 : M[i]? = some (M[i]'(by rw [h.1]; exact hi)) := List.getElem?_eq_getElem _
    have h2 : M'[i]? = some (M'[i]'(by rw [h'.1]; exact hi)) := List.getElem?_eq_getElem _
    have e : M[i]? = some true ↔ M'[i]? = some true := (h.2 i).trans (h'.2 i).symm
    rw [h1, h2] at e ⊢
    simp only [Option.some.injEq] at e ⊢
    cases ha : M[i]'(by rw [h.1]; exact hi) <;> cases hb : M'[i]'(by rw [h'.1]; exact hi) <;> simp_all
  · rw [List.getElem?_eq_none (by rw [h.1]; omega), List.getElem?_eq_none (by rw [h'.1]; omega)]
theorem set_get {M : List Bool} {g i : Nat} (hg : g < M.length) : (M.set g true)[i]? = some true ↔ i = g ∨ M[i]? = some true := by
  rw [List.getElem?_set]
  by_cases h : g = i
  · subst h; simp [hg]
  · simp [h]; intro h'; exact absurd h'.symm h
theorem set_count {M : List Bool} {g : Nat} (hg : M[g]? = some false) : (M.set g true).count true = M.count true + 1 := by
  have hlt := (List.getElem?_eq_some_iff.1 hg).1
  have hv := (List.getElem?_eq_some_iff.1 hg).2
  rw [List.count_set hlt]
  simp [hv]
theorem count_le (M : List Bool) : M.count true ≤ M.length := List.count_le_length

section
variable {α : Type} {s : Nat} {R : List TV → α → Prop} {y : TV} {l : List α}
theorem RL.setAt (hy : RL (some true) s R y l) {i : Nat} {e : List TV} (he : Go.Ab.pel y i = some e) {d : Nat} {ys : List TV} {a : α} (hR : R (setCells e d ys) a) : ∃ y', setC [] y i d ys = some y' ∧ RL (some true) s R y' (l.set i a) := by
  obtain ⟨xs, rfl, hk, hf, hb⟩ := hy.at he
  refine ⟨.sl true s (setNth xs i (setCells e d ys)), by simp only [setC, getP, setEl, hk, setP], .sl (by simp) (hf.set hR) (by rw [setNth_len]; exact hb)⟩
theorem RL.app (hy : RL (some true) s R y l) {e : List TV} {a : α} (hR : R e a) (hl : l.length + 1 ≤ 4294967296) : ∃ y', papp s y [e] = some y' ∧ RL (some true) s R y' (l ++ [a]) := by
  rcases hy with ⟨rfl, rfl⟩ | ⟨o, xs, rfl, hq, h, hb⟩
  · refine ⟨.sl true s [e], by simp [papp, nilV, room, rowT], .sl (by simp) (.cons hR .nil) (by simp)⟩
  · have : o = true := hq true rfl
    subst this
    have hxl := h.length
    refine ⟨.sl true s (xs ++ [e]), ?_, .sl (by simp) (h.append (.cons hR .nil)) (by simp; omega)⟩
    simp [papp, room]; omega
theorem RL.win {q : Option Bool} (hy : RL q s R y l) {k : Nat} (hk : k ≤ l.length) : ∃ y', winP 0 k y = some y' ∧ RL q s R y' (l.take k) := by
  rcases hy with ⟨rfl, rfl⟩ | ⟨o, xs, rfl, hq, h, hb⟩
  · have : k = 0 := by simpa using hk
    subst this
    exact ⟨.lit nilV, rfl, by simpa using RL.nil⟩
  · have hxl := h.length
    refine ⟨.sl o s ((xs.drop 0).take k), ?_, .sl hq (by simpa using h.take k) (by simp; omega)⟩
    simp [winP]; omega
end
end Go.Ab
namespace Go.Ab.S2
open Go Go.Ab Go.Proofs
theorem has64 (k : Int) : has (usesE k) 64 = true ↔ k = 2 ∨ k = 3 ∨ k = 4 := by
  by_cases h1 : k = 1
  · subst h1; exact ⟨fun h => absurd h (by decide +kernel), fun h => absurd h (by decide)⟩
  by_cases h5 : k = 5
  · subst h5; exact ⟨fun h => absurd h (by decide +kernel), fun h => absurd h (by decide)⟩
  by_cases h2 : k = 2
  · subst h2; exact ⟨fun _ => .inl rfl, fun _ => by decide +kernel⟩
  by_cases h3 : k = 3
  · subst h3; exact ⟨fun _ => .inr (.inl rfl), fun _ => by decide +kernel⟩
  by_cases h4 : k = 4
  · subst h4; exact ⟨fun _ => .inr (.inr rfl), fun _ => by decide +kernel⟩
  have : has (usesE k) 64 = false := by
    by_cases h6 : k = 6
    · subst h6; decide +kernel
    · have : usesE k = 0 := by simp [usesE, *]
      rw [this]; decide +kernel
  simp [this, h2, h3, h4]
theorem has128 (k : Int) : has (usesE k) 128 = true ↔ k = 3 := by
  by_cases h1 : k = 1
  · subst h1; exact ⟨fun h => absurd h (by decide +kernel), fun h => absurd h (by decide)⟩
  by_cases h5 : k = 5
  · subst h5; exact ⟨fun h => absurd h (by decide +kernel), fun h => absurd h (by decide)⟩
  by_cases h2 : k = 2
  · subst h2; exact ⟨fun h => absurd h (by decide +kernel), fun h => absurd h (by decide)⟩
  by_cases h3 : k = 3
  · subst h3; exact ⟨fun _ => rfl, fun _ => by decide +kernel⟩
  by_cases h4 : k = 4
  · subst h4; exact ⟨fun h => absurd h (by decide +kernel), fun h => absurd h (by decide)⟩
  have : has (usesE k) 128 = false := by
    by_cases h6 : k = 6
    · subst h6; decide +kernel
    · have : usesE k = 0 := by simp [usesE, *]
      rw [this]; decide +kernel
  simp [this, h3]
/-- shape.Goals -/
theorem r15 {q : Option Bool} {e : List TV} {b : DBlock} (he : RBlock q e b) : ∃ y, Runs prog 15 [.agg e] y ∧ RInts (some true) y (gl b) := by
  obtain ⟨c, i, g, rfl, hc, hd, hi, hg, ho⟩ := he
  obtain ⟨o1, o2, o3, o4, o5, o6, o7⟩ := ho
  have tail : ∀ (w : TV) (l : List Int) (u : Bool), RInts (some true) w l → l.length ≤ 1 → (u = true ↔ b.fin.kind = 3) → ∃ y, Goes prog 15 (f15_0 (B u) (B b.landing) (I b.pad.dst) c (B b.pad.all) (B b.pad.cleanup) i (I b.fin.kind) (I b.fin.a) (I b.fin.dst) (I b.fin.f) g (I b.fin.to) (I b.fin.els) (I b.fin.pad) w) y ∧ RInts (some true) y (l ++ (if b.fin.kind = 3 then [b.fin.els] else [])) := by
    intro w l u hw hl hu
    by_cases h : b.fin.kind = 3
    · have hut : u = true := hu.2 h
      subst hut
      obtain ⟨w', hw', hr⟩ := hw.app (e := [I b.fin.els]) (a := b.fin.els) ⟨rfl, o6⟩ (by omega)
      refine ⟨w', ?_, by simpa [h] using hr⟩
      unfold f15_0
      exact Goes.ite rfl (fun _ => Goes.rws rfl (Goes.tv hw' (Goes.chk (hr.own fun _ _ h => h.own) Goes.ret))) fun h => nomatch h
    · have huf : u = false := by cases u with
        | false => rfl
        | true => exact absurd (hu.1 rfl) h
      subst huf
      refine ⟨w, ?_, by simpa [h] using hw⟩
      unfold f15_0
      exact Goes.ite rfl (fun h => nomatch h) fun _ => Goes.chk (hw.own fun _ _ h => h.own) Goes.ret
  by_cases h : b.fin.kind = 2 ∨ b.fin.kind = 3 ∨ b.fin.kind = 4
  · obtain ⟨y, hy, hr⟩ := tail (.sl true 1 [[I b.fin.to]]) [b.fin.to] (has (usesE b.fin.kind) 128) (.sl (by simp) (.cons ⟨rfl, o5⟩ .nil) (by simp)) (by simp) (has128 _)
    refine ⟨y, ?_, by simpa [gl, h] using hr⟩
    refine Runs.of (f15_MR _) ?_
    unfold f15_M
    refine Goes.chk rfl (Goes.call (r24 _) (Goes.chk rfl (Goes.call (r25 _ _) (Goes.chk rfl (Goes.ite (v := true) (by rw [(has64 _).2 h]; rfl) (fun _ => ?_) fun h => nomatch h)))))
    exact Goes.rws rfl (Goes.tv rfl (Goes.call (r25 _ _) (Goes.chk rfl (Goes.jmp (f15_0_R _ _ _ _ _ _ _ _ _ _ _ _ _ _ _ _) hy))))
  · obtain ⟨y, hy, hr⟩ := tail (.lit nilV) [] (has (usesE b.fin.kind) 128) .nil (by simp) (has128 _)
    refine ⟨y, ?_, by simpa [gl, h] using hr⟩
    refine Runs.of (f15_MR _) ?_
    unfold f15_M
    have hf : has (usesE b.fin.kind) 64 = false := by
      cases hh : has (usesE b.fin.kind) 64 with
      | false => rfl
      | true => exact absurd ((has64 _).1 hh) h
    refine Goes.chk rfl (Goes.call (r24 _) (Goes.chk rfl (Goes.call (r25 _ _) (Goes.chk rfl (Goes.ite (v := false) (by rw [hf]; rfl) (fun h => nomatch h) fun _ => ?_)))))
    exact Goes.call (r25 _ _) (Goes.chk rfl (Goes.chk rfl (Goes.jmp (f15_0_R _ _ _ _ _ _ _ _ _ _ _ _ _ _ _ _) hy)))
end Go.Ab.S2

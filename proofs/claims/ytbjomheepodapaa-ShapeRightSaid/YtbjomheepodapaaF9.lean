
/- The law ShapeNames over closed values. No condition. -/
import Derived.Test.YtbjomheepodapaaF8
set_option linter.unusedVariables false
set_option maxRecDepth 10000
namespace Go.Ab
/-- Another value in an element of a slice within an element. -/
theorem RP.row2 {α β : Type} {s s2 : Nat} {R : Nat → List TV → α → Prop} {R2 : Nat → List TV → β → Prop} {x y : TV} {l : List α} {l2 : List β} (h : RP s R x l) {i : Nat} {e : List TV} (he : Go.Ab.pel x i = some e) {c : Nat} (hc : e[c]? = some y) (h2 : RP s2 R2 y l2) {j : Nat} {b : β} (hj : l2[j]? = some b) :
    ∃ e2, Go.Ab.pel y j = some e2 ∧ R2 j e2 b ∧ ∀ d ys, setC [(i, c)] x j d ys = some (.sl true s (setNth (rowsOf x) i (setNth e c (.sl true s2 (setNth (rowsOf y) j (setCells e2 d ys)))))) := by
  rcases h with ⟨rfl, rfl⟩ | ⟨xs, rfl, hl, hb, h⟩
  · simp [Go.Ab.pel] at he
  · have he' : xs[i]? = some e := he
    rcases h2 with ⟨rfl, rfl⟩ | ⟨zs, rfl, hl2, hb2, h2⟩
    · simp at hj
    · have hlt := (List.getElem?_eq_some_iff.1 hj).1
      have hz : zs[j]? = some (zs[j]'(by omega)) := List.getElem?_eq_getElem _
      refine ⟨_, hz, h2 j _ b hz hj, fun d ys => ?_⟩
      simp only [setC, getP, he', hc, setEl, hz, setP, rowsOf]
/-- A module with another block in a place. -/
def putBlock (m : DMod) (k : Nat) (f : DFunc) (j : Nat) (b : DBlock) : DMod := ⟨m.funcs.set k ⟨f.params, f.regs, f.blocks.set j b⟩⟩
theorem putBlock_not {m : DMod} {k : Nat} {f : DFunc} {j : Nat} {b b0 : DBlock} (hk : m.funcs[k]? = some f) (hj : f.blocks[j]? = some b0) (hb : ¬ S2.blockP (m.funcs.set k ⟨f.params, f.regs, f.blocks.set j b⟩) f.regs (f.blocks.set j b) b) : ¬ S2.modP (putBlock m k f j b) := by
  rintro ⟨_, _, h⟩
  have h1 := (List.getElem?_eq_some_iff.1 hk).1
  have h2 := (List.getElem?_eq_some_iff.1 hj).1
  have := h k (by simp [putBlock]; exact h1) ⟨f.params, f.regs, f.blocks.set j b⟩ (by simp [putBlock, h1])
  obtain ⟨_, _, _, h3⟩ := this
  exact hb (h3 j (by simp; exact h2) b (by simp [h2]))
theorem mod_nat (a n : Nat) (hn : 0 < n) (ha : a ≤ 65535) : pbin (.int .i64) .rem (I (a : Int)) (I (n : Int)) = some (I ((a % n : Nat) : Int)) := by
  have : ¬ ((n : Int) = 0) := by omega
  simp only [pbin, if_true, intBin, this, if_false]
  rfl
end Go.Ab
namespace Go.Ab.S2
open Go Go.Ab Go.Proofs
theorem pconv_nat (a : Nat) (ha : a ≤ 65535) : pconv (.int .i64) (W (a : Int)) = some (I (a : Int)) := by
  simp only [pconv]
  rw [IntWalk.i64_in _ (by constructor <;> omega)]
theorem quo5 (a : Nat) (ha : a ≤ 65535) : pbin (.int .i64) .quo (I (a : Int)) (I (5 : Int)) = some (I ((a / 5 : Nat) : Int)) := by
  simp only [pbin, if_true, intBin, show ¬ ((5 : Int) = 0) by omega, if_false]
  rw [show ((a : Int).tdiv 5) = ((a / 5 : Nat) : Int) from rfl, IntWalk.i64_in _ (by constructor <;> omega)]
theorem rem_u8 (a : Int) : pbin (.int .u8) .rem (.lit (.int .u8 a)) (.lit (.int .u8 (4 : Int))) = some (.lit (.int .u8 (a.tmod 4))) := by
  simp only [pbin, if_true, intBin, show ¬ ((4 : Int) = 0) by omega, if_false]
/-- The end of the law: what was made of a module that may be may not be. -/
theorem r5_1 {m m' : DMod} {y : TV} {w : TV} (hm : RMod (some false) [y] m) (hw : RMod (some true) [w] m') (h1 : modP m) (h2 : ¬ modP m') : Goes prog 5 (f5_1 y w) (B true) := by
  have hne : ¬ m' = m := fun h => h2 (h ▸ h1)
  have hw' : RMod (some false) [frz w] m' := by
    obtain ⟨b, hb, hr⟩ := hw
    cases hb
    exact ⟨frz w, rfl, hr.frz fun _ _ h => h.frz⟩
  have a1 := r8 hw'
  have a2 := r17 hw' hm
  have a3 := r8 hm
  rw [tt_false h2] at a1
  rw [tt_false hne] at a2
  rw [tt_true h1] at a3
  unfold f5_1
  exact Goes.call a1 (Goes.chk rfl (Goes.tv rfl (Goes.ite rfl (fun _ => Goes.call a2 (Goes.chk rfl (Goes.tv rfl (Goes.ite rfl (fun _ => Goes.call a3 (Goes.chk rfl Goes.ret)) fun h => nomatch h)))) fun h => nomatch h)))

theorem r5 {e : List TV} {m : DMod} {a : Nat} {u : Int} (hm : RMod (some false) e m) (ha : a ≤ 65535) : Runs prog 5 [.agg e, W (a : Int), .lit (.int .u8 u)] (B true) := by
  obtain ⟨bs, hs, himp⟩ := r7 hm
  have hr8 := r8 hm
  have hm' := hm
  obtain ⟨x, rfl, hx⟩ := hm
  refine Runs.of (f5_MR _ _ _) ?_
  unfold f5_M
  refine Goes.chk rfl (Goes.call r6 (Goes.chk rfl (Goes.tv rfl (Goes.ite rfl (fun h => nomatch h) fun _ => Goes.call hs (Goes.chk rfl (Goes.tv rfl (Goes.ite rfl (fun _ => Goes.ret) fun hb => ?_)))))))
  have hb : bs = true := by simpa using hb
  have hshort := himp hb
  refine Goes.call hr8 (Goes.chk rfl (Goes.tv rfl (Goes.ite rfl (fun _ => Goes.ret) fun hb => ?_)))
  have hmod : modP m := by simpa [tt_iff] using hb
  obtain ⟨e', h16, hcopy⟩ := r16 hm' hshort
  obtain ⟨c, rfl, hc⟩ := hcopy
  obtain ⟨_, ⟨f0, hf0, _⟩, hfs⟩ := hmod
  have hpos : 0 < m.funcs.length := (List.getElem?_eq_some_iff.1 hf0).1
  have hk : a % m.funcs.length < m.funcs.length := Nat.mod_lt _ hpos
  generalize hkk : a % m.funcs.length = k at hk
  have hka : m.funcs[k]? = some m.funcs[k] := List.getElem?_eq_getElem hk
  have hfk := hfs k hk _ hka
  have hshk := hshort.2 k hk _ hka
  generalize m.funcs[k] = f at hka hfk hshk
  have hcp : RP 3 (fun _ e f => RFunc (some true) e f) c m.funcs := hc.toRP fun _ _ _ h => h
  obtain ⟨e1, he1, hr1, hget1, _⟩ := hcp.row hka
  obtain ⟨y, rfl, hy, hok⟩ := hr1
  obtain ⟨_, _, ⟨b0, hb0, _⟩, hbs⟩ := hfk
  have hposb : 0 < f.blocks.length := (List.getElem?_eq_some_iff.1 hb0).1
  have hj : a / 5 % f.blocks.length < f.blocks.length := Nat.mod_lt _ hposb
  generalize hjj : a / 5 % f.blocks.length = j at hj
  have hja : f.blocks[j]? = some f.blocks[j] := List.getElem?_eq_getElem hj
  have hbj := hbs j hj _ hja
  generalize f.blocks[j] = b at hja hbj
  have hyp : RP 14 (fun _ e b => RBlock (some true) e b) y f.blocks := hy.toRP fun _ _ _ h => h
  obtain ⟨e2, he2, hr2, hset⟩ := hcp.row2 he1 (c := 2) rfl hyp hja
  obtain ⟨cc, ii, gg, rfl, hcc, hd, hii, hgg, hok2⟩ := hr2
  have hlt : Nat.blt k m.funcs.length = true := by simpa using hk
  have hltj : Nat.blt j f.blocks.length = true := by simpa using hj
  have g1 : getP [(k, 2)] c = some y := hget1 2 y rfl
  have hl20 := hshort.1
  have hl70 := hshk.1
  -- what is stored
  have fin : ∀ d v (b' : DBlock), RBlock (some true) (setCells [B b.landing, I b.pad.dst, cc, B b.pad.all, B b.pad.cleanup, ii, I b.fin.kind, I b.fin.a, I b.fin.dst, I b.fin.f, gg, I b.fin.to, I b.fin.els, I b.fin.pad] d [v]) b' →
      ¬ blockP (m.funcs.set k ⟨f.params, f.regs, f.blocks.set j b'⟩) f.regs (f.blocks.set j b') b' → ∃ w, setC [(k, 2)] c j d [v] = some w ∧ Goes prog 5 (f5_1 x w) (B true) := by
    intro d v b' hb' hn
    refine ⟨_, hset d [v], ?_⟩
    refine r5_1 (m := m) (m' := putBlock m k f j b') hm' ?_ ⟨by omega, ⟨f0, hf0, by assumption⟩, hfs⟩ (putBlock_not hka hja hn)
    refine ⟨_, rfl, ?_⟩
    have hy2 := hyp.setTo (S := fun _ e b => RBlock (some true) e b) hja hb' (fun _ _ _ _ h => h)
    have hc2 := hcp.setTo (S := fun _ e b => RFunc (some true) e b) hka (b := ⟨f.params, f.regs, f.blocks.set j b'⟩) ⟨_, rfl, hy2.toRL fun _ _ _ _ h => h, hok⟩ (fun _ _ _ _ h => h)
    exact hc2.toRL fun _ _ _ _ h => h
  have q0 : ∀ (b' : DBlock), (b.fin.kind = 2 ∨ b.fin.kind = 3 ∨ b.fin.kind = 4) → b' = { b with fin := { b.fin with to := f.blocks.length } } → ¬ blockP (m.funcs.set k ⟨f.params, f.regs, f.blocks.set j b'⟩) f.regs (f.blocks.set j b') b' := by
    rintro b' hkd rfl ⟨_, _, _, he⟩
    have h64 := he.2.2.2.2.1
    have hu : has (usesE b.fin.kind) 64 = true := by rcases hkd with h | h | h <;> rw [h] <;> rfl
    obtain ⟨_, g, hg, _⟩ := h64.1 hu
    have := (List.getElem?_eq_some_iff.1 hg).1
    simp at this
  have q1 : ∀ (b' : DBlock), b.fin.kind = 4 → b' = { b with fin := { b.fin with f := m.funcs.length } } → ¬ blockP (m.funcs.set k ⟨f.params, f.regs, f.blocks.set j b'⟩) f.regs (f.blocks.set j b') b' := by
    rintro b' hkd rfl ⟨_, _, _, he⟩
    have h32 := he.2.2.2.1
    have hu : has (usesE b.fin.kind) 32 = true := by rw [hkd]; rfl
    obtain ⟨_, g, hg, _⟩ := h32.1 hu
    have := (List.getElem?_eq_some_iff.1 hg).1
    simp at this
  have q2 : ∀ (b' : DBlock), (b.fin.kind = 1 ∨ b.fin.kind = 5 ∨ b.fin.kind = 3) → b' = { b with fin := { b.fin with a := f.regs } } → ¬ blockP (m.funcs.set k ⟨f.params, f.regs, f.blocks.set j b'⟩) f.regs (f.blocks.set j b') b' := by
    rintro b' hkd rfl ⟨_, _, _, he⟩
    have h4 := he.2.1
    have hu : has (usesE b.fin.kind) 4 = true := by rcases hkd with h | h | h <;> rw [h] <;> rfl
    have := (h4.1 hu).2
    simp at this
  have q3 : ∀ (b' : DBlock), b.landing = true → b' = { b with pad := { b.pad with dst := f.regs } } → ¬ blockP (m.funcs.set k ⟨f.params, f.regs, f.blocks.set j b'⟩) f.regs (f.blocks.set j b') b' := by
    rintro b' hkd rfl ⟨_, hp, _⟩
    have := (hp.2 hkd).1.2
    simp at this
  have hf7 : fitsAt z2 [B b.landing, I b.pad.dst, cc, B b.pad.all, B b.pad.cleanup, ii, I b.fin.kind, I b.fin.a, I b.fin.dst, I b.fin.f, gg, I b.fin.to, I b.fin.els, I b.fin.pad] 6 = true := rfl
  have fin0 : (b.fin.kind = 2 ∨ b.fin.kind = 3 ∨ b.fin.kind = 4) → Goes prog 5 (f5_0 k k j x c) (B true) := by
    intro hkd
    obtain ⟨w, hw, hgo⟩ := fin 11 (I f.blocks.length) { b with fin := { b.fin with to := f.blocks.length } } ⟨cc, ii, gg, rfl, hcc, hd, hii, hgg, by
      obtain ⟨a1, a2, a3, a4, a5, a6, a7⟩ := hok2
      exact ⟨a1, a2, a3, a4, by constructor <;> simp <;> omega, a6, a7⟩⟩ (q0 _ hkd rfl)
    unfold f5_0
    exact Goes.tvs he1 (Goes.chk (by simp [fitsAt, z22, isSlV, hy.isSl]) (Goes.tv g1 (Goes.tv hy.len (Goes.tv g1 (Goes.tvs he2 (Goes.chk rfl (Goes.tv hw (Goes.jmp (f5_1_R _ _) hgo))))))))
  have fin2 : (b.fin.kind = 1 ∨ b.fin.kind = 5 ∨ b.fin.kind = 3) → Goes prog 5 (f5_2 k k j x c) (B true) := by
    intro hkd
    obtain ⟨w, hw, hgo⟩ := fin 7 (I f.regs) { b with fin := { b.fin with a := f.regs } } ⟨cc, ii, gg, rfl, hcc, hd, hii, hgg, by
      obtain ⟨a1, a2, a3, a4, a5, a6, a7⟩ := hok2
      exact ⟨a1, hok.2, a3, a4, a5, a6, a7⟩⟩ (q2 _ hkd rfl)
    unfold f5_2
    exact Goes.tvs he1 (Goes.chk rfl (Goes.tv g1 (Goes.tvs he2 (Goes.chk rfl (Goes.tv hw (Goes.jmp (f5_1_R _ _) hgo))))))
  refine Goes.call h16 (Goes.chk (by simp [TV.isAgg, fitsAt, z22, isSlV, TV.cellsL, hc.isSl]) (Goes.tv (pconv_nat a ha) (Goes.tv hc.len (Goes.tv (mod_nat a _ hpos ha) (Goes.nat hc.slLen (Goes.nat (asNat_nat (by omega)) (Goes.chk ?_ ?_)))))))
  · rw [hkk, hlt]; exact (Bool.and_true _).trans hc.slSize
  rw [hkk]
  refine Goes.tvs he1 (Goes.chk (by simp [fitsAt, z22, isSlV, hy.isSl]) (Goes.tv (pconv_nat a ha) (Goes.tv (quo5 a ha) (Goes.tvs he1 (Goes.chk (by simp [fitsAt, z22, isSlV, hy.isSl]) (Goes.tv g1 (Goes.tv hy.len (Goes.tv (mod_nat _ _ hposb (by omega)) (Goes.tv g1 (Goes.nat hy.slLen (Goes.nat (asNat_nat (by omega)) (Goes.chk ?_ ?_))))))))))))
  · rw [hjj, hltj]; exact (Bool.and_true _).trans hy.slSize
  rw [hjj]
  refine Goes.tv (rem_u8 u) (Goes.tv rfl (Goes.ite rfl (fun _ => ?_) fun _ => ?_))
  · refine Goes.tv g1 (Goes.tvs he2 (Goes.chk rfl (Goes.tv rfl (Goes.ite rfl (fun h1 => ?_) fun h1 => ?_))))
    · refine Goes.tv g1 (Goes.tvs he2 (Goes.chk rfl (Goes.tv rfl (Goes.ite rfl (fun h1 => ?_) fun h1 => ?_))))
      · refine Goes.tv g1 (Goes.tvs he2 (Goes.chk rfl (Goes.tv rfl (Goes.ite rfl (fun h1 => Goes.ret) fun h1 => ?_))))
        exact Goes.jmp (f5_0_R _ _ _ _ _) (fin0 (.inr (.inr (by simpa using h1))))
      · exact Goes.jmp (f5_0_R _ _ _ _ _) (fin0 (.inr (.inl (by simpa using h1))))
    · exact Goes.jmp (f5_0_R _ _ _ _ _) (fin0 (.inl (by simpa using h1)))
  · refine Goes.tv rfl (Goes.ite rfl (fun _ => ?_) fun _ => ?_)
    · refine Goes.tv g1 (Goes.tvs he2 (Goes.chk rfl (Goes.tv rfl (Goes.ite rfl (fun h1 => Goes.ret) fun h1 => ?_))))
      obtain ⟨w, hw, hgo⟩ := fin 9 (I m.funcs.length) { b with fin := { b.fin with f := m.funcs.length } } ⟨cc, ii, gg, rfl, hcc, hd, hii, hgg, by
        obtain ⟨a1, a2, a3, a4, a5, a6, a7⟩ := hok2
        exact ⟨a1, a2, a3, by constructor <;> simp <;> omega, a5, a6, a7⟩⟩ (q1 _ (by simpa using h1) rfl)
      exact Goes.tv hc.len (Goes.tv g1 (Goes.tvs he2 (Goes.chk rfl (Goes.tv hw (Goes.jmp (f5_1_R _ _) hgo)))))
    · refine Goes.tv rfl (Goes.ite rfl (fun _ => ?_) fun _ => ?_)
      · refine Goes.tv g1 (Goes.tvs he2 (Goes.chk rfl (Goes.tv rfl (Goes.ite rfl (fun h1 => ?_) fun h1 => ?_))))
        · refine Goes.tv g1 (Goes.tvs he2 (Goes.chk rfl (Goes.tv rfl (Goes.ite rfl (fun h1 => ?_) fun h1 => ?_))))
          · refine Goes.tv g1 (Goes.tvs he2 (Goes.chk rfl (Goes.tv rfl (Goes.ite rfl (fun h1 => Goes.ret) fun h1 => ?_))))
            exact Goes.jmp (f5_2_R _ _ _ _ _) (fin2 (.inr (.inr (by simpa using h1))))
          · exact Goes.jmp (f5_2_R _ _ _ _ _) (fin2 (.inr (.inl (by simpa using h1))))
        · exact Goes.jmp (f5_2_R _ _ _ _ _) (fin2 (.inl (by simpa using h1)))
      · refine Goes.tv g1 (Goes.tvs he2 (Goes.chk rfl (Goes.tv rfl (Goes.ite rfl (fun h1 => Goes.ret) fun h1 => ?_))))
        obtain ⟨w, hw, hgo⟩ := fin 1 (I f.regs) { b with pad := { b.pad with dst := f.regs } } ⟨cc, ii, gg, rfl, hcc, hok.2, hii, hgg, hok2⟩ (q3 _ (by simpa using h1) rfl)
        exact Goes.tvs he1 (Goes.chk rfl (Goes.tv g1 (Goes.tvs he2 (Goes.chk rfl (Goes.tv hw (Goes.jmp (f5_1_R _ _) hgo))))))
end Go.Ab.S2

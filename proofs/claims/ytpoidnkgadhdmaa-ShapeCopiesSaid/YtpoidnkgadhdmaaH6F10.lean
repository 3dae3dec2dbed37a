
/- The law ShapeCopies over closed values. No condition. -/
import Derived.Test.YtpoidnkgadhdmaaH6F9
import Derived.OpenShut
set_option linter.unusedVariables false
set_option maxRecDepth 10000
namespace Go.Ab
theorem getP_app : ∀ (p : Way) (k j : Nat) (x y : TV), getP p x = some y → getP (p ++ [(k, j)]) x = getP [(k, j)] y
  | [], k, j, x, y, h => by simp [getP] at h; subst h; rfl
  | (a, b) :: p, k, j, x, y, h => by
    cases x with
    | sl o s xs =>
      simp only [getP, List.cons_append] at h ⊢
      cases hx : xs[a]? with
      | none => simp [hx] at h
      | some e =>
        simp only [hx] at h ⊢
        cases he : e[b]? with
        | none => simp [he] at h
        | some z =>
          simp only [he] at h ⊢
          exact getP_app p k j z y h
    | _ => simp [getP] at h
theorem setP_app : ∀ (p : Way) (k j : Nat) (x y z y' w : TV), getP p x = some y → setP [(k, j)] y z = some y' → setP p x y' = some w → setP (p ++ [(k, j)]) x z = some w
  | [], k, j, x, y, z, y', w, h, h2, h3 => by simp [getP] at h; subst h; simp [setP] at h3; subst h3; exact h2
  | (a, b) :: p, k, j, x, y, z, y', w, h, h2, h3 => by
    cases x with
    | sl o s xs =>
      cases o with
      | false => simp [setP] at h3
      | true =>
        simp only [getP, setP, List.cons_append] at h h3 ⊢
        cases hx : xs[a]? with
        | none => simp [hx] at h
        | some e =>
          simp only [hx] at h h3 ⊢
          cases he : e[b]? with
          | none => simp [he] at h
          | some u =>
            simp only [he] at h h3 ⊢
            cases hs : setP p u y' with
            | none => simp [hs] at h3
            | some u' =>
              rw [setP_app p k j u y z y' u' h h2 hs]
              rw [hs] at h3
              exact h3
    | _ => simp [getP] at h
/-- What stands at a way of a module's tree, and that another one may be put there. -/
structure Zip {β : Type} (p : Way) (w y : TV) (Q : TV → β → Prop) (G : β → DMod) : Prop where
  get : getP p w = some y
  set : ∀ y' b', Q y' b' → ∃ w', setP p w y' = some w' ∧ RMod (some true) [w'] (G b')
section
variable {α β : Type} {p : Way} {w y : TV} {s : Nat} {R : List TV → α → Prop} {Q : TV → β → Prop} {G : List α → DMod} {l : List α}
theorem RL.at (hy : RL (some true) s R y l) {k : Nat} {e : List TV} (he : Go.Ab.pel y k = some e) : ∃ xs, y = .sl true s xs ∧ xs[k]? = some e ∧ F2 R xs l ∧ xs.length ≤ 9223372036854775807 := by
  rcases hy with ⟨rfl, rfl⟩ | ⟨o, xs, rfl, hq, h, hb⟩
  · simp [Go.Ab.pel] at he
  · have : o = true := hq true rfl
    subst this
    exact ⟨xs, rfl, he, h, hb⟩
theorem Zip.step (hz : Zip p w y (RL (some true) s R) G) (hy : RL (some true) s R y l) {k : Nat} {e : List TV} (he : Go.Ab.pel y k = some e) {j : Nat} {z : TV} (hj : e[j]? = some z) (upd : β → α) (hu : ∀ z' c', Q z' c' → R (setNth e j z') (upd c')) :
    Zip (p ++ [(k, j)]) w z Q (fun c => G (l.set k (upd c))) := by
  obtain ⟨xs, rfl, hk, hf, hb⟩ := hy.at he
  refine ⟨?_, fun z' c' hq => ?_⟩
  · rw [getP_app _ _ _ _ _ hz.get]
    simp only [getP, hk, hj]
  · obtain ⟨w', h1, h2⟩ := hz.set (.sl true s (setNth xs k (setNth e j z'))) (l.set k (upd c')) (.sl (by simp) (hf.set (hu z' c' hq)) (by rw [setNth_len]; exact hb))
    refine ⟨w', setP_app _ _ _ _ _ _ _ _ hz.get ?_ h1, h2⟩
    simp only [setP, hk, hj]
theorem Zip.store (hz : Zip p w y (RL (some true) s R) G) (hy : RL (some true) s R y l) {i : Nat} {e : List TV} (he : Go.Ab.pel y i = some e) {d : Nat} {ys : List TV} {a : α} (hR : R (setCells e d ys) a) :
    ∃ w', setC p w i d ys = some w' ∧ RMod (some true) [w'] (G (l.set i a)) := by
  obtain ⟨xs, rfl, hk, hf, hb⟩ := hy.at he
  obtain ⟨w', h1, h2⟩ := hz.set (.sl true s (setNth xs i (setCells e d ys))) (l.set i a) (.sl (by simp) (hf.set hR) (by rw [setNth_len]; exact hb))
  refine ⟨w', ?_, h2⟩
  simp only [setC, hz.get, setEl, hk, h1]
end
theorem zip_nil {w : TV} : Zip [] w w (RL (some true) 3 (RFunc (some true))) (fun fs => ⟨fs⟩) := ⟨rfl, fun y' b' h => ⟨y', rfl, y', rfl, h⟩⟩
abbrev blockCells (b : DBlock) (c i g : TV) : List TV := [B b.landing, I b.pad.dst, c, B b.pad.all, B b.pad.cleanup, i, I b.fin.kind, I b.fin.a, I b.fin.dst, I b.fin.f, g, I b.fin.to, I b.fin.els, I b.fin.pad]
/-- A block of a module's tree. -/
theorem open2 {w : TV} {m : DMod} {k j : Nat} {f : DFunc} {b : DBlock} (h : RMod (some true) [w] m) (hk : m.funcs[k]? = some f) (hj : f.blocks[j]? = some b) :
    ∃ y c i g, Go.Ab.pel w k = some [I f.params, I f.regs, y] ∧ Go.Ab.pel y j = some (blockCells b c i g) ∧ RL (some true) 3 (RFunc (some true)) w m.funcs ∧ RL (some true) 14 (RBlock (some true)) y f.blocks ∧ RWords (some true) c b.pad.catches ∧ inI b.pad.dst ∧ RL (some true) 7 (RIns (some true)) i b.ins ∧ RInts (some true) g b.fin.args ∧ b.fin.ok ∧
      Zip [(k, 2)] w y (RL (some true) 14 (RBlock (some true))) (fun bs => ⟨m.funcs.set k ⟨f.params, f.regs, bs⟩⟩) := by
  obtain ⟨_, hx, hw⟩ := h
  cases hx
  obtain ⟨e1, he1, hr1⟩ := hw.pel hk
  obtain ⟨y, rfl, hy, hok⟩ := hr1
  obtain ⟨e2, he2, hr2⟩ := hy.pel hj
  obtain ⟨c, i, g, rfl, hc, hd, hi, hg, ho⟩ := hr2
  exact ⟨y, c, i, g, he1, he2, hw, hy, hc, hd, hi, hg, ho, Zip.step zip_nil hw he1 rfl (fun bs => ⟨f.params, f.regs, bs⟩) fun z' c' hq => ⟨z', rfl, hq, hok⟩⟩
theorem wrap_in (n : Int) : inI (IntKind.i64.wrap n) := wf_i64' (wf_wrapI n)
  where wf_i64' {n : Int} (h : -9223372036854775808 ≤ n ∧ n ≤ 9223372036854775807) : inI n := h
        wf_wrapI (n : Int) : -9223372036854775808 ≤ IntKind.i64.wrap n ∧ IntKind.i64.wrap n ≤ 9223372036854775807 := by rw [IntKind.wrap_i64]; omega
theorem wrap_inW (n : Int) : inW (IntKind.u16.wrap n) := by
  have h := wf_wrap .u16 n
  simp only [Lit.wf, Bool.and_eq_true, decide_eq_true_eq] at h
  exact h
theorem wrap_ne {n : Int} (h : inI n) : IntKind.i64.wrap (n + 1) ≠ n := by
  obtain ⟨h1, h2⟩ := h
  rw [IntKind.wrap_i64]; omega
end Go.Ab
namespace Go.Ab.H6
open Go Go.Ab Go.Proofs
theorem quo7 (a : Nat) (ha : a ≤ 65535) : pbin (.int .i64) .quo (I (a : Int)) (I (7 : Int)) = some (I ((a / 7 : Nat) : Int)) := by
  simp only [pbin, if_true, intBin, show ¬ ((7 : Int) = 0) by omega, if_false]
  rw [show ((a : Int).tdiv 7) = ((a / 7 : Nat) : Int) from rfl, IntWalk.i64_in _ (by constructor <;> omega)]
/-- A copy to which something was done at a place. -/
def Done (m : DMod) (k j : Nat) (w : TV) : Prop := ∃ m' f b f0 b0, RMod (some true) [w] m' ∧ m'.funcs[k]? = some f ∧ f.blocks[j]? = some b ∧ m.funcs[k]? = some f0 ∧ f0.blocks[j]? = some b0 ∧ b.fin.to ≠ b0.fin.to
theorem r4_1 {m : DMod} {k j : Nat} {y w d : TV} (hm : RMod (some false) [y] m) (hw : Done m k j w) (hd : RMod (some true) [d] m) : Goes prog 3 (f3_1 y w d) (B true) := by
  obtain ⟨m', f, b, f0, b0, hw, hk, hj, hk0, hj0, hne⟩ := hw
  have hmm : ¬ m' = m := by
    rintro rfl
    rw [hk] at hk0
    cases hk0
    rw [hj] at hj0
    cases hj0
    exact hne rfl
  have fz : ∀ {w : TV} {m : DMod}, RMod (some true) [w] m → RMod (some false) [frz w] m := by
    rintro w m ⟨b, hb, hr⟩
    cases hb
    exact ⟨frz w, rfl, hr.frz fun _ _ h => h.frz⟩
  have a1 := r18 (fz hd) hm
  have a2 := r17 (fz hw) hm
  have a3 := r18 (fz hw) hm
  rw [tt_true rfl] at a1
  rw [tt_false hmm] at a2 a3
  unfold f3_1
  exact Goes.call a1 (Goes.chk rfl (Goes.ite rfl (fun _ => Goes.call a2 (Goes.chk rfl (Goes.tv rfl (Goes.ite rfl (fun _ => Goes.call a3 (Goes.chk rfl (Goes.tv rfl Goes.ret))) fun h => nomatch h)))) fun h => nomatch h))
theorem Done.of {m m' : DMod} {k j : Nat} {w : TV} {f f0 : DFunc} {b b0 : DBlock} {bs : List DBlock} {b' : DBlock} (hw : RMod (some true) [w] ⟨m'.funcs.set k ⟨f.params, f.regs, f.blocks.set j b'⟩⟩) (hk : m'.funcs[k]? = some f) (hj : f.blocks[j]? = some b) (hk0 : m.funcs[k]? = some f0) (hj0 : f0.blocks[j]? = some b0) (hne : b'.fin.to ≠ b0.fin.to) : Done m k j w := by
  have h1 := (List.getElem?_eq_some_iff.1 hk).1
  have h2 := (List.getElem?_eq_some_iff.1 hj).1
  exact ⟨_, ⟨f.params, f.regs, f.blocks.set j b'⟩, b', f0, b0, hw, by simp [h1], by simp [h2], hk0, hj0, hne⟩
theorem r4_0 {m : DMod} {k j : Nat} {y w d : TV} (hm : RMod (some false) [y] m) (hw : Done m k j w) (hd : RMod (some true) [d] m) : Goes prog 3 (f3_0 k j y w d) (B true) := by
  have hfin := r4_1 hm hw hd
  obtain ⟨m', f, b, f0, b0, hw, hk, hj, hk0, hj0, hne⟩ := hw
  obtain ⟨z, c, i, g, he1, he2, hwl, hz, hc, hdst, hi, hg, ho, Z⟩ := open2 hw hk hj
  have Z2 := Z.step hz he2 (j := 2) rfl (Q := RWords (some true)) (fun cs => { b with pad := { b.pad with catches := cs } }) fun z' c' hq => ⟨z', i, g, rfl, hq, hdst, hi, hg, ho⟩
  unfold f3_0
  refine Goes.tv Z.get (Goes.tvs he2 (Goes.chk (by simp [fitsAt, zSl, isSlV, hc.isSl]) (Goes.tv Z2.get (Goes.tv hc.len (Goes.tv rfl (Goes.ite rfl (fun h => ?_) fun h => Goes.jmp (f3_1_R _ _ _) hfin))))))
  have hpos : 0 < b.pad.catches.length := by simp at h; omega
  have hx : b.pad.catches[0]? = some b.pad.catches[0] := List.getElem?_eq_getElem hpos
  obtain ⟨e, he, hr⟩ := hc.pel hx
  obtain ⟨rfl, hin⟩ := hr
  have hlt : Nat.blt 0 b.pad.catches.length = true := by simpa using hpos
  have hchk : (slSize c 1 && Nat.blt 0 b.pad.catches.length) = true := by rw [hlt, hc.slSize]; rfl
  obtain ⟨w', hw', hR⟩ := Z2.store hc he (d := 0) (ys := [W (IntKind.u16.wrap (b.pad.catches[0] + 1))]) (a := IntKind.u16.wrap (b.pad.catches[0] + 1)) ⟨rfl, wrap_inW _⟩
  have hD : Done m k j w' := Done.of (bs := []) hR hk hj hk0 hj0 hne
  refine Goes.tv Z.get (Goes.tvs he2 (Goes.chk (by simp [fitsAt, zSl, isSlV, hc.isSl]) (Goes.tv Z2.get (Goes.nat hc.slLen (Goes.nat rfl (Goes.chk hchk (Goes.tv Z2.get (Goes.tvs he (Goes.chk rfl (Goes.tv rfl (Goes.tv Z2.get (Goes.nat hc.slLen (Goes.nat rfl (Goes.chk hchk (Goes.tv Z2.get (Goes.tvs he (Goes.chk rfl (Goes.tv hw' ?_))))))))))))))))))
  exact Goes.jmp (f3_1_R _ _ _) (r4_1 hm hD hd)

theorem r4 {e e' : List TV} {m m2 : DMod} {a : Nat} (hm : RMod (some false) e m) (hm2 : RMod (some false) e' m2) (ha : a ≤ 65535) : Runs prog 3 [.agg e, .agg e', W (a : Int)] (B true) := by
  obtain ⟨bs, hs, himp⟩ := r7 hm
  obtain ⟨bs2, hs2, himp2⟩ := r7 hm2
  have hsame := r17 hm hm2
  have hsame2 := r18 hm hm2
  have hm' := hm
  have hm2' := hm2
  obtain ⟨x, rfl, hx⟩ := hm
  obtain ⟨x2, rfl, hx2⟩ := hm2
  refine Runs.of (f3_MR _ _ _) ?_
  unfold f3_M
  refine Goes.chk rfl (Goes.chk rfl (Goes.call r6 (Goes.chk rfl (Goes.tv rfl (Goes.ite rfl (fun h => nomatch h) fun _ => Goes.call hs (Goes.chk rfl (Goes.tv rfl (Goes.ite rfl (fun _ => Goes.ret) fun hb => ?_))))))))
  refine Goes.call hs2 (Goes.chk rfl (Goes.tv rfl (Goes.ite rfl (fun _ => Goes.ret) fun _ => ?_)))
  have hb : bs = true := by simpa using hb
  have hshort := himp hb
  obtain ⟨e', h16, hcopy⟩ := r16 hm' hshort
  have hcopy' := hcopy
  obtain ⟨c, rfl, hc⟩ := hcopy
  have fz : RMod (some false) [frz c] m := ⟨frz c, rfl, hc.frz fun _ _ h => h.frz⟩
  have a1 := r18 fz hm'
  have a2 := r17 fz hm'
  rw [tt_true rfl] at a1 a2
  refine Goes.call h16 (Goes.chk (by simp [TV.isAgg, fitsAt, zSl, isSlV, TV.cellsL, hc.isSl]) (Goes.call h16 (Goes.chk (by simp [TV.isAgg, fitsAt, zSl, isSlV, TV.cellsL, hc.isSl]) ?_)))
  refine Goes.call hsame (Goes.chk rfl (Goes.call hsame2 (Goes.chk rfl (Goes.tv rfl (Goes.ite rfl (fun h => ?_) fun _ => ?_)))))
  · simp at h
  refine Goes.call a1 (Goes.chk rfl (Goes.tv rfl (Goes.ite rfl (fun h => nomatch h) fun _ => Goes.call a2 (Goes.chk rfl (Goes.tv rfl (Goes.ite rfl (fun h => nomatch h) fun _ => ?_))))))
  refine Goes.tv hc.len (Goes.tv rfl (Goes.ite rfl (fun _ => Goes.ret) fun h0 => ?_))
  have hpos : 0 < m.funcs.length := by simp at h0; cases hmf : m.funcs with
    | nil => simp [hmf] at h0
    | cons _ _ => simp
  have hk : a % m.funcs.length < m.funcs.length := Nat.mod_lt _ hpos
  generalize hkk : a % m.funcs.length = k at hk
  have hka : m.funcs[k]? = some m.funcs[k] := List.getElem?_eq_getElem hk
  have hshk := hshort.2 k hk _ hka
  generalize m.funcs[k] = f at hka hshk
  have hlt : Nat.blt k m.funcs.length = true := by simpa using hk
  have hl20 := hshort.1
  have hl70 := hshk.1
  obtain ⟨e1, he1, hr1⟩ := hc.pel hka
  obtain ⟨y, rfl, hy, hok⟩ := hr1
  have g1 : getP [(k, 2)] c = some y := by
    obtain ⟨xs, rfl, hkx, _⟩ := hc.at he1
    simp [getP, hkx]
  refine Goes.tv (pconv_nat a ha) (Goes.tv hc.len (Goes.tv (mod_nat a _ hpos ha) (Goes.nat hc.slLen (Goes.nat (asNat_nat (by omega)) (Goes.chk ?_ ?_)))))
  · rw [hkk, hlt]; exact (Bool.and_true _).trans hc.slSize
  rw [hkk]
  refine Goes.tvs he1 (Goes.chk (by simp [fitsAt, zFunc, isSlV, TV.isSc, scV, hy.isSl]) (Goes.tv g1 (Goes.tv hy.len (Goes.tv rfl (Goes.ite rfl (fun _ => Goes.ret) fun h1 => ?_)))))
  have hposb : 0 < f.blocks.length := by simp at h1; cases hmf : f.blocks with
    | nil => simp [hmf] at h1
    | cons _ _ => simp
  have hj : a / 7 % f.blocks.length < f.blocks.length := Nat.mod_lt _ hposb
  generalize hjj : a / 7 % f.blocks.length = j at hj
  have hja : f.blocks[j]? = some f.blocks[j] := List.getElem?_eq_getElem hj
  generalize f.blocks[j] = b at hja
  have hltj : Nat.blt j f.blocks.length = true := by simpa using hj
  refine Goes.tv (pconv_nat a ha) (Goes.tv (quo7 a ha) (Goes.tv g1 (Goes.tv hy.len (Goes.tv (mod_nat _ _ hposb (by omega)) (Goes.tv g1 (Goes.nat hy.slLen (Goes.nat (asNat_nat (by omega)) (Goes.chk ?_ ?_))))))))
  · rw [hjj, hltj]; exact (Bool.and_true _).trans hy.slSize
  rw [hjj]
  -- the first thing that is done: where it goes
  obtain ⟨y', cc, ii, gg, he1', he2, _, hy', hcc, hd, hii, hgg, ho, Z⟩ := open2 hcopy' hka hja
  rw [he1] at he1'
  cases he1'
  obtain ⟨w1, hw1, hR1⟩ := Z.store hy' he2 (d := 11) (ys := [I (IntKind.i64.wrap (b.fin.to + 1))]) (a := { b with fin := { b.fin with to := IntKind.i64.wrap (b.fin.to + 1) } }) ⟨cc, ii, gg, rfl, hcc, hd, hii, hgg, by
    obtain ⟨a1, a2, a3, a4, a5, a6, a7⟩ := ho
    exact ⟨a1, a2, a3, a4, wrap_in _, a6, a7⟩⟩
  have hne := wrap_ne ho.2.2.2.2.1
  have hD1 : Done m k j w1 := Done.of (bs := []) hR1 hka hja hka hja hne
  refine Goes.tv g1 (Goes.tvs he2 (Goes.chk rfl (Goes.tv rfl (Goes.tv g1 (Goes.tvs he2 (Goes.chk rfl (Goes.tv hw1 ?_)))))))
  -- behind it
  obtain ⟨m1, f1, b1, f0, b0, hw1, hk1, hj1, hk0, hj0, hne1⟩ := hD1
  obtain ⟨y1, c1, i1, g1', hp1, hp2, _, hy1, hc1, hd1, hi1, hg1, ho1, Z1⟩ := open2 hw1 hk1 hj1
  have Z5 := Z1.step hy1 hp2 (j := 5) rfl (Q := RL (some true) 7 (RIns (some true))) (fun is => { b1 with ins := is }) fun z' c' hq => ⟨c1, z', g1', rfl, hc1, hd1, hq, hg1, ho1⟩
  have hD1 : Done m k j w1 := ⟨m1, f1, b1, f0, b0, hw1, hk1, hj1, hk0, hj0, hne1⟩
  refine Goes.tv Z1.get (Goes.tvs hp2 (Goes.chk (by simp [fitsAt, zSl, isSlV, hi1.isSl]) (Goes.tv Z5.get (Goes.tv hi1.len (Goes.tv rfl (Goes.ite rfl (fun h => ?_) fun h => Goes.jmp (f3_0_R _ _ _ _ _) (r4_0 hm' hD1 hcopy')))))))
  have hposi : 0 < b1.ins.length := by simp at h; omega
  have hxi : b1.ins[0]? = some b1.ins[0] := List.getElem?_eq_getElem hposi
  obtain ⟨e3, he3, hr3⟩ := hi1.pel hxi
  generalize b1.ins[0] = u at hxi hr3
  obtain ⟨v, rfl, hv, hok3⟩ := hr3
  have hlti : Nat.blt 0 b1.ins.length = true := by simpa using hposi
  have hchk : (slSize i1 7 && Nat.blt 0 b1.ins.length) = true := by rw [hlti, hi1.slSize]; rfl
  obtain ⟨w2, hw2, hR2⟩ := Z5.store hi1 he3 (d := 1) (ys := [I (IntKind.i64.wrap (u.dst + 1))]) (a := { u with dst := IntKind.i64.wrap (u.dst + 1) }) ⟨v, rfl, hv, by
    obtain ⟨a1, a2, a3, a4, a5, a6⟩ := hok3
    exact ⟨a1, wrap_in _, a3, a4, a5, a6⟩⟩
  have hD2 : Done m k j w2 := Done.of (bs := []) hR2 hk1 hj1 hk0 hj0 hne1
  refine Goes.tv Z1.get (Goes.tvs hp2 (Goes.chk (by simp [fitsAt, zSl, isSlV, hi1.isSl]) (Goes.tv Z5.get (Goes.nat hi1.slLen (Goes.nat rfl (Goes.chk hchk (Goes.tv Z5.get (Goes.tvs he3 (Goes.chk rfl (Goes.tv rfl (Goes.tv Z5.get (Goes.nat hi1.slLen (Goes.nat rfl (Goes.chk hchk (Goes.tv Z5.get (Goes.tvs he3 (Goes.chk rfl (Goes.tv hw2 ?_))))))))))))))))))
  -- behind that
  have hk2 : (m1.funcs.set k ⟨f1.params, f1.regs, f1.blocks.set j { b1 with ins := b1.ins.set 0 { u with dst := IntKind.i64.wrap (u.dst + 1) } }⟩)[k]? = some ⟨f1.params, f1.regs, f1.blocks.set j { b1 with ins := b1.ins.set 0 { u with dst := IntKind.i64.wrap (u.dst + 1) } }⟩ := by
    have := (List.getElem?_eq_some_iff.1 hk1).1; simp [this]
  have hj2 : (f1.blocks.set j { b1 with ins := b1.ins.set 0 { u with dst := IntKind.i64.wrap (u.dst + 1) } })[j]? = some { b1 with ins := b1.ins.set 0 { u with dst := IntKind.i64.wrap (u.dst + 1) } } := by
    have := (List.getElem?_eq_some_iff.1 hj1).1; simp [this]
  obtain ⟨y2, c2, i2, g2, hq1, hq2, _, hy2, hc2, hd2, hi2, hg2, ho2, Z2⟩ := open2 hR2 hk2 hj2
  have Z25 := Z2.step hy2 hq2 (j := 5) rfl (Q := RL (some true) 7 (RIns (some true))) (fun is => { b1 with ins := is }) fun z' c' hq => ⟨c2, z', g2, rfl, hc2, hd2, hq, hg2, ho2⟩
  have hxi2 : (b1.ins.set 0 { u with dst := IntKind.i64.wrap (u.dst + 1) })[0]? = some { u with dst := IntKind.i64.wrap (u.dst + 1) } := by simp [hposi]
  obtain ⟨e4, he4, hr4⟩ := hi2.pel hxi2
  obtain ⟨v2, rfl, hv2, hok4⟩ := hr4
  have Z256 := Z25.step hi2 he4 (j := 6) rfl (Q := RInts (some true)) (fun xs => { op := u.op, dst := IntKind.i64.wrap (u.dst + 1), a := u.a, b := u.b, k := u.k, f := u.f, args := xs }) fun z' c' hq => ⟨z', rfl, hq, hok4⟩
  have hlen2 : (b1.ins.set 0 { u with dst := IntKind.i64.wrap (u.dst + 1) }).length = b1.ins.length := by simp
  have hchk2 : (slSize i2 7 && Nat.blt 0 (b1.ins.set 0 { u with dst := IntKind.i64.wrap (u.dst + 1) }).length) = true := by rw [hlen2, hlti, hi2.slSize]; rfl
  refine Goes.tv Z2.get (Goes.tvs hq2 (Goes.chk (by simp [fitsAt, zSl, isSlV, hi2.isSl]) (Goes.tv Z25.get (Goes.nat hi2.slLen (Goes.nat rfl (Goes.chk hchk2 (Goes.tv Z25.get (Goes.tvs he4 (Goes.chk (by simp [fitsAt, zSl, isSlV, hv2.isSl]) (Goes.tv Z256.get (Goes.tv hv2.len (Goes.tv rfl (Goes.ite rfl (fun h => ?_) fun h => Goes.jmp (f3_0_R _ _ _ _ _) (r4_0 hm' hD2 hcopy'))))))))))))))
  have hposa : 0 < u.args.length := by simp at h; omega
  have hxa : u.args[0]? = some u.args[0] := List.getElem?_eq_getElem hposa
  obtain ⟨e5, he5, hr5⟩ := hv2.pel hxa
  obtain ⟨rfl, hin⟩ := hr5
  have hlta : Nat.blt 0 u.args.length = true := by simpa using hposa
  have hchka : (slSize v2 1 && Nat.blt 0 u.args.length) = true := by rw [hlta, hv2.slSize]; rfl
  obtain ⟨w3, hw3, hR3⟩ := Z256.store hv2 he5 (d := 0) (ys := [I (IntKind.i64.wrap (u.args[0] + 1))]) (a := IntKind.i64.wrap (u.args[0] + 1)) ⟨rfl, wrap_in _⟩
  have hD3 : Done m k j w3 := Done.of (bs := []) hR3 hk2 hj2 hk0 hj0 hne1
  refine Goes.tv Z2.get (Goes.tvs hq2 (Goes.chk (by simp [fitsAt, zSl, isSlV, hi2.isSl]) (Goes.tv Z25.get (Goes.nat hi2.slLen (Goes.nat rfl (Goes.chk hchk2 (Goes.tv Z25.get (Goes.tvs he4 (Goes.chk (by simp [fitsAt, zSl, isSlV, hv2.isSl]) (Goes.tv Z256.get (Goes.nat hv2.slLen (Goes.nat rfl (Goes.chk hchka ?_)))))))))))))
  refine Goes.tv Z256.get (Goes.tvs he5 (Goes.chk rfl (Goes.tv rfl (Goes.tv Z256.get (Goes.nat hv2.slLen (Goes.nat rfl (Goes.chk hchka (Goes.tv Z256.get (Goes.tvs he5 (Goes.chk rfl (Goes.tv hw3 ?_)))))))))))
  exact Goes.jmp (f3_0_R _ _ _ _ _) (r4_0 hm' hD3 hcopy')
end Go.Ab.H6

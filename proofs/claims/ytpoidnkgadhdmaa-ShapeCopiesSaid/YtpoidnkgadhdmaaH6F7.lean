
/- What the functions of layer 2 answer: copies of modules. No condition. -/
import Derived.Test.YtpoidnkgadhdmaaH6F6
set_option linter.unusedVariables false
set_option maxRecDepth 10000
namespace Go.Ab.H6
open Go Go.Ab Go.Proofs
/-- shape.Copy -/
theorem r16 {e : List TV} {m : DMod} (he : RMod (some false) e m) (hs : shortM m) : ∃ e', Runs prog 14 [.agg e] (.agg e') ∧ RMod (some true) e' m := by
  obtain ⟨x, rfl, hx⟩ := he
  obtain ⟨hs1, hs2⟩ := hs
  obtain ⟨x', h26, hx'⟩ := r26 hx (by omega)
  have outer : ∀ d k w, k + d = m.funcs.length → RP 3 (fun j e f => RFunc (if j < k then some true else some false) e f) w m.funcs → ∃ w', Goes prog 14 (f14_0 (I m.funcs.length) (I k) w) (.agg [w']) ∧ RL (some true) 3 (RFunc (some true)) w' m.funcs := by
    intro d
    induction d with
    | zero =>
      intro k w hk hw
      have hk : k = m.funcs.length := by omega
      subst hk
      have hw' : RL (some true) 3 (RFunc (some true)) w m.funcs := hw.toRL fun i e a hi h => by simpa [hi] using h
      refine ⟨w, ?_, hw'⟩
      unfold f14_0
      refine Goes.tv rfl (Goes.ite asB_end (fun h => nomatch h) fun _ => ?_)
      exact Goes.chk (by simp [isOwn, isOwnL, hw'.own fun _ _ h => h.own]) Goes.ret
    | succ d ih =>
      intro k w hk hw
      have hkb : k < m.funcs.length := by omega
      have ha : m.funcs[k]? = some m.funcs[k] := List.getElem?_eq_getElem hkb
      obtain ⟨e, he, hr, hget, hset⟩ := hw.row ha
      simp only [Nat.lt_irrefl, if_false] at hr
      obtain ⟨hsf1, hsf2⟩ := hs2 k hkb _ ha
      generalize hu : m.funcs[k] = f at *
      obtain ⟨v, rfl, hv, hok⟩ := hr
      obtain ⟨v', h27, hv'⟩ := r27 hv (by omega)
      have hbk : (k : Nat) ≤ 9223372036854775807 := by omega
      have hlt : (Nat.blt k m.funcs.length) = true := by simpa using hkb
      have inner : ∀ d j y, j + d = f.blocks.length → RP 14 (fun t e b => RBlock (if t < j then some true else some false) e b) y f.blocks → ∃ w', Goes prog 14 (f14_1 (I k) (I m.funcs.length) (I k) (I f.blocks.length) (I j) w y) (.agg [w']) ∧ RL (some true) 3 (RFunc (some true)) w' m.funcs := by
        intro d
        induction d with
        | zero =>
          intro j y hj hy
          have hj : j = f.blocks.length := by omega
          subst hj
          have hy' : RL (some true) 14 (RBlock (some true)) y f.blocks := hy.toRL fun i e a hi h => by simpa [hi] using h
          have hw2 := hw.set (S := fun j e x => RFunc (if j < k + 1 then some true else some false) e x) ha (e := [I f.params, I f.regs, y]) (by simp; exact ⟨y, rfl, hy', hok⟩) (fun j e c hj h => by
            by_cases hjk : j < k
            · simpa [hjk, show j < k + 1 by omega] using h
            · simpa [hjk, show ¬ j < k + 1 by omega] using h)
          obtain ⟨w', hw', hrl⟩ := ih (k + 1) _ (by omega) hw2
          refine ⟨w', ?_, hrl⟩
          unfold f14_1
          refine Goes.tv rfl (Goes.ite asB_end (fun h => nomatch h) fun _ => ?_)
          refine Goes.jmp (f14_2_R _ _ _ _ _) ?_
          unfold f14_2
          refine Goes.nat hw.slLen (Goes.nat (asNat_nat hbk) (Goes.chk (by rw [hw.slSize, hlt]; rfl) (Goes.tvs he (Goes.chk (by simp [fitsAt, zSl, isSlV, hv.isSl, hy'.isSl]) (Goes.tv (hset 2 [y]) (Goes.tv (inc hkb hx.bnd) (Goes.jmp (f14_0_R _ _ _) hw')))))))
        | succ d ihi =>
          intro j y hj hy
          have hjb : j < f.blocks.length := by omega
          have hab : f.blocks[j]? = some f.blocks[j] := List.getElem?_eq_getElem hjb
          obtain ⟨e2, he2, hr2, hget2, hset2⟩ := hy.row hab
          simp only [Nat.lt_irrefl, if_false] at hr2
          have hsb := hsf2 j hjb _ hab
          generalize f.blocks[j] = b at *
          obtain ⟨e3, h28, hr3⟩ := r28 hr2.frz hsb
          obtain ⟨c, i, g, rfl, hc, hd, hi, hg, ho⟩ := hr2
          have hr4 := hr3
          obtain ⟨c', i', g', rfl, hc', hd', hi', hg', ho'⟩ := hr3
          have hy2 := hy.set (S := fun t e b => RBlock (if t < j + 1 then some true else some false) e b) hab (e := [B b.landing, I b.pad.dst, c', B b.pad.all, B b.pad.cleanup, i', I b.fin.kind, I b.fin.a, I b.fin.dst, I b.fin.f, g', I b.fin.to, I b.fin.els, I b.fin.pad]) (by simp; exact hr4) (fun t e c ht h => by
            by_cases htj : t < j
            · simpa [htj, show t < j + 1 by omega] using h
            · simpa [htj, show ¬ t < j + 1 by omega] using h)
          obtain ⟨w', hw', hrl⟩ := ihi (j + 1) _ (by omega) hy2
          refine ⟨w', ?_, hrl⟩
          have hltb : (Nat.blt j f.blocks.length) = true := by simpa using hjb
          have hf1 : fitsAt zBlock [B b.landing, I b.pad.dst, c, B b.pad.all, B b.pad.cleanup, i, I b.fin.kind, I b.fin.a, I b.fin.dst, I b.fin.f, g, I b.fin.to, I b.fin.els, I b.fin.pad] 0 = true := by
            simp [fitsAt, zBlock, isSlV, TV.isSc, scV, hc.isSl, hi.isSl, hg.isSl]
          have hf2 : fitsAt zBlock [B b.landing, I b.pad.dst, c', B b.pad.all, B b.pad.cleanup, i', I b.fin.kind, I b.fin.a, I b.fin.dst, I b.fin.f, g', I b.fin.to, I b.fin.els, I b.fin.pad] 0 = true := by
            simp [fitsAt, zBlock, isSlV, TV.isSc, scV, hc'.isSl, hi'.isSl, hg'.isSl]
          unfold f14_1
          refine Goes.tv rfl (Goes.ite (asB_lt hjb) (fun _ => ?_) fun h => nomatch h)
          refine Goes.nat hy.slLen (Goes.nat (asNat_nat (by omega)) (Goes.chk (by rw [hy.slSize, hltb]; rfl) (Goes.tvs he2 (Goes.chk hf1 (Goes.tv (hget2 2 c rfl) (Goes.tv (hget2 5 i rfl) (Goes.tv (hget2 10 g rfl) (Goes.call h28 (Goes.chk hf2 ?_)))))))))
          refine Goes.nat hy.slLen (Goes.nat (asNat_nat (by omega)) (Goes.chk (by rw [hy.slSize, hltb]; rfl) (Goes.tvs he2 (Goes.chk (by rw [hf1]; exact hf2) (Goes.tv (hset2 0 _) (Goes.tv (inc hjb (by omega)) (Goes.jmp (f14_1_R _ _ _ _ _ _ _) hw')))))))
      obtain ⟨w', hw', hrl⟩ := inner f.blocks.length 0 v' (by omega) (hv'.toRP fun i e a h => by simpa using h)
      refine ⟨w', ?_, hrl⟩
      unfold f14_0
      refine Goes.tv rfl (Goes.ite (asB_lt hkb) (fun _ => ?_) fun h => nomatch h)
      refine Goes.nat hw.slLen (Goes.nat (asNat_nat hbk) (Goes.chk (by rw [hw.slSize, hlt]; rfl) (Goes.tvs he (Goes.chk (by simp [fitsAt, zSl, isSlV, hv.isSl]) (Goes.tv (hget 2 v rfl) (Goes.chk hv.isFr (Goes.call h27 (Goes.chk (by simp [fitsAt, zSl, isSlV, hv'.isSl]) (Goes.tv hv'.len (Goes.jmp (f14_1_R _ _ _ _ _ _ _) hw'))))))))))
  obtain ⟨w', hw', hrl⟩ := outer m.funcs.length 0 x' (by omega) (hx'.toRP fun i e a h => by simpa using h)
  refine ⟨_, ?_, ⟨w', rfl, hrl⟩⟩
  refine Runs.of (f14_MR _) ?_
  unfold f14_M
  exact Goes.chk rfl (Goes.call h26 (Goes.chk (by simp [fitsAt, zSl, isSlV, hx'.isSl]) (Goes.tv hx'.len (Goes.jmp (f14_0_R _ _ _) hw'))))
end Go.Ab.H6

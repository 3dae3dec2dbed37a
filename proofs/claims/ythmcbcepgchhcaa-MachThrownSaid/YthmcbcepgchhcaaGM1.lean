import Derived.Test.YthmcbcepgchhcaaGG7F59
import Derived.Test.YthmcbcepgchhcaaGZ
import Derived.Below
import Derived.Orders
import Derived.Laws.Cells
import Derived.Laws.OwnMore
import Derived.Laws.CopyOwn
import Derived.Maps.AppendAt
import Derived.Lib.FrozenHead
section
set_option linter.unusedVariables false
set_option linter.unusedSimpArgs false
set_option maxRecDepth 10000
namespace Go.Ab
theorem RMod.frz' {q : Option Bool} {y : TV} {m : DMod} (h : RMod q [y] m) : RMod (some false) [Go.Ab.frz y] m := by
 obtain ⟨y', h, h'⟩ := h
 cases h
 exact ⟨_, rfl, h'.frz (S := RFunc (some false)) fun _ _ h => h.frz⟩
end Go.Ab
namespace Go.Ab.G7
open Go Go.Ab Go.Proofs
theorem pThrow {m : DMod} {s : DMach} {f : DFrame} {u : DFunc} {b : DBlock} {y g i v : TV} (hm : RMod (some false) [y] m) (hM : modP m) (hg : RStack g s.stack) (hi : RWords (some true) i s.inputs) (hv : RInts (some true) v s.events) (ho : s.ok) (hQ : machQ m s)
  (ht : topT s = some f) (hf0 : 0 ≤ f.f) (hu : m.funcs[f.f.toNat]? = some u) (hb0 : 0 ≤ f.block) (hb : u.blocks[f.block.toNat]? = some b) (ha0 : 0 ≤ f.at_) (hat : f.at_ = b.ins.length) (hE : endP m.funcs f.regs.length u.blocks b.fin) (h5 : b.fin.kind = 5) :
  ∃ r, Goes prog 36 (f36_0 (s.stack.length - 1) (W (s.c 0)) (W (s.c 1)) (W (s.c 2)) (W (s.c 3)) (W (s.c 4)) (W (s.c 5)) (W (s.c 6)) (W (s.c 7)) (W (s.c 8)) (W (s.c 9)) (W (s.c 10)) (W (s.c 11)) (W (s.c 12)) (W (s.c 13)) (W (s.c 14)) (W (s.c 15)) (I s.done) (W s.value) y g TV.hole TV.hole TV.hole TV.hole TV.hole TV.hole TV.hole TV.hole TV.hole TV.hole TV.hole TV.hole TV.hole TV.hole TV.hole TV.hole i v TV.hole TV.hole y) r ∧ MachOut (thrownT m s (reg f b.fin.a)) y r := by
 have h0 : 0 < s.stack.length := by
  have := (List.getElem?_eq_some_iff.1 ht).1
  omega
 have h32 := hQ.2.1
 have hyr : RL (some false) 3 (RFunc (some false)) y m.funcs := by
  obtain ⟨y', h, h'⟩ := hm
  cases h
  exact h'
 obtain ⟨gr, he, hget, hgr, hof⟩ := hg.row ht
 have hfit := fit_row (a := f.f) (b := f.block) (c := f.at_) (d := f.fly) hgr.isSl
 have hfs := fit_sl (a := f.f) (b := f.block) (c := f.at_) (d := f.fly) hgr.isSl
 obtain ⟨eu, heu, hru⟩ := hyr.idxI (k := .i64) hf0 hu
 obtain ⟨bs, rfl, hbs, _⟩ := hru
 obtain ⟨eb, heb, hrb⟩ := hbs.idxI (k := .i64) hb0 hb
 obtain ⟨c, is, ga, rfl, hc, hdi, his, hga, hfo⟩ := hrb
 have hpa := hE.2.1
 rw [h5] at hpa
 have hA : within b.fin.a f.regs.length := hpa.1 rfl
 obtain ⟨a, ha, hal⟩ := within_at hA
 obtain ⟨pe, hpe, rfl, haw⟩ := hgr.pel ha
 have hra : reg f b.fin.a = a := getD_at ha
 have hla := blt_and hgr.slSize hal
 rw [hra]
 have hlen := RL.len (t := 47) hg
 have hcw := sz_win hg.slSize (show s.stack.length - 1 ≤ s.stack.length by omega)
 obtain ⟨gw, hgw, hrw⟩ := hg.win (n := s.stack.length - 1) (by omega)
 have htl : (s.stack.take (s.stack.length - 1)).length = s.stack.length - 1 := by simp
 have hlw := RL.len (t := 47) hrw
 rw [htl] at hlw
 obtain ⟨r, hr, hout⟩ := pCaught4 (y := y) (m := m) hyr hM hg hi hv ho haw hQ h0 (s.stack.length - 1) 0 (by omega) (fun j hj => by omega)
 refine ⟨r, ?_, hout⟩
 unfold f36_0
 have hblk := rBlk (c := I f.at_) (z := TV.lf (Go.Ab.frz gr)) (d := W f.fly) heu rfl rfl heb
 refine Goes.tvs he (Goes.chk hfit (Goes.tv hget (Goes.call hblk (Goes.chk rfl (Goes.tvs he (Goes.chk rfl (Goes.tv (RL.len his) (Goes.tv rfl (Goes.ite rfl (fun h => ?_) fun _ => ?_)))))))))
 ·simp [nth] at h; omega
 refine Goes.tv rfl (Goes.ite rfl (fun h => ?_) fun _ => ?_)
 ·simp [nth] at h; omega
 refine Goes.tv rfl (Goes.ite rfl (fun h => ?_) fun _ => ?_)
 ·simp [nth] at h; omega
 refine Goes.tv rfl (Goes.ite rfl (fun h => ?_) fun _ => ?_)
 ·simp [nth] at h; omega
 refine Goes.tv rfl (Goes.ite rfl (fun h => ?_) fun _ => ?_)
 ·simp [nth] at h; omega
 refine Goes.tv rfl (Goes.ite rfl (fun _ => ?_) fun h => ?_)
 rotate_left
 ·simp [nth] at h; omega
 refine Goes.tvs he (Goes.chk hfs (Goes.tv hget (Goes.nat hgr.slLen (Goes.nat (asNat_in hA.1 hfo.2.1) (Goes.chk hla (Goes.tv hget (Goes.tvs hpe (Goes.chk rfl ?_))))))))
 exact Goes.tv hlen (Goes.tv (dec h0 (by omega)) (Goes.nat hg.slLen (Goes.nat (asNat_of (by omega)) (Goes.chk hcw (Goes.tv hgw (Goes.tv hlw (f36_4_J hr)))))))
theorem pResume {m : DMod} {s : DMach} {f : DFrame} {u : DFunc} {b : DBlock} {y g i v : TV} (hm : RMod (some false) [y] m) (hM : modP m) (hg : RStack g s.stack) (hi : RWords (some true) i s.inputs) (hv : RInts (some true) v s.events) (ho : s.ok) (hQ : machQ m s)
  (ht : topT s = some f) (hf0 : 0 ≤ f.f) (hu : m.funcs[f.f.toNat]? = some u) (hb0 : 0 ≤ f.block) (hb : u.blocks[f.block.toNat]? = some b) (ha0 : 0 ≤ f.at_) (hat : f.at_ = b.ins.length) (h6 : b.fin.kind = 6) :
  ∃ r, Goes prog 36 (f36_0 (s.stack.length - 1) (W (s.c 0)) (W (s.c 1)) (W (s.c 2)) (W (s.c 3)) (W (s.c 4)) (W (s.c 5)) (W (s.c 6)) (W (s.c 7)) (W (s.c 8)) (W (s.c 9)) (W (s.c 10)) (W (s.c 11)) (W (s.c 12)) (W (s.c 13)) (W (s.c 14)) (W (s.c 15)) (I s.done) (W s.value) y g TV.hole TV.hole TV.hole TV.hole TV.hole TV.hole TV.hole TV.hole TV.hole TV.hole TV.hole TV.hole TV.hole TV.hole TV.hole TV.hole i v TV.hole TV.hole y) r ∧ MachOut (thrownT m s f.fly) y r := by
 have h0 : 0 < s.stack.length := by
  have := (List.getElem?_eq_some_iff.1 ht).1
  omega
 have h32 := hQ.2.1
 have hyr : RL (some false) 3 (RFunc (some false)) y m.funcs := by
  obtain ⟨y', h, h'⟩ := hm
  cases h
  exact h'
 obtain ⟨gr, he, hget, hgr, hof⟩ := hg.row ht
 have hfit := fit_row (a := f.f) (b := f.block) (c := f.at_) (d := f.fly) hgr.isSl
 obtain ⟨eu, heu, hru⟩ := hyr.idxI (k := .i64) hf0 hu
 obtain ⟨bs, rfl, hbs, _⟩ := hru
 obtain ⟨eb, heb, hrb⟩ := hbs.idxI (k := .i64) hb0 hb
 obtain ⟨c, is, ga, rfl, hc, hdi, his, hga, hfo⟩ := hrb
 have hlen := RL.len (t := 47) hg
 have hcw := sz_win hg.slSize (show s.stack.length - 1 ≤ s.stack.length by omega)
 obtain ⟨gw, hgw, hrw⟩ := hg.win (n := s.stack.length - 1) (by omega)
 have htl : (s.stack.take (s.stack.length - 1)).length = s.stack.length - 1 := by simp
 have hlw := RL.len (t := 47) hrw
 rw [htl] at hlw
 obtain ⟨r, hr, hout⟩ := pCaught5 (y := y) (m := m) hyr hM hg hi hv ho hof.2.2.2 hQ h0 (s.stack.length - 1) 0 (by omega) (fun j hj => by omega)
 refine ⟨r, ?_, hout⟩
 unfold f36_0
 have hblk := rBlk (c := I f.at_) (z := TV.lf (Go.Ab.frz gr)) (d := W f.fly) heu rfl rfl heb
 refine Goes.tvs he (Goes.chk hfit (Goes.tv hget (Goes.call hblk (Goes.chk rfl (Goes.tvs he (Goes.chk rfl (Goes.tv (RL.len his) (Goes.tv rfl (Goes.ite rfl (fun h => ?_) fun _ => ?_)))))))))
 ·simp [nth] at h; omega
 refine Goes.tv rfl (Goes.ite rfl (fun h => ?_) fun _ => ?_)
 ·simp [nth] at h; omega
 refine Goes.tv rfl (Goes.ite rfl (fun h => ?_) fun _ => ?_)
 ·simp [nth] at h; omega
 refine Goes.tv rfl (Goes.ite rfl (fun h => ?_) fun _ => ?_)
 ·simp [nth] at h; omega
 refine Goes.tv rfl (Goes.ite rfl (fun h => ?_) fun _ => ?_)
 ·simp [nth] at h; omega
 refine Goes.tv rfl (Goes.ite rfl (fun h => ?_) fun _ => ?_)
 ·simp [nth] at h; omega
 refine Goes.tv rfl (Goes.ite rfl (fun _ => ?_) fun h => ?_)
 rotate_left
 ·simp [nth] at h; omega
 refine Goes.tvs he (Goes.chk rfl ?_)
 exact Goes.tv hlen (Goes.tv (dec h0 (by omega)) (Goes.nat hg.slLen (Goes.nat (asNat_of (by omega)) (Goes.chk hcw (Goes.tv hgw (Goes.tv hlw (f36_5_J hr)))))))
theorem rMachStep {q : Option Bool} {m : DMod} {s : DMach} {y g i v : TV} (hm : RMod q [y] m) (hM : modP m) (hg : RStack g s.stack) (hi : RWords (some true) i s.inputs) (hv : RInts (some true) v s.events) (ho : s.ok) (hQ : machQ m s) (hd : s.done = 0) (hel : s.events.length + 1 ≤ 4294967296) :
    ∃ r, Runs prog 36 [.tup (machCells s g i v ++ [y])] r ∧ MachOut (stepT m s) (Go.Ab.frz y) r := by
  have hys : y.isSl = true := by
    obtain ⟨y', h, h'⟩ := hm
    cases h
    exact h'.isSl
  have hm := hm.frz'
  generalize hz : Go.Ab.frz y = z at hm
  have h32 := hQ.2.1
  have h0 := hQ.2.2.1 hd
  have hlen := RL.len (t := 47) hg
  obtain ⟨f, ht⟩ : ∃ f, s.stack[s.stack.length - 1]? = some f := ⟨_, List.getElem?_eq_getElem (by omega)⟩
  have ht' : topT s = some f := ht
  have hF := hQ.2.2.2.1 _ f ht
  have hrl := frame_len hM hF
  obtain ⟨hf0, u, hu, hLr, hb0, b, hb, ha0, ha1⟩ := hF
  have hbo : blockOf m f = some b := by simp [blockOf, hu, hb]
  have main : ∃ r, Goes prog 36 (f36_0 (s.stack.length - 1) (W (s.c 0)) (W (s.c 1)) (W (s.c 2)) (W (s.c 3)) (W (s.c 4)) (W (s.c 5)) (W (s.c 6)) (W (s.c 7)) (W (s.c 8)) (W (s.c 9)) (W (s.c 10)) (W (s.c 11)) (W (s.c 12)) (W (s.c 13)) (W (s.c 14)) (W (s.c 15)) (I s.done) (W s.value) z g TV.hole TV.hole TV.hole TV.hole TV.hole TV.hole TV.hole TV.hole TV.hole TV.hole TV.hole TV.hole TV.hole TV.hole TV.hole TV.hole i v TV.hole TV.hole z) r ∧ MachOut (stepT m s) z r := by
    have hT : stepT m s = if f.at_ = b.ins.length then
        (if b.fin.kind = 1 then answeredT m s (reg f b.fin.a) else
         if b.fin.kind = 4 then calledT m s b.fin.f b.fin.args else
         if b.fin.kind = 5 then thrownT m s (reg f b.fin.a) else
         if b.fin.kind = 6 then thrownT m s f.fly else
         if b.fin.kind = 3 ∧ reg f b.fin.a = 0 then withT s { f with block := b.fin.els, at_ := 0 } else withT s { f with block := b.fin.to, at_ := 0 })
      else match b.ins[f.at_.toNat]? with
        | none => s
        | some x => insT m s f x := by
      unfold stepT
      rw [if_neg (by simp [hd]), ht']
      simp only
      rw [hbo]
      rfl
    rw [hT]
    by_cases hat : f.at_ = (b.ins.length : Int)
    · rw [if_pos hat]
      have hE := mod_end hM hu hb
      rw [← hLr] at hE
      have hk := usesE_of hE.1
      by_cases h1 : b.fin.kind = 1
      · rw [if_pos h1]
        exact pAnswer hm hM hg hi hv ho hQ ht' hf0 hu hb0 hb ha0 hat hE h1
      rw [if_neg h1]
      by_cases h4 : b.fin.kind = 4
      · rw [if_pos h4]
        exact pInvoke hm hM hg hi hv ho ht' hf0 hu hb0 hb ha0 hat hE h4
      rw [if_neg h4]
      by_cases h5 : b.fin.kind = 5
      · rw [if_pos h5]
        exact pThrow hm hM hg hi hv ho hQ ht' hf0 hu hb0 hb ha0 hat hE h5
      rw [if_neg h5]
      by_cases h6 : b.fin.kind = 6
      · rw [if_pos h6]
        exact pResume hm hM hg hi hv ho hQ ht' hf0 hu hb0 hb ha0 hat h6
      rw [if_neg h6]
      exact pGo hm hM hg hi hv ho ht' hf0 hu hb0 hb ha0 hat hrl hE (by omega)
    · rw [if_neg hat]
      obtain ⟨x, hx⟩ : ∃ x, b.ins[f.at_.toNat]? = some x := ⟨_, List.getElem?_eq_getElem (by omega)⟩
      have hI := mod_ins hM hu hb hx
      rw [← hLr] at hI
      rw [hx]
      simp only
      by_cases h11 : x.op = 11
      · exact pCall hm hM hg hi hv ho ht' hf0 hu hb0 hb ha0 hx hI h11
      by_cases h8 : x.op ≤ 8
      · exact pReckon hm hM hg hi hv ho ht' hf0 hu hb0 hb ha0 hx hI h8 hrl
      by_cases h9 : x.op = 9
      · exact pLoad hm hM hg hi hv ho ht' hf0 hu hb0 hb ha0 hx hI h9
      by_cases h10 : x.op = 10
      · exact pStore hm hM hg hi hv ho ht' hf0 hu hb0 hb ha0 hx hI h10
      by_cases h12 : x.op = 12
      · exact pOut hm hM hg hi hv ho ht' hf0 hu hb0 hb ha0 hx hI h12 hel
      have h13 : x.op = 13 := by
        have := uses_of hI.1
        omega
      exact pIn hm hM hg hi hv ho ht' hf0 hu hb0 hb ha0 hx hI h13 hel
  obtain ⟨r, hr, hout⟩ := main
  refine ⟨r, ?_, hout⟩
  refine Runs.of (f36_MR _ _ _ _ _ _ _ _ _ _ _ _ _ _ _ _ _ _ _ _ _ _) ?_
  unfold f36_M
  rw [hz]
  refine Goes.chk ?_ (Goes.tv hlen (Goes.tv (dec h0 (by omega)) (Goes.nat hg.slLen (Goes.nat (asNat_of (by omega)) (Goes.chk (sz_and hg.slSize (by omega)) (f36_0_J hr))))))
  simp [hg.isSl, hi.isSl, hv.isSl, hys, TV.isSc, scV]
end Go.Ab.G7
end
section
set_option linter.unusedVariables false
set_option linter.unusedSimpArgs false
set_option maxRecDepth 10000
namespace Go.Ab
def noMach : DMach := ⟨[], List.replicate 16 0, [], [], 0, 0⟩
theorem noMach_c (k : Nat) : noMach.c k = 0 := by
 simp only [DMach.c, noMach, List.getD, List.getElem?_replicate]
 split <;> rfl
def noCells : List TV := [.lit nilV, W 0, W 0, W 0, W 0, W 0, W 0, W 0, W 0, W 0, W 0, W 0, W 0, W 0, W 0, W 0, W 0, .lit nilV, .lit nilV, I 0, W 0]
theorem noMach_own : RMachO noCells noMach :=
 ⟨.lit nilV, .lit nilV, .lit nilV, by simp only [noCells, machCells, noMach_c]; rfl, RL.nil, RL.nil, RL.nil, by simp [noMach], fun k => by rw [noMach_c]; exact inW0, in0, inW0⟩
theorem RMachO.fit {e : List TV} {s : DMach} (h : RMachO e s) : (Bool.and ((TV.agg e).isAgg 21) (fitsAt zMach ((TV.agg e).cellsL true) 0)) = true := by
 obtain ⟨g, i, v, rfl, hg, hi, hv, ho⟩ := h
 exact fit_mach hg.isSl hi.isSl hv.isSl
end Go.Ab
namespace Go.Ab.G7
open Go Go.Ab Go.Proofs
theorem machO_own {e : List TV} {s : DMach} (h : RMachO e s) : isOwn (.agg e) = true := by
 obtain ⟨g, i, v, rfl, hg, hi, hv, ho⟩ := h
 exact own_mach (hg.own fun _ _ h => h.own) (hi.own fun _ _ h => h.own) (hv.own fun _ _ h => h.own)
theorem machO_own2 {e : List TV} {s : DMach} {n : Int} (h : RMachO e s) : isOwnL [.agg e, I n] = true := by
 have := machO_own h
 simp only [isOwnL, this, Bool.true_and]
 rfl
open Classical in
theorem rMachNew {q q' : Option Bool} {e : List TV} {x : TV} {m : DMod} {inputs : List Int} (hm : RMod q e m) (hx : RWords q' x inputs) (hl : inputs.length ≤ 4294967296) :
  ∃ e2, Runs prog 35 [.agg e, x] (.tup [.agg e2, I (if modP m then 0 else 1)]) ∧ RMachO e2 (if modP m then newM m inputs else noMach) := by
 obtain ⟨e1, hr1, h1⟩ := rNew (n := 0) (args := []) hm in0 (RL.nil : RWords none (.lit nilV) [])
 obtain ⟨i2, hri, hi2⟩ := r39 hx hl
 obtain ⟨y, rfl, hy⟩ := hm
 by_cases hM : modP m
 ·rw [if_pos hM, if_pos hM]
  have hD : newD m 0 [] = newT m 0 [] := by
   unfold newD
   rw [tt_true hM]
   rfl
  obtain ⟨_, ⟨u, hu, hp⟩, _⟩ := id hM
  obtain ⟨hf, hN⟩ := new_frame (n := 0) (args := []) hM (Int.le_refl 0) hu (by simp [hp])
  have hE : errOf (newD m 0 []) = 0 := by
   rw [hD]
   cases h : newT m 0 [] with
   | none => simp [newT, hu, hp] at h
   | some f => rfl
  rw [hE] at hr1
  rw [hD] at h1
  have h1' := h1
  generalize hF : (newT m 0 []).getD noFrame = f2 at h1 h1'
  obtain ⟨yn, rfl, hyn, hof⟩ := h1
  have hout : RMachO (machCells (newM m inputs) (.sl true 5 [[I f2.f, I f2.block, I f2.at_, yn, W f2.fly]]) i2 (.lit nilV)) (newM m inputs) := by
   refine ⟨_, _, _, rfl, ?_, hi2, RL.nil, by simp [newM], fun k => by rw [newM_c]; exact inW0, in0, inW0⟩
   show RL (some true) 5 (RFrame (some true)) _ [(newT m 0 []).getD noFrame]
   rw [hF]
   exact .sl (by simp) (.cons h1' .nil) (by simp)
  refine ⟨_, ?_, hout⟩
  have ho2 := machO_own2 (n := 0) hout
  simp only [machCells, newM_c] at ho2 ⊢
  refine Runs.of (f35_MR _ _) ?_
  unfold f35_M
  refine Goes.chk rfl (Goes.call hr1 (Goes.chk rfl (Goes.chk (fit_frame hyn.isSl) (Goes.chk rfl (Goes.tv rfl (Goes.ite rfl (fun h => nomatch h) fun _ => Goes.call hri (Goes.chk ?_ (Goes.chk ho2 Goes.ret))))))))
  simp [fitsAt, zSl, isSlV, hi2.isSl]
 ·rw [if_neg hM, if_neg hM]
  have hD : newD m 0 [] = none := by
   unfold newD
   rw [tt_false hM]
   rfl
  rw [hD] at hr1 h1
  obtain ⟨yn, rfl, hyn, hof⟩ := h1
  refine ⟨noCells, ?_, noMach_own⟩
  refine Runs.of (f35_MR _ _) ?_
  unfold f35_M
  exact Goes.chk rfl (Goes.call hr1 (Goes.chk rfl (Goes.chk (fit_frame hyn.isSl) (Goes.chk rfl (Goes.tv rfl (Goes.ite rfl (fun _ => Goes.chk rfl Goes.ret) fun h => nomatch h))))))
theorem rMachLoop {m : DMod} (hM : modP m) : ∀ (n : Nat) (q : Option Bool) (s : DMach) (y g i v : TV), RMod q [y] m → RStack g s.stack → RWords (some true) i s.inputs → RInts (some true) v s.events → s.ok → machQ m s → s.events.length + n ≤ 4294967296 →
  ∃ e2, Goes prog 13 (f13_0 (I (n : Int)) (W (s.c 0)) (W (s.c 1)) (W (s.c 2)) (W (s.c 3)) (W (s.c 4)) (W (s.c 5)) (W (s.c 6)) (W (s.c 7)) (W (s.c 8)) (W (s.c 9)) (W (s.c 10)) (W (s.c 11)) (W (s.c 12)) (W (s.c 13)) (W (s.c 14)) (W (s.c 15)) (I s.done) (W s.value) g TV.hole TV.hole TV.hole TV.hole TV.hole TV.hole TV.hole TV.hole TV.hole TV.hole TV.hole TV.hole TV.hole TV.hole TV.hole TV.hole i v TV.hole TV.hole TV.hole y) (.tup [.agg e2, I 0]) ∧ RMachO e2 (runT m s n) := by
 intro n
 have stop : ∀ (s : DMach) (g i v y : TV), RStack g s.stack → RWords (some true) i s.inputs → RInts (some true) v s.events → s.ok → Goes prog 13 (f13_1 (W (s.c 0)) (W (s.c 1)) (W (s.c 2)) (W (s.c 3)) (W (s.c 4)) (W (s.c 5)) (W (s.c 6)) (W (s.c 7)) (W (s.c 8)) (W (s.c 9)) (W (s.c 10)) (W (s.c 11)) (W (s.c 12)) (W (s.c 13)) (W (s.c 14)) (W (s.c 15)) (I s.done) (W s.value) g TV.hole TV.hole TV.hole TV.hole TV.hole TV.hole TV.hole TV.hole TV.hole TV.hole TV.hole TV.hole TV.hole TV.hole TV.hole TV.hole i v TV.hole TV.hole TV.hole y) (.tup [.agg (machCells s g i v), I 0]) := by
  intro s g i v y hg hi hv ho
  unfold f13_1
  exact Goes.chk (machO_own2 ⟨g, i, v, rfl, hg, hi, hv, ho⟩) Goes.ret
 induction n with
 | zero =>
  intro q s y g i v hm hg hi hv ho hQ hel
  refine ⟨_, ?_, ⟨g, i, v, rfl, hg, hi, hv, ho⟩⟩
  unfold f13_0
  exact Goes.tv rfl (Goes.ite rfl (fun h => nomatch h) fun _ => f13_1_J (stop s g i v y hg hi hv ho))
 | succ n ih =>
  intro q s y g i v hm hg hi hv ho hQ hel
  by_cases hd : s.done = 0
  rotate_left
  ·have hT : runT m s (n + 1) = s := by simp [runT, hd]
   rw [hT]
   refine ⟨_, ?_, ⟨g, i, v, rfl, hg, hi, hv, ho⟩⟩
   unfold f13_0
   refine Goes.tv rfl (Goes.ite rfl (fun _ => ?_) fun h => ?_)
   ·refine Goes.tv rfl (Goes.ite rfl (fun h => ?_) fun _ => f13_1_J (stop s g i v y hg hi hv ho))
    simp at h; exact absurd h hd
   ·simp at h <;> omega
  have hT : runT m s (n + 1) = runT m (stepT m s) n := by simp [runT, hd]
  rw [hT]
  have hys : y.isSl = true := by
   obtain ⟨y', h, h'⟩ := id hm
   cases h
   exact h'.isSl
  obtain ⟨r, hr, hout⟩ := rMachStep hm hM hg hi hv ho hQ hd (by omega)
  have hQ2 := step_keeps hM hQ
  have hev : (stepT m s).events.length ≤ s.events.length + 1 := by
   rcases step_events (m := m) (s := s) with h | ⟨a, h⟩ <;> rw [h]
   ·omega
   ·simp
  generalize stepT m s = s2 at hout hQ2 hev
  obtain ⟨g2, i2, v2, rfl, hg2, hi2, hv2, ho2⟩ := hout
  have hm2 := hm.frz'
  have hys2 : (Go.Ab.frz y).isSl = true := by
   obtain ⟨y', h, h'⟩ := id hm2
   cases h
   exact h'.isSl
  obtain ⟨e2, hgo, h2⟩ := ih (some false) s2 (Go.Ab.frz y) g2 i2 v2 hm2 hg2 hi2 hv2 ho2 hQ2 (by omega)
  refine ⟨e2, ?_, h2⟩
  unfold f13_0
  refine Goes.tv rfl (Goes.ite rfl (fun _ => ?_) fun h => ?_)
  rotate_left
  ·simp at h <;> omega
  refine Goes.tv rfl (Goes.ite rfl (fun _ => ?_) fun h => ?_)
  rotate_left
  ·simp at h; exact absurd hd h
  have hdec : pbin (.int .i64) .sub (I ((n + 1 : Nat) : Int)) (I (1 : Int)) = some (I (n : Int)) := by
   have := dec (n := n + 1) (by omega) (by omega)
   simpa using this
  refine Goes.chk ?_ (Goes.call hr (Goes.chk ?_ (Goes.chk rfl (Goes.tv hdec (f13_0_J hgo)))))
  ·simp [hg.isSl, hi.isSl, hv.isSl, hys, TV.isSc, scV]
  ·simp [TV.isTup, TV.comp, nth, machCells, hg2.isSl, hi2.isSl, hv2.isSl, hys2, TV.isSc, scV]
open Classical in
theorem rMachRun {q q' : Option Bool} {e : List TV} {x : TV} {m : DMod} {inputs : List Int} {fuel : Int} (hm : RMod q e m) (hx : RWords q' x inputs) (hl : inputs.length ≤ 4294967296) :
  ∃ e2, Runs prog 13 [.agg e, x, I fuel] (.tup [.agg e2, I (if modP m ∧ fuel ≤ 1048576 then 0 else 1)]) ∧ RMachO e2 (if modP m ∧ fuel ≤ 1048576 then runT m (newM m inputs) fuel.toNat else noMach) := by
 obtain ⟨e1, hr1, h1⟩ := rMachNew hm hx hl
 have hm' := hm
 obtain ⟨y, rfl, hy⟩ := hm
 by_cases hM : modP m
 rotate_left
 ·rw [if_neg hM] at hr1 h1
  rw [if_neg (fun h => hM h.1), if_neg (fun h => hM h.1)]
  refine ⟨noCells, ?_, noMach_own⟩
  refine Runs.of (f13_MR _ _ _) ?_
  unfold f13_M
  exact Goes.chk rfl (Goes.call hr1 (Goes.chk rfl (Goes.chk h1.fit (Goes.chk rfl (Goes.tv rfl (Goes.ite rfl (fun _ => Goes.chk rfl Goes.ret) fun h => nomatch h))))))
 rw [if_pos hM] at hr1 h1
 by_cases hf : fuel ≤ 1048576
 rotate_left
 ·rw [if_neg (fun h => hf h.2), if_neg (fun h => hf h.2)]
  refine ⟨noCells, ?_, noMach_own⟩
  refine Runs.of (f13_MR _ _ _) ?_
  unfold f13_M
  refine Goes.chk rfl (Goes.call hr1 (Goes.chk rfl (Goes.chk h1.fit (Goes.chk rfl (Goes.tv rfl (Goes.ite rfl (fun h => nomatch h) fun _ => Goes.tv rfl (Goes.ite rfl (fun _ => Goes.chk rfl Goes.ret) fun h => ?_)))))))
  simp at h; omega
 rw [if_pos ⟨hM, hf⟩, if_pos ⟨hM, hf⟩]
 have hQ := newM_keeps (inputs := inputs) hM
 have hev : (newM m inputs).events.length = 0 := by simp [newM]
 have hfit := h1.fit
 have hs0 : ∀ s : DMach, fuel ≤ 0 → runT m s fuel.toNat = s := by
  intro s h
  have : fuel.toNat = 0 := by omega
  rw [this]
  rfl
 generalize newM m inputs = s at h1 hQ hev
 obtain ⟨g, i, v, rfl, hg, hi, hv, ho⟩ := h1
 have hgo : ∃ e2, Goes prog 13 (f13_0 (I fuel) (W (s.c 0)) (W (s.c 1)) (W (s.c 2)) (W (s.c 3)) (W (s.c 4)) (W (s.c 5)) (W (s.c 6)) (W (s.c 7)) (W (s.c 8)) (W (s.c 9)) (W (s.c 10)) (W (s.c 11)) (W (s.c 12)) (W (s.c 13)) (W (s.c 14)) (W (s.c 15)) (I s.done) (W s.value) g TV.hole TV.hole TV.hole TV.hole TV.hole TV.hole TV.hole TV.hole TV.hole TV.hole TV.hole TV.hole TV.hole TV.hole TV.hole TV.hole i v TV.hole TV.hole TV.hole y) (.tup [.agg e2, I 0]) ∧ RMachO e2 (runT m s fuel.toNat) := by
  by_cases h0 : 0 ≤ fuel
  ·have := rMachLoop hM fuel.toNat q s y g i v hm' hg hi hv ho hQ (by omega)
   rw [Int.toNat_of_nonneg h0] at this
   exact this
  ·refine ⟨_, ?_, by rw [hs0 s (by omega)]; exact ⟨g, i, v, rfl, hg, hi, hv, ho⟩⟩
   unfold f13_0
   refine Goes.tv rfl (Goes.ite rfl (fun h => ?_) fun _ => f13_1_J ?_)
   ·simp at h; omega
   ·unfold f13_1
    exact Goes.chk (machO_own2 ⟨g, i, v, rfl, hg, hi, hv, ho⟩) Goes.ret
 obtain ⟨e2, hgo, h2⟩ := hgo
 refine ⟨e2, ?_, h2⟩
 refine Runs.of (f13_MR _ _ _) ?_
 unfold f13_M
 refine Goes.chk rfl (Goes.call hr1 (Goes.chk rfl (Goes.chk hfit (Goes.chk rfl (Goes.tv rfl (Goes.ite rfl (fun h => nomatch h) fun _ => Goes.tv rfl (Goes.ite rfl (fun h => ?_) fun _ => Goes.chk hy.isSl (f13_0_J hgo))))))))
 simp at h; omega
theorem rMachStepOk {q : Option Bool} {e es : List TV} {m : DMod} {s : DMach} (hm : RMod q e m) (hM : modP m) (hs : RMach es s) (hQ : machQ m s) (h3 : s.inputs.length ≤ 4294967296) (h4 : s.events.length + 1 ≤ 4294967296) :
  ∃ e2, Runs prog 19 [.agg e, .agg es] (.tup [.agg e2, I 0]) ∧ RMachO e2 (stepT m s) := by
 have hrr := rMRight hm hs
 rw [tt_true ⟨hM, hQ⟩] at hrr
 obtain ⟨ec, hrc, hc⟩ := rMCopy hs (by have := hQ.2.1; omega) (fun k f hk => by have := frame_len hM (hQ.2.2.2.1 k f hk); omega) h3 (by omega)
 have hm' := hm
 obtain ⟨y, rfl, hy⟩ := hm
 obtain ⟨g0, i0, v0, rfl, _⟩ := hs
 have hfit := hc.fit
 obtain ⟨g, i, v, rfl, hg, hi, hv, ho⟩ := hc
 have fin : ∀ {s2 : DMach} {g2 i2 v2 y2 : TV}, RStack g2 s2.stack → RWords (some true) i2 s2.inputs → RInts (some true) v2 s2.events → s2.ok → Goes prog 19 (f19_0 (W (s2.c 0)) (W (s2.c 1)) (W (s2.c 2)) (W (s2.c 3)) (W (s2.c 4)) (W (s2.c 5)) (W (s2.c 6)) (W (s2.c 7)) (W (s2.c 8)) (W (s2.c 9)) (W (s2.c 10)) (W (s2.c 11)) (W (s2.c 12)) (W (s2.c 13)) (W (s2.c 14)) (W (s2.c 15)) (I s2.done) (W s2.value) g2 i2 v2 y2) (.tup [.agg (machCells s2 g2 i2 v2), I 0]) := by
  intro s2 g2 i2 v2 y2 hg2 hi2 hv2 ho2
  unfold f19_0
  exact Goes.chk (machO_own2 ⟨g2, i2, v2, rfl, hg2, hi2, hv2, ho2⟩) Goes.ret
 by_cases hd : s.done = 0
 ·obtain ⟨r, hr, hout⟩ := rMachStep hm' hM hg hi hv ho hQ hd h4
  generalize stepT m s = s2 at hout
  obtain ⟨g2, i2, v2, rfl, hg2, hi2, hv2, ho2⟩ := hout
  have hys2 : (Go.Ab.frz y).isSl = true := by
   obtain ⟨y', h, h'⟩ := hm'.frz'
   cases h
   exact h'.isSl
  refine ⟨_, ?_, ⟨g2, i2, v2, rfl, hg2, hi2, hv2, ho2⟩⟩
  refine Runs.of (f19_MR _ _) ?_
  unfold f19_M
  refine Goes.chk rfl (Goes.chk rfl (Goes.call hrr (Goes.chk rfl (Goes.tv rfl (Goes.ite rfl (fun h => nomatch h) fun _ => Goes.call hrc (Goes.chk hfit (Goes.tv rfl (Goes.ite rfl (fun _ => ?_) fun h => ?_))))))))
  rotate_left
  ·simp [TV.cell, nth, machCells] at h; exact absurd hd h
  refine Goes.chk ?_ (Goes.call hr (Goes.chk ?_ (Goes.chk rfl (f19_0_J (fin hg2 hi2 hv2 ho2)))))
  ·simp [TV.cell, nth, machCells, hg.isSl, hi.isSl, hv.isSl, hy.isSl, TV.isSc, scV]
  ·simp [TV.isTup, TV.comp, nth, machCells, hg2.isSl, hi2.isSl, hv2.isSl, hys2, TV.isSc, scV]
 ·have hT : stepT m s = s := by simp [stepT, hd]
  rw [hT]
  refine ⟨_, ?_, ⟨g, i, v, rfl, hg, hi, hv, ho⟩⟩
  refine Runs.of (f19_MR _ _) ?_
  unfold f19_M
  refine Goes.chk rfl (Goes.chk rfl (Goes.call hrr (Goes.chk rfl (Goes.tv rfl (Goes.ite rfl (fun h => nomatch h) fun _ => Goes.call hrc (Goes.chk hfit (Goes.tv rfl (Goes.ite rfl (fun h => ?_) fun _ => Goes.chk hy.isSl (f19_0_J (fin hg hi hv ho))))))))))
  simp [TV.cell, nth, machCells] at h; exact absurd h hd
end Go.Ab.G7
end
section
set_option linter.unusedVariables false
set_option maxRecDepth 100000
namespace Go.Ab.G7
open Go Go.Ab Go.Proofs
theorem rAwake6 : Runs prog 11 [] (B true) := ⟨40, by kernel_rfl⟩
end Go.Ab.G7
end
section
set_option linter.unusedVariables false
set_option linter.unusedSimpArgs false
set_option maxRecDepth 10000
namespace Go.Ab
section
variable {m : DMod} {s : DMach}
theorem stepT_done (h : ¬ s.done = 0) : stepT m s = s := by simp [stepT, h]
theorem runT_done (h : ¬ s.done = 0) : ∀ n, runT m s n = s
 | 0 => rfl
 | n + 1 => by simp [runT, h]
theorem runT_add : ∀ (a b : Nat) (s : DMach), runT m s (a + b) = runT m (runT m s a) b
 | 0, b, s => by simp [runT]
 | a + 1, b, s => by
  rw [show a + 1 + b = (a + b) + 1 by omega]
  by_cases h : s.done = 0
  ·simp only [runT, h, if_true]
   exact runT_add a b _
  ·rw [runT_done h, runT_done h, runT_done h]
theorem runT_one : runT m s 1 = stepT m s := by
 by_cases h : s.done = 0
 ·simp [runT, h]
 ·rw [runT_done h, stepT_done h]
theorem runT_succ {n : Nat} : runT m s (n + 1) = stepT m (runT m s n) := by rw [runT_add, runT_one]
def wordsQ (s : DMach) : Prop := (∀ (k : Nat) f, s.stack[k]? = some f → ∀ (j : Nat) a, f.regs[j]? = some a → inW a) ∧ ∀ a, a ∈ s.inputs → inW a
theorem RMachO.words {e : List TV} (h : RMachO e s) : wordsQ s := by
 obtain ⟨g, i, v, rfl, hg, hi, hv, ho⟩ := h
 refine ⟨fun k f hk j a hj => ?_, fun a ha => ?_⟩
 ·obtain ⟨e, _, gr, rfl, hgr, _⟩ := hg.pel hk
  obtain ⟨e, _, _, haw⟩ := hgr.pel hj
  exact haw
 ·obtain ⟨k, hk, rfl⟩ := List.mem_iff_getElem.1 ha
  obtain ⟨e, _, _, haw⟩ := hi.pel (List.getElem?_eq_getElem hk)
  exact haw
theorem reg_lt {f : DFrame} {n : Int} (h : ∀ (j : Nat) a, f.regs[j]? = some a → inW a) : reg f n < 65536 := by
 unfold reg
 rw [List.getD_eq_getElem?_getD]
 cases hk : f.regs[n.toNat]? with
 | none => simp
 | some a =>
  have := (h _ _ hk).2
  simp only [Option.getD_some]
  omega
theorem step_tell (hW : wordsQ s) : ((stepT m s).events = s.events ∧ (stepT m s).inputs = s.inputs) ∨ (∃ a, a < 65536 ∧ (stepT m s).events = s.events ++ [a] ∧ (stepT m s).inputs = s.inputs) ∨ ∃ a l, s.inputs = a :: l ∧ (stepT m s).events = s.events ++ [a + 65536] ∧ (stepT m s).inputs = l := by
 have hc : ∀ n p, (calledT m s n p).events = s.events ∧ (calledT m s n p).inputs = s.inputs := by
  intro n p
  unfold calledT
  split
  ·exact ⟨rfl, rfl⟩
  ·split <;> exact ⟨rfl, rfl⟩
 have hth : ∀ w, (thrownT m s w).events = s.events ∧ (thrownT m s w).inputs = s.inputs := by
  intro w
  unfold thrownT
  split
  ·split
   ·exact ⟨rfl, rfl⟩
   ·split <;> exact ⟨rfl, rfl⟩
  ·exact ⟨rfl, rfl⟩
 have han : ∀ w, (answeredT m s w).events = s.events ∧ (answeredT m s w).inputs = s.inputs := by
  intro w
  unfold answeredT
  split
  ·exact ⟨rfl, rfl⟩
  ·split
   ·exact ⟨rfl, rfl⟩
   ·split
    ·exact ⟨rfl, rfl⟩
    ·split
     ·exact ⟨rfl, rfl⟩
     ·split <;> exact ⟨rfl, rfl⟩
 unfold stepT
 split
 ·exact .inl ⟨rfl, rfl⟩
 split
 ·exact .inl ⟨rfl, rfl⟩
 rename_i f ht
 split
 ·exact .inl ⟨rfl, rfl⟩
 split
 ·split
  ·exact .inl (han _)
  split
  ·exact .inl (hc _ _)
  split
  ·exact .inl (hth _)
  split
  ·exact .inl (hth _)
  split
  ·exact .inl ⟨rfl, rfl⟩
  ·exact .inl ⟨rfl, rfl⟩
 ·split
  ·exact .inl ⟨rfl, rfl⟩
  ·rename_i x _
   unfold insT
   split
   ·exact .inl (hc _ _)
   split
   ·split
    ·exact .inl ⟨rfl, rfl⟩
    ·exact .inl ⟨rfl, rfl⟩
   split
   ·split
    ·exact .inl ⟨rfl, rfl⟩
    ·exact .inl ⟨rfl, rfl⟩
   split
   ·split
    ·exact .inl ⟨rfl, rfl⟩
    ·exact .inl ⟨rfl, rfl⟩
   split
   ·exact .inr (.inl ⟨_, reg_lt (hW.1 _ _ ht), rfl, rfl⟩)
   split
   ·exact .inl ⟨rfl, rfl⟩
   ·rename_i a l hl
    exact .inr (.inr ⟨a, l, hl, rfl, rfl⟩)
def takenL (l : List Int) : List Int := (l.filter fun e => decide (65536 ≤ e)).map fun e => e - 65536
def takenQ (inputs : List Int) (s : DMach) : Prop := takenL s.events ++ s.inputs = inputs
theorem takenL_app {l k : List Int} : takenL (l ++ k) = takenL l ++ takenL k := by simp [takenL]
theorem step_taken {inputs : List Int} (hW : wordsQ s) (h : takenQ inputs s) : takenQ inputs (stepT m s) := by
 unfold takenQ at *
 rcases step_tell (m := m) hW with ⟨h1, h2⟩ | ⟨a, ha, h1, h2⟩ | ⟨a, l, h0, h1, h2⟩
 ·rw [h1, h2]; exact h
 ·rw [h1, h2, takenL_app]
  have : takenL [a] = [] := by simp [takenL]; omega
  rw [this, List.append_nil]
  exact h
 ·have haw := hW.2 a (by rw [h0]; simp)
  have := haw.1
  have hT : takenL [a + 65536] = [a] := by
   simp [takenL, show (65536 : Int) ≤ a + 65536 by omega]
  rw [h1, h2, takenL_app, hT, List.append_assoc, ← h, h0]
  rfl
theorem run_taken {inputs : List Int} : ∀ n, (∀ k, k ≤ n → wordsQ (runT m (newM m inputs) k)) → takenQ inputs (runT m (newM m inputs) n)
 | 0, h => rfl
 | n + 1, h => by
  rw [runT_succ]
  exact step_taken (h n (by omega)) (run_taken n fun k hk => h k (by omega))
theorem run_events : ∀ (n : Nat) (s : DMach), ∃ l, (runT m s n).events = s.events ++ l ∧ l.length ≤ n
 | 0, s => ⟨[], by simp [runT]⟩
 | n + 1, s => by
  by_cases h : s.done = 0
  ·simp only [runT, h, if_true]
   obtain ⟨l, hl, hn⟩ := run_events n (stepT m s)
   rcases Go.Ab.G7.step_events (m := m) (s := s) with h1 | ⟨a, h1⟩
   ·exact ⟨l, by rw [hl, h1], by omega⟩
   ·exact ⟨a :: l, by rw [hl, h1]; simp, by simp; omega⟩
  ·rw [runT_done h]
   exact ⟨[], by simp⟩
end
end Go.Ab
end
section
set_option linter.unusedVariables false
set_option linter.unusedSimpArgs false
set_option maxRecDepth 10000
namespace Go.Ab
theorem byte_rem {p k : Int} (hp : 0 ≤ p ∧ p ≤ 255) (hk : 0 < k) : ∃ N : Nat, p.tmod k = (N : Int) ∧ (N : Int) < k ∧ (N : Int) ≤ p := by
 rw [Int.tmod_eq_emod_of_nonneg hp.1]
 have h1 := Int.emod_nonneg p (show k ≠ 0 by omega)
 have h2 := Int.emod_lt_of_pos p hk
 have h3 : p % k ≤ p := Int.emod_le hp.1
 exact ⟨(p % k).toNat, by omega, by omega, by omega⟩
where
 Int.emod_le {p k : Int} (hp : 0 ≤ p) : p % k ≤ p := by
  have := Int.emod_add_mul_ediv p k
  rcases Int.lt_trichotomy k 0 with h | h | h
  ·have h1 := Int.emod_neg p k
   have h2 := Int.mul_ediv_self_le (x := p) (k := -k) (by omega)
   have h3 : p % -k = p - -k * (p / -k) := by have := Int.emod_add_mul_ediv p (-k); omega
   have h4 : 0 ≤ p / -k := Int.ediv_nonneg hp (by omega)
   have h5 : 0 ≤ -k * (p / -k) := Int.mul_nonneg (by omega) h4
   rw [← Int.emod_neg]
   omega
  ·subst h; simp
  ·have h4 : 0 ≤ p / k := Int.ediv_nonneg hp (by omega)
   have h5 : 0 ≤ k * (p / k) := Int.mul_nonneg (by omega) h4
   omega
theorem pconv_bi {a : Int} (h0 : 0 ≤ a) (h : a ≤ 255) : pconv (.int .i64) (.lit (.int .u8 a)) = some (I a) := by
 simp only [pconv]
 rw [IntKind.wrap_i64]
 congr 3
 omega
end Go.Ab
namespace Go.Ab.G7
open Go Go.Ab Go.Proofs
open Classical in
theorem run_own {q q' : Option Bool} {e : List TV} {x : TV} {m : DMod} {l : List Int} (hm : RMod q e m) (hM : modP m) (hx : RWords q' x l) (hl : l.length ≤ 4294967296) {n : Nat} (hn : n ≤ 1048576) : ∃ e2, Runs prog 13 [.agg e, x, I (n : Int)] (.tup [.agg e2, I 0]) ∧ RMachO e2 (runT m (newM m l) n) := by
 obtain ⟨e2, hr, h⟩ := rMachRun (fuel := (n : Int)) hm hx hl
 have hc : modP m ∧ (n : Int) ≤ 1048576 := ⟨hM, by omega⟩
 rw [if_pos hc] at hr h
 exact ⟨e2, hr, by simpa using h⟩
theorem run_keeps {m : DMod} (hM : modP m) {s : DMach} (hQ : machQ m s) : ∀ n, machQ m (runT m s n)
 | 0 => hQ
 | n + 1 => by
  rw [runT_succ]
  exact step_keeps hM (run_keeps hM hQ n)
end Go.Ab.G7
end
section
set_option linter.unusedVariables false
set_option linter.unusedSimpArgs false
set_option maxRecDepth 10000
namespace Go.Ab
def lowQ (s t : DMach) : Prop := (∀ i : Nat, i + 1 < t.stack.length → i < s.stack.length → s.stack[i]? = t.stack[i]?) ∧ t.stack.length ≤ s.stack.length + 1
section
variable {m : DMod} {s t : DMach}
theorem lowQ.same (h : t.stack = s.stack) : lowQ s t := by
 unfold lowQ
 rw [h]
 exact ⟨fun _ _ _ => rfl, by omega⟩
theorem lowQ.take {k : Nat} (h : t.stack = s.stack.take k) : lowQ s t := by
 unfold lowQ
 rw [h]
 refine ⟨fun i h1 h2 => ?_, by simp; omega⟩
 simp at h1
 rw [List.getElem?_take, if_pos (by omega)]
theorem lowQ.top {k : Nat} {f : DFrame} (h : t.stack = s.stack.take k ++ [f]) : lowQ s t := by
 unfold lowQ
 rw [h]
 refine ⟨fun i h1 h2 => ?_, by simp; omega⟩
 simp at h1
 rw [List.getElem?_append_left (by simp; omega), List.getElem?_take, if_pos (by omega)]
theorem lowQ.app {f : DFrame} (h : t.stack = s.stack ++ [f]) : lowQ s t := by
 unfold lowQ
 rw [h]
 refine ⟨fun i h1 h2 => ?_, by simp⟩
 rw [List.getElem?_append_left h2]
theorem lowQ.with {u : DMach} {k : Nat} {f : DFrame} (h : u.stack = s.stack.take k) : lowQ s (withT u f) := by
 refine lowQ.top (k := min ((s.stack.take k).length - 1) k) (f := f) ?_
 show u.stack.take (u.stack.length - 1) ++ [f] = _
 rw [h, List.take_take]
theorem lowQ.with0 {u : DMach} {f : DFrame} (h : u.stack = s.stack) : lowQ s (withT u f) := by
 refine lowQ.top (k := s.stack.length - 1) (f := f) ?_
 show u.stack.take (u.stack.length - 1) ++ [f] = _
 rw [h]
theorem step_low : lowQ s (stepT m s) := by
 have hs : lowQ s s := .same rfl
 have hc : ∀ n p, lowQ s (calledT m s n p) := by
  intro n p
  unfold calledT
  split
  ·exact .same rfl
  ·split
   ·exact hs
   ·exact .app rfl
 have hth : ∀ w, lowQ s (thrownT m s w) := by
  intro w
  unfold thrownT
  split
  ·split
   ·exact hs
   ·split
    ·exact hs
    ·exact .with rfl
  ·exact .take rfl
 have han : ∀ w, lowQ s (answeredT m s w) := by
  intro w
  unfold answeredT
  split
  ·exact hs
  ·split
   ·exact .take (k := 0) rfl
   ·split
    ·exact hs
    ·split
     ·exact .with rfl
     ·split
      ·exact hs
      ·exact .with rfl
 unfold stepT
 split
 ·exact hs
 split
 ·exact hs
 split
 ·exact hs
 split
 ·split
  ·exact han _
  split
  ·exact hc _ _
  split
  ·exact hth _
  split
  ·exact hth _
  split
  ·exact .with0 rfl
  ·exact .with0 rfl
 ·split
  ·exact hs
  ·unfold insT
   split
   ·exact hc _ _
   split
   ·split
    ·exact .with0 rfl
    ·exact .same rfl
   split
   ·split
    ·exact .same rfl
    ·exact .with0 rfl
   split
   ·split
    ·exact .same rfl
    ·exact .with0 rfl
   split
   ·exact .with0 rfl
   split
   ·exact .same rfl
   ·exact .with0 rfl
theorem step_calm {f : DFrame} {b : DBlock} (hd : s.done = 0) (ht : topT s = some f) (hb : blockOf m f = some b) (h : ¬ f.at_ = b.ins.length ∨ ¬ b.fin.kind = 5 ∧ ¬ b.fin.kind = 6) : ¬ (stepT m s).done = 2 := by
 have hw : ∀ (u : DMach) g, u.done = 0 → ¬ (withT u g).done = 2 := fun u g hu h => by
  have h : u.done = 2 := h
  omega
 have he : ∀ (u : DMach) (k w : Int), ¬ k = 2 → ¬ (endedT u k w).done = 2 := fun u k w hk h => hk h
 have hc : ∀ n p, ¬ (calledT m s n p).done = 2 := by
  intro n p
  unfold calledT
  split
  ·exact he _ _ _ (by omega)
  ·split
   ·omega
   ·show ¬ s.done = 2
    omega
 have han : ∀ w, ¬ (answeredT m s w).done = 2 := by
  intro w
  unfold answeredT
  split
  ·omega
  ·split
   ·exact he _ _ _ (by omega)
   ·split
    ·omega
    ·split
     ·exact hw _ _ hd
     ·split
      ·omega
      ·exact hw _ _ hd
 unfold stepT
 rw [if_neg (show ¬ ¬ s.done = 0 from fun h => h hd), ht]
 simp only
 rw [hb]
 simp only
 split
 ·rename_i hat
  rcases h with h | ⟨h5, h6⟩
  ·exact absurd hat h
  split
  ·exact han _
  split
  ·exact hc _ _
  split
  ·exact hw _ _ hd
  ·exact hw _ _ hd
 ·split
  ·omega
  ·unfold insT
   split
   ·exact hc _ _
   split
   ·split
    ·exact hw _ _ hd
    ·exact he _ _ _ (by omega)
   split
   ·split
    ·exact he _ _ _ (by omega)
    ·exact hw _ _ hd
   split
   ·split
    ·exact he _ _ _ (by omega)
    ·exact hw _ _ hd
   split
   ·exact hw _ _ hd
   split
   ·exact he _ _ _ (by omega)
   ·exact hw _ _ hd
theorem lastAt_some {P : Nat → Prop} : ∀ {n : Nat}, (∃ j, j < n ∧ P j) → ∃ k, lastAt P n = some k ∧ k < n ∧ P k
 | 0, h => by obtain ⟨j, hj, _⟩ := h; omega
 | n + 1, h => by
  simp only [lastAt]
  by_cases hn : P n
  ·rw [if_pos hn]
   exact ⟨n, rfl, by omega, hn⟩
  ·rw [if_neg hn]
   obtain ⟨j, hj, hp⟩ := h
   have : j ≠ n := fun e => hn (e ▸ hp)
   obtain ⟨k, hk, hlt, hp⟩ := lastAt_some (n := n) ⟨j, by omega, hp⟩
   exact ⟨k, hk, by omega, hp⟩
end
end Go.Ab
namespace Go.Ab.G7
open Go Go.Ab Go.Proofs
theorem step_thrown {m : DMod} {s : DMach} {f : DFrame} {b : DBlock} (hd : s.done = 0) (ht : topT s = some f) (hb : blockOf m f = some b) (hat : f.at_ = b.ins.length) (h : b.fin.kind = 5 ∨ b.fin.kind = 6) : stepT m s = thrownT m s (if b.fin.kind = 5 then reg f b.fin.a else f.fly) := by
 unfold stepT
 rw [if_neg (show ¬ ¬ s.done = 0 from fun h => h hd), ht]
 simp only
 rw [hb]
 simp only
 rw [if_pos hat, if_neg (by omega), if_neg (by omega)]
 by_cases h5 : b.fin.kind = 5
 ·rw [if_pos h5, if_pos h5]
 ·rw [if_neg h5, if_neg h5, if_pos (by omega)]
theorem thrown_shape {m : DMod} {s : DMach} {w : Int} (hM : modP m) (hQ : machQ m s) :
  thrownT m s w = endedT { s with stack := s.stack.take (s.stack.length - 1) } 2 w ∨
  ∃ k f u p, k < s.stack.length - 1 ∧ thrownT m s w = { s with stack := s.stack.take k ++ [f] } ∧ f.fly = w ∧ f.at_ = 0 ∧ 0 ≤ f.f ∧ m.funcs[f.f.toNat]? = some u ∧ 0 ≤ f.block ∧ u.blocks[f.block.toNat]? = some p ∧ p.landing = true := by
 by_cases hc : ∃ i, catchAt m (s.stack.take (s.stack.length - 1)) w false i
 rotate_left
 ·exact .inl (thrown_no fun j hj => hc ⟨j, hj⟩)
 refine .inr ?_
 obtain ⟨i, f0, hf0, hcf⟩ := id hc
 have hi := (List.getElem?_eq_some_iff.1 hf0).1
 simp at hi
 obtain ⟨k, hk, hlt, f, hf, hcf⟩ := lastAt_some (P := catchAt m (s.stack.take (s.stack.length - 1)) w true) (n := s.stack.length - 1) ⟨i, by omega, f0, hf0, hcf.more⟩
 rw [List.getElem?_take, if_pos hlt] at hf
 obtain ⟨u, b, p, hu, hb, hat, h4, hp, _⟩ := hcf
 obtain ⟨hf0, _⟩ := hQ.2.2.2.1 k f hf
 obtain ⟨hp0, p', hp', hpl⟩ := mod_pad hM hu hb h4
 rw [hp] at hp'
 cases hp'
 have hpo : padOf m f = b.fin.pad := by simp [padOf, hu, hb]
 have hland : (landT m f (padOf m f) w).getD f = ⟨f.f, b.fin.pad, 0, f.regs.set p.pad.dst.toNat w, w⟩ := by
  simp [landT, hpo, hu, hp0, hp, hpl]
 refine ⟨k, ⟨f.f, b.fin.pad, 0, f.regs.set p.pad.dst.toNat w, w⟩, u, p, hlt, ?_, rfl, rfl, hf0, hu, hp0, hp, hpl⟩
 unfold thrownT
 rw [if_pos hc, hk]
 simp only
 rw [hf]
 simp only
 rw [hland]
 unfold withT
 have h1 : (s.stack.take (k + 1)).length - 1 = k := by simp; omega
 simp only [h1, List.take_take]
 rw [show min k (k + 1) = k by omega]
end Go.Ab.G7
end
section
set_option linter.unusedVariables false
set_option linter.unusedSimpArgs false
set_option maxRecDepth 10000
namespace Go.Ab.G7
open Go Go.Ab Go.Proofs
theorem thrownLoop {y1 y2 y3 y4 y5 y6 y7 y8 y9 y10 y11 y12 y13 y14 y15 y16 y17 y18 y19 y20 y21 y22 : TV} {k23 : Nat} {y24 y25 y26 y27 y28 y29 y30 y31 y32 y33 y34 y35 y36 y37 y38 y39 y40 y41 y42 y43 y44 y45 y46 y47 y48 y49 y50 y51 y52 y53 y54 y55 y56 w57 w58 w59 w60 w61 w62 w63 w64 w65 w66 w67 w68 w69 w70 w71 w72 w73 w74 w75 w76 w77 w78 w79 w80 w81 w82 w83 w84 w85 w86 w87 w88 w89 w90 w91 w92 w93 w94 w95 w96 w97 w98 w99 w100 : TV} {s t : DMach} (hg : RStack w57 s.stack) (hgt : RStack w79 t.stack) (hlow : lowQ s t) (h32 : s.stack.length ≤ 32) (cont : Goes prog 6 (f6_1 y1 y2 y3 y4 y5 y6 y7 y8 y9 y10 y11 y12 y13 y14 y15 y16 y17 y18 y19 y20 y21 y22 k23 y24 y25 y26 y27 y28 y29 y30 y31 y32 y33 y34 y35 y36 y37 y38 y39 y40 y41 y42 y43 y44 y45 y46 y47 y48 y49 y50 y51 y52 y53 y54 y55 y56 w57 w58 w59 w60 w61 w62 w63 w64 w65 w66 w67 w68 w69 w70 w71 w72 w73 w74 w75 w76 w77 w78 w79 w80 w81 w82 w83 w84 w85 w86 w87 w88 w89 w90 w91 w92 w93 w94 w95 w96 w97 w98 w99 w100) (B true)) :
  ∀ d k, t.stack.length ≤ k + d → k ≤ t.stack.length → Goes prog 6 (f6_0 (I (k : Int)) y1 y2 y3 y4 y5 y6 y7 y8 y9 y10 y11 y12 y13 y14 y15 y16 y17 y18 y19 y20 y21 y22 k23 y24 y25 y26 y27 y28 y29 y30 y31 y32 y33 y34 y35 y36 y37 y38 y39 y40 y41 y42 y43 y44 y45 y46 y47 y48 y49 y50 y51 y52 y53 y54 y55 y56 w57 w58 w59 w60 w61 w62 w63 w64 w65 w66 w67 w68 w69 w70 w71 w72 w73 w74 w75 w76 w77 w78 w79 w80 w81 w82 w83 w84 w85 w86 w87 w88 w89 w90 w91 w92 w93 w94 w95 w96 w97 w98 w99 w100) (B true) := by
 have hl2 := hlow.2
 intro d
 induction d with
 | zero =>
  intro k h1 h2
  have hk : k = t.stack.length := by omega
  unfold f6_0
  refine Goes.tv (inc (n := 1000) (by omega) (by omega)) (Goes.tv hgt.len (Goes.tv rfl (Goes.ite rfl (fun h => ?_) fun _ => f6_1_J cont)))
  simp at h; omega
 | succ d ih =>
  intro k h1 h2
  unfold f6_0
  refine Goes.tv (inc (n := 1000) (by omega) (by omega)) (Goes.tv hgt.len (Goes.tv rfl (Goes.ite rfl (fun h => ?_) fun _ => f6_1_J cont)))
  have hlt : k + 1 < t.stack.length := by simp at h; omega
  refine Goes.tv hg.len (Goes.tv rfl (Goes.ite rfl (fun h => ?_) fun _ => f6_1_J cont))
  have hlt2 : k < s.stack.length := by simpa using h
  have hs : s.stack[k]? = some s.stack[k] := List.getElem?_eq_getElem hlt2
  generalize s.stack[k] = f at hs
  have ht : t.stack[k]? = some f := by rw [← hlow.1 k hlt hlt2]; exact hs
  obtain ⟨gr, he, hget, hgr, hof⟩ := hg.row hs
  obtain ⟨gr2, he2, hget2, hgr2, hof2⟩ := hgt.row ht
  have hfit := fit_row (a := f.f) (b := f.block) (c := f.at_) (d := f.fly) hgr.isSl
  have hfit2 := fit_row (a := f.f) (b := f.block) (c := f.at_) (d := f.fly) hgr2.isSl
  have hz1 := hgr.frz (S := RW1) fun _ _ h => h.frz
  have hz2 := hgr2.frz (S := RW1) fun _ _ h => h.frz
  have hsame := rFSame (q := some false) (q' := some false) (e := [I f.f, I f.block, I f.at_, Go.Ab.frz gr, W f.fly]) (e' := [I f.f, I f.block, I f.at_, Go.Ab.frz gr2, W f.fly]) (a := f) (b := f) ⟨_, rfl, hz1, hof⟩ ⟨_, rfl, hz2, hof⟩
  rw [tt_true rfl] at hsame
  refine Goes.nat hg.slLen (Goes.nat (asNat_of (by omega)) (Goes.chk (sz_and hg.slSize hlt2) (Goes.tvs he (Goes.chk hfit ?_))))
  refine Goes.nat hgt.slLen (Goes.nat (asNat_of (by omega)) (Goes.chk (sz_and hgt.slSize (by omega)) (Goes.tvs he2 (Goes.chk hfit2 (Goes.tv hget (Goes.tv hget2 ?_))))))
  refine Goes.call hsame (Goes.chk rfl (Goes.tv rfl (Goes.ite rfl (fun h => nomatch h) fun _ => ?_)))
  exact Goes.tv (inc (n := 1000) (by omega) (by omega)) (f6_0_J (ih (k + 1) (by omega) (by omega)))
theorem thrownEnd {m : DMod} {s t : DMach} {w : Int} {y y3 y4 y5 y6 y7 y8 y9 y10 y11 y12 y13 y14 y15 y16 y17 y18 y19 y20 y21 y22 y23 y24 y25 y26 y27 y28 y29 y30 y31 y32 y33 y34 y35 y36 w39 w40 w41 w42 w43 w44 w45 w46 w47 w48 w49 w50 w51 w52 w53 w54 w55 w56 w57 w58 w59 w60 w61 w62 w63 w64 w65 w66 w67 w68 w69 w70 w71 w72 w73 w74 w75 w76 w77 w78 w79 w80 w81 w82 : TV} (hy : RL (some false) 3 (RFunc (some false)) y m.funcs) (hg : RStack w39 s.stack) (hg5 : RStack w61 t.stack) (h32 : s.stack.length ≤ 32) (h0 : 0 < s.stack.length) (hl5 : t.stack.length ≤ 33)
  (h : (t.done = 2 ∧ t.value = w ∧ t.stack.length = s.stack.length - 1) ∨ (t.done = 0 ∧ ∃ k f2 u p, k < s.stack.length - 1 ∧ t.stack = s.stack.take k ++ [f2] ∧ f2.fly = w ∧ f2.at_ = 0 ∧ 0 ≤ f2.f ∧ m.funcs[f2.f.toNat]? = some u ∧ 0 ≤ f2.block ∧ u.blocks[f2.block.toNat]? = some p ∧ p.landing = true)) :
  Goes prog 6 (f6_3 (W w) (.lit (.bool (t.done == 2))) y y3 y4 y5 y6 y7 y8 y9 y10 y11 y12 y13 y14 y15 y16 y17 y18 y19 y20 y21 y22 y23 y24 y25 y26 y27 y28 y29 y30 y31 y32 y33 y34 y35 y36 (I t.done) (W t.value) w39 w40 w41 w42 w43 w44 w45 w46 w47 w48 w49 w50 w51 w52 w53 w54 w55 w56 w57 w58 w59 w60 w61 w62 w63 w64 w65 w66 w67 w68 w69 w70 w71 w72 w73 w74 w75 w76 w77 w78 w79 w80 w81 w82) (B true) := by
 unfold f6_3
 rcases h with ⟨hd, hv, hl⟩ | ⟨hd, k, f2, u, p, hk, hst, hfly, hat, hf0, hu, hb0, hp, hpl⟩
 ·refine Goes.ite rfl (fun _ => ?_) fun h => ?_
  rotate_left
  ·rw [hd] at h; simp at h
  refine Goes.tv rfl (Goes.ite rfl (fun _ => ?_) fun h => ?_)
  rotate_left
  ·rw [hv] at h; simp at h
  refine Goes.tv hg5.len (Goes.tv hg.len (Goes.tv (dec h0 (by omega)) (Goes.tv rfl ?_)))
  rw [hl, show (((s.stack.length - 1 : Nat) : Int) == ((s.stack.length - 1 : Nat) : Int)) = true by simp]
  exact Goes.ret
 ·have hlen : t.stack.length = k + 1 := by rw [hst]; simp; omega
  have htop : t.stack[t.stack.length - 1]? = some f2 := by
   rw [hlen, hst]
   rw [List.getElem?_append_right (by simp; omega)]
   have : k + 1 - 1 - (s.stack.take k).length = 0 := by simp; omega
   rw [this]
   rfl
  obtain ⟨gr, he, hget, hgr, hof⟩ := hg5.row htop
  have hcs := sz_and hg5.slSize (show t.stack.length - 1 < t.stack.length by omega)
  obtain ⟨eu, heu, hru⟩ := hy.idxI (k := .i64) hf0 hu
  obtain ⟨bs, rfl, hbs, _⟩ := hru
  obtain ⟨eb, heb, hrb⟩ := hbs.idxI (k := .i64) hb0 hp
  obtain ⟨c, is, ga, rfl, hc, hdi, his, hga, hfo⟩ := hrb
  have hnl : asNat (I ((t.stack.length - 1 : Nat) : Int)) = some (t.stack.length - 1) := asNat_of (by omega)
  refine Goes.ite rfl (fun h => ?_) fun _ => ?_
  ·rw [hd] at h; simp at h
  refine Goes.tv hg5.len (Goes.tv (dec (by omega) (by omega)) (Goes.tv rfl (Goes.ite rfl (fun _ => ?_) fun h => ?_)))
  rotate_left
  ·rw [hd] at h; simp at h
  refine Goes.tv rfl (Goes.ite rfl (fun _ => ?_) fun h => ?_)
  rotate_left
  ·simp at h <;> omega
  refine Goes.tv hg.len (Goes.tv (dec h0 (by omega)) (Goes.tv rfl (Goes.ite rfl (fun _ => ?_) fun h => ?_)))
  rotate_left
  ·simp at h; omega
  refine Goes.nat hg5.slLen (Goes.nat hnl (Goes.chk hcs (Goes.tvs he (Goes.chk rfl (Goes.tv rfl (Goes.ite rfl (fun _ => ?_) fun h => ?_))))))
  rotate_left
  ·simp [nth] at h; exact absurd hfly h
  refine Goes.nat hg5.slLen (Goes.nat hnl (Goes.chk hcs (Goes.tvs he (Goes.chk rfl (Goes.tv rfl (Goes.ite rfl (fun _ => ?_) fun h => ?_))))))
  rotate_left
  ·simp [nth] at h; exact absurd hat h
  refine Goes.nat hg5.slLen (Goes.nat hnl (Goes.chk hcs (Goes.tvs he (Goes.chk rfl (Goes.tvs heu (Goes.chk rfl ?_))))))
  refine Goes.nat hg5.slLen (Goes.nat hnl (Goes.chk hcs (Goes.tvs he (Goes.chk rfl (Goes.tvs heb (Goes.chk rfl ?_))))))
  show Goes prog _ (.ret (B p.landing)) (B true)
  rw [hpl]
  exact Goes.ret
open Classical in
theorem lThrown {e : List TV} {x : TV} {m : DMod} {l : List Int} {p : Int} (hm : RMod (some false) e m) (hx : RWords (some false) x l) (hp : 0 ≤ p ∧ p ≤ 255) :
  Runs prog 6 [.agg e, x, .lit (.int .u8 p)] (B true) := by
 obtain ⟨b, hsm, hsb⟩ := rSmall hm hx
 have hm' := hm
 obtain ⟨y, rfl, hy⟩ := hm
 obtain ⟨N, hN, hN2, _⟩ := byte_rem (k := 150) hp (by omega)
 have hrem1 : pbin (.int .u8) .rem (.lit (.int .u8 p)) (.lit (.int .u8 150)) = some (.lit (.int .u8 (N : Int))) := by rw [← hN]; rfl
 have hcv1 : pconv (.int .i64) (.lit (.int .u8 (N : Int))) = some (I (N : Int)) := pconv_bi (by omega) (by omega)
 refine Runs.of (f6_MR _ _ _) ?_
 unfold f6_M
 refine Goes.chk rfl (Goes.call rAwake6 (Goes.chk rfl (Goes.tv rfl (Goes.ite rfl (fun h => nomatch h) fun _ => Goes.call hsm (Goes.chk rfl (Goes.tv rfl (Goes.ite rfl (fun _ => Goes.ret) fun h => ?_)))))))
 have hb : b = true := by simpa using h
 obtain ⟨_, hl⟩ := hsb hb
 refine Goes.tv hrem1 (Goes.tv hcv1 ?_)
 by_cases hM : modP m
 rotate_left
 ·obtain ⟨e2, hq2, h2⟩ := rMachRun (fuel := (N : Int)) hm' hx (by omega)
  rw [if_neg (fun h => hM h.1)] at hq2 h2
  exact Goes.call hq2 (Goes.chk rfl (Goes.chk h2.fit (Goes.chk rfl (Goes.tv rfl (Goes.ite rfl (fun _ => Goes.ret) fun h => nomatch h)))))
 obtain ⟨e2, hq2, h2⟩ := run_own (n := N) hm' hM hx (by omega) (by omega)
 have hQ := run_keeps hM (newM_keeps (inputs := l) hM) N
 have hevl : (runT m (newM m l) N).events.length ≤ N := by
  obtain ⟨j, hj, hjn⟩ := run_events (m := m) N (newM m l)
  rw [hj]
  simpa [newM] using hjn
 have htk := run_taken (m := m) (inputs := l) N fun k hk => by
  obtain ⟨e', _, h'⟩ := run_own (n := k) hm' hM hx (by omega) (by omega)
  exact h'.words
 have hinl : (runT m (newM m l) N).inputs.length ≤ l.length := by
  have := congrArg List.length htk
  simp at this
  omega
 have hstep : ∀ es, RMach es (runT m (newM m l) N) → ∃ e5, Runs prog 19 [.agg [y], .agg es] (.tup [.agg e5, I 0]) ∧ RMachO e5 (stepT m (runT m (newM m l) N)) := fun es hes => rMachStepOk hm' hM hes hQ (by omega) (by omega)
 have hfit2 := h2.fit
 generalize runT m (newM m l) N = s at h2 hQ hevl hinl hstep
 have h2w := h2.weak
 obtain ⟨g, i, v, rfl, hg, hi, hv, ho⟩ := h2
 obtain ⟨g', i', v', e', hg', hi', hv', ho'⟩ := h2w
 cases e'
 have hsz := RMach.frz' hg' hi' hv' ho'
 refine Goes.call hq2 (Goes.chk rfl (Goes.chk hfit2 (Goes.chk rfl (Goes.tv rfl (Goes.ite rfl (fun h => nomatch h) fun _ => Goes.tv rfl (Goes.ite rfl (fun _ => Goes.ret) fun h => ?_))))))
 have hd : s.done = 0 := by simpa [TV.cell, TV.comp, nth, machCells] using h
 have h32 := hQ.2.1
 have h0 := hQ.2.2.1 hd
 obtain ⟨f, ht⟩ : ∃ f, s.stack[s.stack.length - 1]? = some f := ⟨_, List.getElem?_eq_getElem (by omega)⟩
 have ht' : topT s = some f := ht
 have hF := hQ.2.2.2.1 _ f ht
 have hrl := frame_len hM hF
 obtain ⟨hf0, u, hu, hLr, hb0, b', hb', ha0, ha1⟩ := hF
 have hbo : blockOf m f = some b' := by simp [blockOf, hu, hb']
 have hE := mod_end hM hu hb'
 rw [← hLr] at hE
 have hlow := step_low (m := m) (s := s)
 have hcalm := step_calm hd ht' hbo
 have hthr := step_thrown hd ht' hbo
 have hshape := fun w => thrown_shape (w := w) hM hQ
 obtain ⟨gr, he, hget, hgr, hof⟩ := RStack.row hg ht
 have hfit := fit_row (a := f.f) (b := f.block) (c := f.at_) (d := f.fly) hgr.isSl
 obtain ⟨eu, heu, hru⟩ := hy.idxI (k := .i64) hf0 hu
 obtain ⟨bs, rfl, hbs, _⟩ := hru
 obtain ⟨eb, heb, hrb⟩ := hbs.idxI (k := .i64) hb0 hb'
 obtain ⟨c, is, ga, rfl, hc, hdi, his, hga, hfo⟩ := hrb
 obtain ⟨e5, hr5, h5⟩ := hstep _ hsz
 have hfit5 := h5.fit
 generalize stepT m s = t at h5 hlow hcalm hthr
 obtain ⟨g5, i5, v5, rfl, hg5, hi5, hv5, ho5⟩ := h5
 have hlen := RL.len (t := 47) hg
 refine Goes.tv hlen (Goes.tv (dec h0 (by omega)) (Goes.nat hg.slLen (Goes.nat (asNat_of (by omega)) (Goes.chk (sz_and hg.slSize (by omega)) (Goes.tvs he (Goes.chk hfit (Goes.tvs heu (Goes.chk rfl (Goes.tvs heb (Goes.chk rfl ?_))))))))))
 refine Goes.call hr5 (Goes.chk rfl (Goes.chk hfit5 (Goes.chk rfl (Goes.tv rfl (Goes.ite rfl (fun h => nomatch h) fun _ => f6_0_J (thrownLoop hg hg5 hlow h32 ?_ t.stack.length 0 (by omega) (by omega)))))))
 unfold f6_1
 have hl2 := hlow.2
 refine Goes.tv his.len (Goes.tv rfl (Goes.ite rfl (fun h => ?_) fun h => ?_))
 ·have hat : ¬ f.at_ = (b'.ins.length : Int) := by simp [nth] at h; omega
  have h2 := hcalm (.inl hat)
  refine f6_2_J ?_
  unfold f6_2
  refine Goes.ite rfl (fun _ => Goes.tv rfl ?_) fun h => nomatch h
  show Goes prog _ (.ret (.lit (.bool (t.done != 2)))) (B true)
  rw [show (t.done != 2) = true by simpa using h2]
  exact Goes.ret
 have hat : f.at_ = (b'.ins.length : Int) := by simp [nth] at h; omega
 by_cases h56 : b'.fin.kind = 5 ∨ b'.fin.kind = 6
 rotate_left
 ·have h2 := hcalm (.inr ⟨fun h => h56 (.inl h), fun h => h56 (.inr h)⟩)
  refine Goes.tv rfl (Goes.ite rfl (fun _ => Goes.tv rfl (f6_2_J ?_)) fun h => ?_)
  ·unfold f6_2
   refine Goes.ite rfl (fun _ => Goes.tv rfl ?_) fun h => ?_
   ·show Goes prog _ (.ret (.lit (.bool (t.done != 2)))) (B true)
    rw [show (t.done != 2) = true by simpa using h2]
    exact Goes.ret
   ·simp [nth] at h
    exact absurd (.inr h) h56
  ·simp [nth] at h
   exact absurd (.inl h) h56
 have hT := hthr hat h56
 have fin : ∀ {w : Int}, w = (if b'.fin.kind = 5 then reg f b'.fin.a else f.fly) → (t.done = 2 ∧ t.value = w ∧ t.stack.length = s.stack.length - 1) ∨ (t.done = 0 ∧ ∃ k f2 u p, k < s.stack.length - 1 ∧ t.stack = s.stack.take k ++ [f2] ∧ f2.fly = w ∧ f2.at_ = 0 ∧ 0 ≤ f2.f ∧ m.funcs[f2.f.toNat]? = some u ∧ 0 ≤ f2.block ∧ u.blocks[f2.block.toNat]? = some p ∧ p.landing = true) := by
  intro w hw
  subst hw
  rcases hshape (if b'.fin.kind = 5 then reg f b'.fin.a else f.fly) with h | ⟨k, f2, u2, p2, hk, h, hrest⟩
  ·rw [hT, h]
   exact .inl ⟨rfl, rfl, by simp [endedT]⟩
  ·rw [hT, h]
   exact .inr ⟨hd, k, f2, u2, p2, hk, rfl, hrest⟩
 by_cases h5 : b'.fin.kind = 5
 ·have hpa := hE.2.1
  rw [h5] at hpa
  have hA : within b'.fin.a f.regs.length := hpa.1 rfl
  obtain ⟨a, ha, hal⟩ := within_at hA
  obtain ⟨pe, hpe, rfl, haw⟩ := hgr.pel ha
  have hra : reg f b'.fin.a = a := getD_at ha
  have hla := blt_and hgr.slSize hal
  refine Goes.tv rfl (Goes.ite rfl (fun h => ?_) fun _ => f6_2_J ?_)
  ·simp [nth] at h; exact absurd h5 h
  unfold f6_2
  refine Goes.ite rfl (fun h => nomatch h) fun _ => Goes.tv rfl (Goes.ite rfl (fun _ => ?_) fun h => ?_)
  ·exact Goes.tv hget (Goes.nat hgr.slLen (Goes.nat (asNat_in hA.1 hfo.2.1) (Goes.chk hla (Goes.tv hget (Goes.tvs hpe (Goes.chk rfl (Goes.tv rfl (f6_3_J (thrownEnd (s := s) (t := t) (m := m) (w := a) hy hg hg5 h32 h0 (by omega) (fin (by rw [if_pos h5, hra])))))))))))
  ·simp [nth] at h; exact absurd h5 h
 ·have h6 : b'.fin.kind = 6 := by omega
  refine Goes.tv rfl (Goes.ite rfl (fun _ => Goes.tv rfl (f6_2_J ?_)) fun h => ?_)
  rotate_left
  ·simp [nth] at h; exact absurd h h5
  unfold f6_2
  refine Goes.ite rfl (fun h => ?_) fun _ => Goes.tv rfl (Goes.ite rfl (fun h => ?_) fun _ => ?_)
  ·simp [nth] at h; exact absurd h6 h
  ·simp [nth] at h; exact absurd h h5
  ·exact Goes.tv rfl (f6_3_J (thrownEnd (s := s) (t := t) (m := m) (w := f.fly) hy hg hg5 h32 h0 (by omega) (fin (by rw [if_neg h5]))))
end Go.Ab.G7
end
section
namespace Go.Ab
open Go.RowKit
set_option linter.unusedVariables false
theorem nth_eq {α : Type} (d : α) : ∀ (l : List α) (n : Nat), nth d l n = (l[n]?).getD d
 | [], n => by simp [nth]
 | a :: l, 0 => rfl
 | a :: l, n + 1 => by simp [nth, nth_eq d l n]
theorem setNth_eq {α : Type} : ∀ (l : List α) (n : Nat) (b : α), setNth l n b = l.set n b
 | [], n, b => by simp [setNth]
 | a :: l, 0, b => rfl
 | a :: l, n + 1, b => by simp [setNth, setNth_eq l n b]
theorem nth_some {α : Type} {d : α} {l : List α} {n : Nat} {a : α} (h : l[n]? = some a) : nth d l n = a := by rw [nth_eq, h]; rfl
theorem beq_iff (a b : Nat) : a.beq b = true ↔ a = b := ⟨Nat.eq_of_beq_eq_true, fun h => h ▸ Nat.beq_refl a⟩
theorem memB_iff (n : Nat) : ∀ l : List Nat, memB n l = true ↔ n ∈ l
 | [] => by simp [memB]
 | a :: l => by
  cases h : a.beq n
  ·have : a ≠ n := fun e => by simp [e] at h
   simp only [memB, h, cond_false, memB_iff n l, List.mem_cons]
   constructor
   ·exact .inr
   ·rintro (e | e)
    ·exact absurd e.symm this
    ·exact e
  ·simp only [memB, h, cond_true, List.mem_cons, true_iff]
   exact .inl ((beq_iff a n).1 h).symm
theorem add_block (a : Addr) (k : Nat) : (a.add k).block = a.block := by unfold Addr.add; split <;> rfl
theorem add_add (a : Addr) (i j : Nat) : (a.add i).add j = a.add (i + j) := by
 unfold Addr.add
 by_cases hi : i = 0 <;> by_cases hj : j = 0 <;> simp [hi, hj, Nat.add_assoc]
theorem add_lit (b o k : Nat) : (⟨b, o, none⟩ : Addr).add k = ⟨b, o + k, none⟩ := by unfold Addr.add; split <;> simp_all
def spl {α : Type} (l : List α) (o : Nat) (ys : List α) : List α := l.take o ++ ys ++ l.drop (o + ys.length)
theorem spl_len {α : Type} {l ys : List α} {o : Nat} (h : o + ys.length ≤ l.length) : (spl l o ys).length = l.length := by
 simp only [spl, List.length_append, List.length_take, List.length_drop]
 omega
theorem spl_get {α : Type} {l ys : List α} {o : Nat} (h : o + ys.length ≤ l.length) (k : Nat) : (spl l o ys)[k]? = if o ≤ k ∧ k < o + ys.length then ys[k - o]? else l[k]? := by
 have e1 : (l.take o).length = o := by simp; omega
 unfold spl
 by_cases h1 : k < o
 ·rw [List.append_assoc, List.getElem?_append_left (by omega), List.getElem?_take, if_pos h1, if_neg (by omega)]
 ·by_cases h2 : k < o + ys.length
  ·rw [List.append_assoc, List.getElem?_append_right (by omega), e1, List.getElem?_append_left (by omega), if_pos (by omega)]
  ·rw [List.getElem?_append_right (by simp; omega), List.getElem?_drop, if_neg (by omega)]
   congr 1
   simp
   omega
theorem setCells_eq {α : Type} : ∀ (ps l : List α) (off : Nat), off + ps.length ≤ l.length → setCells l off ps = spl l off ps
 | [], l, off, h => by simp [setCells, spl]
 | p :: ps, l, off, h => by
  have hlt : off < l.length := by simp at h; omega
  simp only [setCells]
  rw [setNth_eq, setCells_eq ps (l.set off p) (off + 1) (by simp at h ⊢; omega)]
  apply List.ext_getElem?
  intro k
  rw [spl_get (by simp at h ⊢; omega), spl_get h]
  simp only [List.length_cons, List.getElem?_set]
  by_cases h1 : k < off
  ·rw [if_neg (by omega), if_neg (by omega), if_neg (by omega)]
  ·by_cases h2 : k = off
   ·subst h2
    rw [if_neg (by omega), if_pos (by omega)]
    simp [hlt]
   ·by_cases h3 : k < off + (ps.length + 1)
    ·rw [if_pos (by omega), if_pos (by omega)]
     rw [show k - off = (k - (off + 1)) + 1 by omega, List.getElem?_cons_succ]
    ·rw [if_neg (by omega), if_neg (by omega), if_neg (by omega)]
theorem takeN_spec {α : Type} : ∀ (l : List α) (o n : Nat) (r : List α), takeN l o n = some r → r.length = n ∧ (n = 0 ∨ o + n ≤ l.length) ∧ ∀ j, j < n → r[j]? = l[o + j]?
 | l, o, 0, r, h => by cases l <;> simp [takeN] at h <;> subst h <;> simp
 | [], o, n + 1, r, h => by simp [takeN] at h
 | a :: l, 0, n + 1, r, h => by
  simp only [takeN] at h
  cases h1 : takeN l 0 n with
  | none => simp [h1] at h
  | some r' =>
   simp only [h1, Option.some.injEq] at h
   subst h
   obtain ⟨i1, i2, i3⟩ := takeN_spec l 0 n r' h1
   refine ⟨by simp [i1], .inr (by simp; omega), fun j hj => ?_⟩
   cases j with
   | zero => simp
   | succ j => simpa using i3 j (by omega)
 | a :: l, o + 1, n + 1, r, h => by
  simp only [takeN] at h
  obtain ⟨i1, i2, i3⟩ := takeN_spec l o (n + 1) r h
  refine ⟨i1, .inr (by rcases i2 with i2 | i2 <;> simp <;> omega), fun j hj => ?_⟩
  rw [i3 j hj, show o + 1 + j = (o + j) + 1 by omega, List.getElem?_cons_succ]
theorem flat_len {α : Type} {s : Nat} : ∀ {xs : List (List α)}, (∀ x ∈ xs, x.length = s) → xs.flatten.length = xs.length * s
 | [], _ => by simp
 | x :: xs, h => by
  simp only [List.flatten_cons, List.length_append, List.length_cons, h x List.mem_cons_self, flat_len (fun y hy => h y (List.mem_cons_of_mem _ hy)), Nat.add_mul]
  omega
theorem flat_get {α : Type} {s : Nat} : ∀ {xs : List (List α)} {i j : Nat} {x : List α} {c : α}, (∀ x ∈ xs, x.length = s) → xs[i]? = some x → x[j]? = some c → xs.flatten[i * s + j]? = some c
 | x :: xs, 0, j, _, c, h, hi, hj => by
  simp at hi
  subst hi
  rw [List.flatten_cons, List.getElem?_append_left (by simp; exact (List.getElem?_eq_some_iff.1 hj).1)]
  simpa using hj
 | x :: xs, i + 1, j, y, c, h, hi, hj => by
  simp at hi
  have hx := h x List.mem_cons_self
  rw [List.flatten_cons, List.getElem?_append_right (by rw [hx, Nat.add_mul]; omega), hx, show (i + 1) * s + j - s = i * s + j by rw [Nat.add_mul]; omega]
  exact flat_get (fun z hz => h z (List.mem_cons_of_mem _ hz)) hi hj
theorem take_add {α : Type} {x l : List α} {s n : Nat} (h : x.length = s) : (x ++ l).take (s + n) = x ++ l.take n := by
 subst h
 exact List.take_length_add_append n
theorem drop_add {α : Type} {x l : List α} {s n : Nat} (h : x.length = s) : (x ++ l).drop (s + n) = l.drop n := by
 subst h
 exact List.drop_length_add_append n
theorem succ_mul' (n s : Nat) : (n + 1) * s = s + n * s := by rw [Nat.add_mul]; omega
theorem flat_take {α : Type} {s : Nat} : ∀ {xs : List (List α)} (n : Nat), (∀ x ∈ xs, x.length = s) → (xs.take n).flatten = xs.flatten.take (n * s)
 | [], n, _ => by simp
 | x :: xs, 0, _ => by simp
 | x :: xs, n + 1, h => by
  have hx := h x List.mem_cons_self
  rw [List.take_succ_cons, List.flatten_cons, List.flatten_cons, flat_take n (fun z hz => h z (List.mem_cons_of_mem _ hz)), succ_mul', take_add hx]
theorem flat_drop {α : Type} {s : Nat} : ∀ {xs : List (List α)} (n : Nat), (∀ x ∈ xs, x.length = s) → (xs.drop n).flatten = xs.flatten.drop (n * s)
 | [], n, _ => by simp
 | x :: xs, 0, _ => by simp
 | x :: xs, n + 1, h => by
  have hx := h x List.mem_cons_self
  rw [List.drop_succ_cons, List.flatten_cons, flat_drop n (fun z hz => h z (List.mem_cons_of_mem _ hz)), succ_mul', drop_add hx]
theorem flat_set {α : Type} {s : Nat} : ∀ {xs : List (List α)} {i : Nat} {x y : List α}, (∀ x ∈ xs, x.length = s) → xs[i]? = some x → y.length = s → (xs.set i y).flatten = spl xs.flatten (i * s) y
 | x :: xs, 0, _, y, h, hi, hy => by
  simp at hi
  subst hi
  have hx := h x List.mem_cons_self
  simp only [List.set_cons_zero, List.flatten_cons, Nat.zero_mul, spl, List.take_zero, List.nil_append, Nat.zero_add, hy, List.drop_append, hx, Nat.sub_self, List.drop_zero]
  rw [List.drop_of_length_le (by omega), List.nil_append]
 | x :: xs, i + 1, z, y, h, hi, hy => by
  simp at hi
  have hx := h x List.mem_cons_self
  have ih := flat_set (fun z hz => h z (List.mem_cons_of_mem _ hz)) hi hy
  simp only [List.set_cons_succ, List.flatten_cons, ih, spl, succ_mul', take_add hx, hy]
  rw [show s + i * s + s = s + (i * s + s) by omega, drop_add hx]
  simp only [List.append_assoc]
theorem set_all {α : Type} {s : Nat} {xs : List (List α)} {i : Nat} {y : List α} (h : ∀ x ∈ xs, x.length = s) (hy : y.length = s) : ∀ x ∈ xs.set i y, x.length = s := by
 intro x hx
 rcases List.mem_or_eq_of_mem_set hx with h' | h'
 ·exact h x h'
 ·rw [h']; exact hy
theorem flat_spl {α : Type} {s : Nat} {xs : List (List α)} {i j : Nat} {x ys : List α} (h : ∀ x ∈ xs, x.length = s) (hi : xs[i]? = some x) (hj : j + ys.length ≤ x.length) :
  (xs.set i (spl x j ys)).flatten = spl xs.flatten (i * s + j) ys ∧ i * s + j + ys.length ≤ xs.flatten.length := by
 have hx := h x (List.mem_of_getElem? hi)
 have hlt : i < xs.length := (List.getElem?_eq_some_iff.1 hi).1
 have hle : i * s + s ≤ xs.flatten.length := by
  rw [flat_len h]
  have := Nat.mul_le_mul_right s (Nat.succ_le_of_lt hlt)
  rw [Nat.succ_mul] at this
  exact this
 refine ⟨?_, by omega⟩
 rw [flat_set h hi (by rw [spl_len hj, hx])]
 apply List.ext_getElem?
 intro k
 rw [spl_get (l := xs.flatten) (ys := spl x j ys) (by rw [spl_len hj]; omega), spl_get (l := xs.flatten) (ys := ys) (by omega), spl_len hj, hx]
 by_cases h1 : i * s ≤ k ∧ k < i * s + s
 ·rw [if_pos h1, spl_get hj]
  by_cases h2 : j ≤ k - i * s ∧ k - i * s < j + ys.length
  ·rw [if_pos h2, if_pos (by omega)]
   congr 1
   omega
  ·rw [if_neg h2, if_neg (by omega)]
   have hk : k - i * s < x.length := by omega
   have := flat_get h hi (List.getElem?_eq_getElem hk)
   rw [show i * s + (k - i * s) = k by omega] at this
   rw [this, List.getElem?_eq_getElem hk]
 ·rw [if_neg h1, if_neg (by omega)]
inductive Rep (w : World) (I : Nat → Prop) : TV → Value → Prop
 | lit (v : Value) : Rep w I (.lit v) v
 | hole (v : Value) : Rep w I .hole v
 | buf {s : ByteArray} (e : TypeId) (h : s.size = 0) : Rep w I (.buf s e) nilV
 | sl {size : Nat} {xs : List (List TV)} {a : Addr} {cap : Nat} (cell : Nat → Value) (hI : 0 < xs.length → I a.block) (hc : xs.length ≤ cap) (hm : cap ≤ maxLen)
   (hl : ∀ x ∈ xs, x.length = size) (hcell : ∀ k, k < xs.length * size → w.cell? (a.add k) = some (cell k)) (h1 : ∀ k, k < xs.length * size → (cell k).oneCell' = true)
   (hr : ∀ (i : Nat) (x : List TV), xs[i]? = some x → ∀ (j : Nat) (c : TV), x[j]? = some c → Rep w I c (cell (i * size + j))) : Rep w I (.sl false size xs) (.slice (some a) xs.length cap)
 | agg {cs : List TV} {vs : Array Value} (hl : vs.size = cs.length) (h1 : ∀ j, j < vs.size → (vs.getD j undef).oneCell' = true)
   (hr : ∀ (j : Nat) (c : TV), cs[j]? = some c → Rep w I c (vs.getD j undef)) : Rep w I (.agg cs) (.agg vs)
 | tup {cs : List TV} {vs : Array Value} (hl : vs.size = cs.length) (hr : ∀ (j : Nat) (c : TV), cs[j]? = some c → Rep w I c (vs.getD j undef)) : Rep w I (.tup cs) (.tuple vs)
theorem Rep.mv {w w' : World} {I I' : Nat → Prop} (hh : ∀ b, I b → w'.heap[b]? = w.heap[b]?) (hI : ∀ b, I b → I' b) {x : TV} {v : Value} (h : Rep w I x v) : Rep w' I' x v := by
 induction h with
 | lit v => exact .lit v
 | hole v => exact .hole v
 | buf e h => exact .buf e h
 | sl cell i c m l hcell h1 _ ih =>
  exact .sl cell (fun h => hI _ (i h)) c m l (fun k hk => by rw [← hcell k hk]; exact World.cell?_of_block (by rw [add_block]; exact hh _ (i (Nat.pos_of_ne_zero (fun e => by simp [e] at hk))))) h1 ih
 | agg hl h1 _ ih => exact .agg hl h1 ih
 | tup hl _ ih => exact .tup hl ih
structure Row (w : World) (a : Addr) (n cap size : Nat) (us : List Value) (vs : Array Value) (ty : TypeId) : Prop where
 heap : w.heap[a.block]? = some (.cells vs ty (0, 0))
 spot : a.spot = none
 le : n ≤ cap
 max : cap ≤ maxLen
 fit : a.off + cap * size ≤ vs.size
 len : us.length = n * size
 cells : ∀ k, k < n * size → vs[a.off + k]? = us[k]?
 one : ∀ u ∈ us, u.oneCell' = true
theorem Row.cell {w : World} {a : Addr} {n cap size : Nat} {us : List Value} {vs : Array Value} {ty : TypeId} (h : Row w a n cap size us vs ty) {k : Nat} {u : Value} (hk : us[k]? = some u) : w.cell? (a.add k) = some u := by
 have hlt : k < n * size := by rw [← h.len]; exact (List.getElem?_eq_some_iff.1 hk).1
 have : a.add k = ⟨a.block, a.off + k, none⟩ := by
  have := h.spot
  obtain ⟨b, o, sp⟩ := a
  simp at this
  subst this
  exact add_lit b o k
 rw [this]
 simp only [World.cell?, h.heap]
 simp only [Option.isSome_none, Bool.false_eq_true, if_false]
 rw [h.cells k hlt, hk]
inductive RepO (w : World) (I : Nat → Prop) : TV → Value → (Nat → Prop) → Prop
 | fr {x : TV} {v : Value} {S : Nat → Prop} (h : Rep w I x v) : RepO w I x v S
 | sl {size : Nat} {xs : List (List TV)} {a : Addr} {cap : Nat} {S : Nat → Prop} (us : List Value) (vs : Array Value) (ty : TypeId) (F : Nat → Nat → Prop) (hS : S a.block)
   (row : Row w a xs.length cap size us vs ty) (hl : ∀ x ∈ xs, x.length = size) (hr : ∀ (k : Nat) (c : TV), xs.flatten[k]? = some c → RepO w I c (us.getD k undef) (F k))
   (hF : ∀ k b, F k b → S b ∧ b ≠ a.block) (hd : ∀ k k' b, F k b → F k' b → k = k') : RepO w I (.sl true size xs) (.slice (some a) xs.length cap) S
 | agg {cs : List TV} {vs : Array Value} {S : Nat → Prop} (F : Nat → Nat → Prop) (hl : vs.size = cs.length) (h1 : ∀ j, j < vs.size → (vs.getD j undef).oneCell' = true)
   (hr : ∀ (j : Nat) (c : TV), cs[j]? = some c → RepO w I c (vs.getD j undef) (F j)) (hF : ∀ j b, F j b → S b) (hd : ∀ k k' b, F k b → F k' b → k = k') : RepO w I (.agg cs) (.agg vs) S
 | buf {s : ByteArray} {e : TypeId} {v : Value} {S : Nat → Prop} (h : w.ownsRowF 0 e 1 v s.size (Lib.strCells s)) (hS : ∀ b, v.ownBlock = some b → S b) : RepO w I (.buf s e) v S
 | tup {cs : List TV} {vs : Array Value} {S : Nat → Prop} (F : Nat → Nat → Prop) (hl : vs.size = cs.length)
   (hr : ∀ (j : Nat) (c : TV), cs[j]? = some c → RepO w I c (vs.getD j undef) (F j)) (hF : ∀ j b, F j b → S b) (hd : ∀ k k' b, F k b → F k' b → k = k') : RepO w I (.tup cs) (.tuple vs) S
theorem _root_.Go.World.ownsRowF.moved {w w' : World} {base : Nat} {e : TypeId} {size : Nat} {v : Value} {n : Nat} {xs : List Value} (h : w.ownsRowF base e size v n xs) (hh : ∀ b, v.ownBlock = some b → w'.heap[b]? = w.heap[b]?) : w'.ownsRowF base e size v n xs := by
 refine ⟨h.1, ?_⟩
 rcases h.2 with hn | ⟨g, cap, cur, fz, rfl, hb, hgg, rest⟩
 ·exact .inl hn
 ·exact .inr ⟨g, cap, cur, fz, rfl, hb, by rw [hh g rfl]; exact hgg, rest⟩
theorem RepO.mv {w w' : World} {I I' : Nat → Prop} (hI : ∀ b, I b → w'.heap[b]? = w.heap[b]?) (hs : ∀ b, I b → I' b) {x : TV} {v : Value} {S : Nat → Prop} (h : RepO w I x v S) :
  ∀ {S' : Nat → Prop}, (∀ b, S b → w'.heap[b]? = w.heap[b]?) → (∀ b, S b → S' b) → RepO w' I' x v S' := by
 induction h with
 | fr h => intro S' _ _; exact .fr (h.mv hI hs)
 | @sl size xs a cap S us vs ty F hS row hl hr hF hd ih =>
  intro S' hh hSS
  exact .sl us vs ty F (hSS _ hS) ⟨by rw [hh _ hS]; exact row.heap, row.spot, row.le, row.max, row.fit, row.len, row.cells, row.one⟩ hl (fun k c hk => ih k c hk (fun b hb => hh b (hF k b hb).1) (fun b hb => hb))
   (fun k b hb => ⟨hSS b (hF k b hb).1, (hF k b hb).2⟩) hd
 | @buf s e v S h hS =>
  intro S' hh hSS
  exact .buf (h.moved (fun b hb => hh b (hS b hb))) (fun b hb => hSS b (hS b hb))
 | @agg cs vs S F hl h1 hr hF hd ih =>
  intro S' hh hSS
  exact .agg F hl h1 (fun k c hk => ih k c hk (fun b hb => hh b (hF k b hb)) (fun b hb => hb)) (fun k b hb => hSS b (hF k b hb)) hd
 | @tup cs vs S F hl hr hF hd ih =>
  intro S' hh hSS
  exact .tup F hl (fun k c hk => ih k c hk (fun b hb => hh b (hF k b hb)) (fun b hb => hb)) (fun k b hb => hSS b (hF k b hb)) hd
theorem RepO.mono {w : World} {I : Nat → Prop} {x : TV} {v : Value} {S S' : Nat → Prop} (h : RepO w I x v S) (hS : ∀ b, S b → S' b) : RepO w I x v S' :=
 h.mv (fun _ _ => rfl) (fun _ h => h) (fun _ _ => rfl) hS
theorem rep_lit {w : World} {I : Nat → Prop} {v u : Value} (h : Rep w I (.lit v) u) : u = v := by cases h; rfl
theorem repO_lit {w : World} {I : Nat → Prop} {v u : Value} {S : Nat → Prop} (h : RepO w I (.lit v) u S) : u = v := by cases h with | fr h => exact rep_lit h
theorem repO_frz {w : World} {I : Nat → Prop} {s : Nat} {xs : List (List TV)} {u : Value} {S : Nat → Prop} (h : RepO w I (.sl false s xs) u S) : Rep w I (.sl false s xs) u := by cases h with | fr h => exact h
theorem repO_sl {w : World} {I : Nat → Prop} {o : Bool} {s : Nat} {xs : List (List TV)} {u : Value} {S : Nat → Prop} (h : RepO w I (.sl o s xs) u S) : ∃ a cap, u = .slice (some a) xs.length cap := by
 cases h with
 | fr h => cases h; exact ⟨_, _, rfl⟩
 | sl => exact ⟨_, _, rfl⟩
theorem repO_isSl {w : World} {I : Nat → Prop} {x : TV} {u : Value} {S : Nat → Prop} (h : RepO w I x u S) (hx : x.isSl = true) : ∃ a n cap, u = .slice a n cap := by
 cases x with
 | lit v =>
  have := repO_lit h
  subst this
  cases u <;> simp [TV.isSl, isSlV] at hx ⊢
 | sl o s xs => obtain ⟨a, cap, rfl⟩ := repO_sl h; exact ⟨_, _, _, rfl⟩
 | _ => simp [TV.isSl] at hx
theorem scV_one {v : Value} (h : scV v = true) : v.oneCell' = true := by cases v <;> first | rfl | simp [scV] at h
theorem repO_isSc {w : World} {I : Nat → Prop} {x : TV} {u : Value} {S : Nat → Prop} (h : RepO w I x u S) (hx : x.isSc = true) : x = .lit u ∧ scV u = true := by
 cases x with
 | lit v =>
  have := repO_lit h
  subst this
  exact ⟨rfl, hx⟩
 | _ => simp [TV.isSc] at hx
theorem repO_lf {w : World} {I : Nat → Prop} {x : TV} {u : Value} {S : Nat → Prop} (h : RepO w I x u S) : Rep w I x.lf u := by
 cases x with
 | lit v => have := repO_lit h; subst this; exact .lit _
 | _ => exact .hole _
theorem frzL_eq : ∀ l : List TV, frzL l = l.map frz
 | [] => rfl
 | x :: l => by simp [frzL, frzL_eq l]
theorem frzLL_eq : ∀ l : List (List TV), frzLL l = l.map fun x => x.map frz
 | [] => rfl
 | x :: l => by simp [frzLL, frzLL_eq l, frzL_eq]
theorem lfL_eq : ∀ l : List TV, lfL l = l.map TV.lf
 | [] => rfl
 | x :: l => by simp [lfL, lfL_eq l]
theorem lfLL_eq : ∀ l : List (List TV), lfLL l = l.map fun x => x.map TV.lf
 | [] => rfl
 | x :: l => by simp [lfLL, lfLL_eq l, lfL_eq]
theorem Rep.frz {w : World} {I : Nat → Prop} {x : TV} {v : Value} (h : Rep w I x v) : Rep w I (frz x) v := by
 induction h with
 | lit v => exact .lit v
 | hole v => exact .hole v
 | buf e h => exact .hole _
 | @sl size xs a cap cell hI hc hm hl hcell h1 _ ih =>
  simp only [Ab.frz, frzLL_eq]
  have hlen : (xs.map fun x => x.map Ab.frz).length = xs.length := by simp
  have key : Rep w I (.sl false size (xs.map fun x => x.map Ab.frz)) (.slice (some a) (xs.map fun x => x.map Ab.frz).length cap) := by
   refine .sl cell (by rw [hlen]; exact hI) (by rw [hlen]; exact hc) hm (fun x hx => ?_) (by rw [hlen]; exact hcell) (by rw [hlen]; exact h1) (fun i y hy j c hj => ?_)
   ·obtain ⟨y, hy, rfl⟩ := List.mem_map.1 hx
    simpa using hl y hy
   ·rw [List.getElem?_map] at hy
    cases hxi : xs[i]? with
    | none => simp [hxi] at hy
    | some x =>
     simp only [hxi, Option.map_some, Option.some.injEq] at hy
     subst hy
     rw [List.getElem?_map] at hj
     cases hxj : x[j]? with
     | none => simp [hxj] at hj
     | some c' =>
      simp only [hxj, Option.map_some, Option.some.injEq] at hj
      subst hj
      exact ih i x hxi j c' hxj
  rwa [hlen] at key
 | @agg cs vs hl h1 _ ih =>
  simp only [Ab.frz, frzL_eq]
  refine .agg (by simpa using hl) h1 (fun j c hj => ?_)
  rw [List.getElem?_map] at hj
  cases hxj : cs[j]? with
  | none => simp [hxj] at hj
  | some c' => simp only [hxj, Option.map_some, Option.some.injEq] at hj; subst hj; exact ih j c' hxj
 | @tup cs vs hl _ ih =>
  simp only [Ab.frz, frzL_eq]
  refine .tup (by simpa using hl) (fun j c hj => ?_)
  rw [List.getElem?_map] at hj
  cases hxj : cs[j]? with
  | none => simp [hxj] at hj
  | some c' => simp only [hxj, Option.map_some, Option.some.injEq] at hj; subst hj; exact ih j c' hxj
theorem RepO.frz {w : World} {I I' : Nat → Prop} (hI : ∀ b, I b → I' b) {x : TV} {v : Value} {S : Nat → Prop} (h : RepO w I x v S) : (∀ b, S b → I' b) → Rep w I' (frz x) v := by
 induction h with
 | fr h => intro _; exact (h.mv (fun _ _ => rfl) hI).frz
 | buf _ _ => intro _; exact .hole _
 | @sl size xs a cap S us vs ty F hS row hl hr hF hd ih =>
  intro hSI
  simp only [Ab.frz, frzLL_eq]
  have hlen : (xs.map fun x => x.map Ab.frz).length = xs.length := by simp
  have key : Rep w I' (.sl false size (xs.map fun x => x.map Ab.frz)) (.slice (some a) (xs.map fun x => x.map Ab.frz).length cap) := by
   refine .sl (fun k => us.getD k undef) (fun _ => hSI _ hS) (by rw [hlen]; exact row.le) row.max (fun x hx => ?_) (fun k hk => ?_) (fun k hk => ?_) (fun i y hy j c hj => ?_)
   ·obtain ⟨y, hy, rfl⟩ := List.mem_map.1 hx
    simpa using hl y hy
   ·rw [hlen] at hk
    have : k < us.length := by rw [row.len]; exact hk
    exact row.cell (by simp [List.getElem?_eq_getElem this])
   ·rw [hlen] at hk
    have : k < us.length := by rw [row.len]; exact hk
    simp only [List.getD_eq_getElem?_getD, List.getElem?_eq_getElem this, Option.getD_some]
    exact row.one _ (List.getElem_mem this)
   ·rw [List.getElem?_map] at hy
    cases hxi : xs[i]? with
    | none => simp [hxi] at hy
    | some x =>
     simp only [hxi, Option.map_some, Option.some.injEq] at hy
     subst hy
     rw [List.getElem?_map] at hj
     cases hxj : x[j]? with
     | none => simp [hxj] at hj
     | some c' =>
      simp only [hxj, Option.map_some, Option.some.injEq] at hj
      subst hj
      exact ih _ c' (flat_get hl hxi hxj) (fun b hb => hSI b (hF _ b hb).1)
  rwa [hlen] at key
 | @agg cs vs S F hl h1 hr hF hd ih =>
  intro hSI
  simp only [Ab.frz, frzL_eq]
  refine .agg (by simpa using hl) h1 (fun j c hj => ?_)
  rw [List.getElem?_map] at hj
  cases hxj : cs[j]? with
  | none => simp [hxj] at hj
  | some c' => simp only [hxj, Option.map_some, Option.some.injEq] at hj; subst hj; exact ih j c' hxj (fun b hb => hSI b (hF j b hb))
 | @tup cs vs S F hl hr hF hd ih =>
  intro hSI
  simp only [Ab.frz, frzL_eq]
  refine .tup (by simpa using hl) (fun j c hj => ?_)
  rw [List.getElem?_map] at hj
  cases hxj : cs[j]? with
  | none => simp [hxj] at hj
  | some c' => simp only [hxj, Option.map_some, Option.some.injEq] at hj; subst hj; exact ih j c' hxj (fun b hb => hSI b (hF j b hb))
theorem isOwnL_mem : ∀ {l : List TV}, isOwnL l = true → ∀ x ∈ l, isOwn x = true
 | [], _, x, hx => by simp at hx
 | y :: l, h, x, hx => by
  simp only [isOwnL, Bool.and_eq_true] at h
  rcases List.mem_cons.1 hx with rfl | hx
  ·exact h.1
  ·exact isOwnL_mem h.2 x hx
theorem isOwnLL_mem : ∀ {l : List (List TV)}, isOwnLL l = true → ∀ x ∈ l, isOwnL x = true
 | [], _, x, hx => by simp at hx
 | y :: l, h, x, hx => by
  simp only [isOwnLL, Bool.and_eq_true] at h
  rcases List.mem_cons.1 hx with rfl | hx
  ·exact h.1
  ·exact isOwnLL_mem h.2 x hx
theorem Rep.own {w : World} {I I' : Nat → Prop} {x : TV} {v : Value} (h : Rep w I x v) : isOwn x = true → Rep w I' x v := by
 induction h with
 | lit v => intro _; exact .lit v
 | hole v => intro _; exact .hole v
 | buf e h => intro _; exact .buf e h
 | sl => intro h; simp [isOwn] at h
 | @agg cs vs hl h1 _ ih => intro h; simp only [isOwn] at h; exact .agg hl h1 (fun j c hj => ih j c hj (isOwnL_mem h c (List.mem_of_getElem? hj)))
 | @tup cs vs hl _ ih => intro h; simp only [isOwn] at h; exact .tup hl (fun j c hj => ih j c hj (isOwnL_mem h c (List.mem_of_getElem? hj)))
theorem RepO.own {w : World} {I I' : Nat → Prop} {x : TV} {v : Value} {S : Nat → Prop} (h : RepO w I x v S) : isOwn x = true → RepO w I' x v S := by
 induction h with
 | fr h => intro ho; exact .fr (h.own ho)
 | buf h hS => intro _; exact .buf h hS
 | @sl size xs a cap S us vs ty F hS row hl hr hF hd ih =>
  intro ho
  simp only [isOwn, Bool.true_and] at ho
  refine .sl us vs ty F hS row hl (fun k c hk => ih k c hk ?_) hF hd
  obtain ⟨x, hx, hc⟩ := List.mem_flatten.1 (List.mem_of_getElem? hk)
  exact isOwnL_mem (isOwnLL_mem ho x hx) c hc
 | @agg cs vs S F hl h1 hr hF hd ih => intro ho; simp only [isOwn] at ho; exact .agg F hl h1 (fun j c hj => ih j c hj (isOwnL_mem ho c (List.mem_of_getElem? hj))) hF hd
 | @tup cs vs S F hl hr hF hd ih => intro ho; simp only [isOwn] at ho; exact .tup F hl (fun j c hj => ih j c hj (isOwnL_mem ho c (List.mem_of_getElem? hj))) hF hd
end Go.Ab
end

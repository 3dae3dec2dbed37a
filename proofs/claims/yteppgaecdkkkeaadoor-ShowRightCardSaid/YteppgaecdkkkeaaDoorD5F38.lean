
/- Layer 3: the document's own text of a module, and the law ShowRight over closed values. No condition. -/
import Derived.Test.YteppgaecdkkkeaaDoorD5F30
import Derived.Test.YteppgaecdkkkeaaDoorD5F25
import Derived.Test.YteppgaecdkkkeaaDoorD5F25
import Derived.Test.YteppgaecdkkkeaaDoorD5F25
import Derived.Test.YteppgaecdkkkeaaDoorD5F11
set_option linter.unusedVariables false
set_option maxRecDepth 20000
namespace Go.Ab
/-- An element that is a byte. -/
def RY1 (e : List TV) (b : UInt8) : Prop := e = [.lit (.int .u8 b.toNat)]
theorem rows_of (l : List UInt8) : pbytes (S l) = some (l.map fun b => [.lit (.int .u8 b.toNat)]) := rfl
theorem F2.bytes : ∀ (l : List UInt8), F2 RY1 (l.map fun b => [TV.lit (.int .u8 b.toNat)]) l
  | [] => .nil
  | b :: l => .cons rfl (F2.bytes l)
theorem RL.appL {α : Type} {s : Nat} {R : List TV → α → Prop} {y : TV} {l m : List α} {rows : List (List TV)} (hy : RL (some true) s R y l) (hr : F2 R rows m) (hl : l.length + m.length ≤ 4294967296) : ∃ y', papp s y rows = some y' ∧ RL (some true) s R y' (l ++ m) := by
  have hlen := hr.length
  rcases hy with ⟨rfl, rfl⟩ | ⟨o, xs, rfl, hq, h, hb⟩
  · simp only [List.length_nil, Nat.zero_add] at hl
    have hp : papp s (.lit nilV) rows = some (rowT s rows) := by
      simp only [papp, nilV]
      rw [if_pos (show rows.length ≤ room by simp only [room]; omega)]
    refine ⟨_, hp, ?_⟩
    cases hr with
    | nil => exact .nil
    | cons h1 h2 => exact .sl (by simp) (.cons h1 h2) (by simp only [List.length_cons] at hlen ⊢; simp only [List.length_cons] at hl; omega)
  · have hlen2 := h.length
    rw [hq true rfl]
    refine ⟨.sl true s (xs ++ rows), ?_, .sl (by simp) (h.append hr) (by simp; omega)⟩
    simp [papp, room]; omega
theorem bytesOf_bytes : ∀ {rows : List (List TV)} {l : List UInt8}, F2 RY1 rows l → bytesOf rows = some (l.map fun b => (b.toNat : Int))
  | _, _, .nil => rfl
  | _, _, .cons (a := e) (b := b) h1 h2 => by
    cases h1
    simp only [bytesOf, bytesOf_bytes h2, List.map_cons]
theorem strOf_bytes (l : List UInt8) : strOf (l.map fun b => (b.toNat : Int)) = ⟨⟨l⟩⟩ := by
  have key : ∀ (l acc : List UInt8), (l.map fun b => (b.toNat : Int)).foldl (fun (r : ByteArray) n => r.push (UInt8.ofNat n.toNat)) ⟨⟨acc⟩⟩ = ⟨⟨acc ++ l⟩⟩ := by
    intro l
    induction l with
    | nil => intro acc; simp
    | cons b l ih =>
      intro acc
      simp only [List.map_cons, List.foldl_cons, Int.toNat_natCast, UInt8.ofNat_toNat, buf_push]
      rw [ih]
      simp
  exact key l []
theorem pstrB_bytes {rows : List (List TV)} {l : List UInt8} (h : F2 RY1 rows l) : pstrB rows = some (S l) := by
  unfold pstrB
  rw [bytesOf_bytes h]
  simp only [strOf_bytes]
end Go.Ab
namespace Go.Ab.D5
open Go Go.Ab Go.Proofs
theorem over0 {n : Int} (h : 0 ≤ n) (hi : inI n) : overI n := ⟨by omega, hi.2⟩
theorem place_ge {u : Bool} {regs n : Int} (h : placeP u regs n) : 0 ≤ n := by
  cases u
  · rw [h.2 rfl]; exact Int.le_refl 0
  · exact (h.1 rfl).1
theorem goal_ge {u l : Bool} {bs : List DBlock} {n : Int} (h : goalP u bs n l) : 0 ≤ n := by
  cases u
  · rw [h.2 rfl]; exact Int.le_refl 0
  · exact (h.1 rfl).1
theorem call_ge {u : Bool} {fs : List DFunc} {regs n : Int} {l : List Int} (h : callP u fs regs n l) : 0 ≤ n ∧ ∀ a, a ∈ l → 0 ≤ a := by
  cases u
  · obtain ⟨h1, h2⟩ := h.2 rfl
    rw [h1, h2]
    exact ⟨Int.le_refl 0, fun a ha => nomatch ha⟩
  · obtain ⟨h0, g, _, _, hw⟩ := h.1 rfl
    refine ⟨h0, fun a ha => ?_⟩
    obtain ⟨i, hi, rfl⟩ := List.mem_iff_getElem.1 ha
    exact (hw i hi _ (List.getElem?_eq_getElem hi)).1
theorem insO_of {q : Option Bool} {e : List TV} {fs : List DFunc} {regs : Int} {x : DIns} (h : insP fs regs x) (he : RIns q e x) (hl : x.args.length ≤ 20) : insO x := by
  obtain ⟨_, hd, ha, hb, _, hc⟩ := h
  obtain ⟨g, _, hg, ho⟩ := he
  obtain ⟨c1, c2⟩ := call_ge hc
  exact ⟨over0 (place_ge hd) ho.2.1, over0 (place_ge ha) ho.2.2.1, over0 (place_ge hb) ho.2.2.2.1, over0 c1 ho.2.2.2.2.2, fun n hn => over0 (c2 n hn) (RInts.inI hg n hn), hl⟩
theorem endO_of {q : Option Bool} {g : TV} {fs : List DFunc} {regs : Int} {bs : List DBlock} {x : DEnd} (h : endP fs regs bs x) (hg : RInts q g x.args) (ho : x.ok) (hl : x.args.length ≤ 20) : endO x := by
  obtain ⟨_, ha, hd, hc, ht, he, hp⟩ := h
  obtain ⟨c1, c2⟩ := call_ge hc
  exact ⟨over0 (place_ge ha) ho.2.1, over0 (place_ge hd) ho.2.2.1, over0 c1 ho.2.2.2.1, over0 (goal_ge ht) ho.2.2.2.2.1, over0 (goal_ge he) ho.2.2.2.2.2.1, over0 (goal_ge hp) ho.2.2.2.2.2.2, fun n hn => over0 (c2 n hn) (RInts.inI hg n hn), hl⟩
/-- davitref03.Show -/
theorem rshow_runs {q : Option Bool} {e : List TV} {m : DMod} (hm : RMod q e m) (hs : shortM m) (hb : (modT m).length ≤ 60000000) : Runs prog 8 [.agg e] (showT m) := by
  have h9 := r9 hm
  obtain ⟨x, rfl, hx⟩ := hm
  refine Runs.of (f8_MR _) ?_
  unfold f8_M
  refine Goes.chk rfl (Goes.call h9 (Goes.chk rfl (Goes.tv rfl (Goes.ite rfl (fun h => ?_) fun h => ?_))))
  · have hn : ¬ modP m := by simpa [tt] using h
    simp only [showT, if_neg hn]
    exact Goes.ret
  have hp : modP m := by simpa [tt] using h
  refine Goes.chk rfl (Goes.jmp (f8_0_R _ _ _) ?_)
  have last : ∀ w, RL (some true) 1 RY1 w (modT m) → Goes prog 8 (f8_2 w) (showT m) := fun w hw => by
    simp only [showT, if_pos hp]
    unfold f8_2
    obtain ⟨rows, hr, hf2⟩ := hw.elems
    refine Goes.tv hw.len (Goes.tv rfl (Goes.ite rfl (fun h => ?_) fun h => ?_))
    · have : ¬ (modT m).length ≤ 65536 := by simp at h; omega
      rw [if_neg this]; exact Goes.ret
    · have : (modT m).length ≤ 65536 := by simp at h; omega
      rw [if_pos this]
      exact Goes.rws hr (Goes.tv (pstrB_bytes hf2) Goes.ret)
  have outer : ∀ d k w acc, RL (some true) 1 RY1 w acc → k + d = m.funcs.length → acc ++ (m.funcs.drop k).flatMap funcT = modT m → Goes prog 8 (f8_0 (I (k : Int)) x w) (showT m) := by
    intro d
    induction d with
    | zero =>
      intro k w acc hw hk ha
      have hk : k = m.funcs.length := by omega
      subst hk
      simp only [List.drop_length, List.flatMap_nil, List.append_nil] at ha
      subst ha
      unfold f8_0
      refine Goes.tv (RL.len (by assumption)) (Goes.tv rfl (Goes.ite asB_end (fun h => nomatch h) fun _ => ?_))
      exact Goes.jmp (f8_2_R _) (last _ hw)
    | succ d ih =>
      intro k w acc hw hk ha
      have hkl : k < m.funcs.length := by omega
      have hf : m.funcs[k]? = some m.funcs[k] := List.getElem?_eq_getElem hkl
      have hsf := hs.2 k hkl _ hf
      have hpf := hp.2.2 k hkl _ hf
      rw [List.drop_eq_getElem_cons hkl, List.flatMap_cons] at ha
      obtain ⟨e, he, hr⟩ := hx.idx (k := .i64) hf
      generalize m.funcs[k] = f at *
      obtain ⟨y, rfl, hy, hpa, hre⟩ := hr
      have inner : ∀ d j w acc, RL (some true) 1 RY1 w acc → j + d = f.blocks.length → acc ++ ((f.blocks.drop j).flatMap blockT ++ (m.funcs.drop (k + 1)).flatMap funcT) = modT m →
          Goes prog 8 (f8_1 (I (k : Int)) (I (j : Int)) x w (I f.params) (I f.regs) y) (showT m) := by
        intro d
        induction d with
        | zero =>
          intro j w acc hw hj ha
          have hj : j = f.blocks.length := by omega
          subst hj
          simp only [List.drop_length, List.flatMap_nil, List.nil_append] at ha
          unfold f8_1
          refine Goes.tv hy.len (Goes.tv rfl (Goes.ite asB_end (fun h => nomatch h) fun _ => ?_))
          exact Goes.tv (inc hkl hx.bnd) (Goes.jmp (f8_0_R _ _ _) (ih (k + 1) _ acc hw (by omega) ha))
        | succ d ihb =>
          intro j w acc hw hj ha
          have hjl : j < f.blocks.length := by omega
          have hbl : f.blocks[j]? = some f.blocks[j] := List.getElem?_eq_getElem hjl
          have hsb := hsf.2 j hjl _ hbl
          have hpb := hpf.2.2.2 j hjl _ hbl
          rw [List.drop_eq_getElem_cons hjl, List.flatMap_cons] at ha
          obtain ⟨eb, heb, hrb⟩ := hy.idx (k := .i64) hbl
          generalize f.blocks[j] = b at *
          have hL : acc.length + (blockT b).length ≤ 60000000 := by rw [← ha] at hb; simp at hb; omega
          have hL2 : (blockT b).length = (headT b).length + 1 + (b.ins.flatMap (fun x => insT x ++ [10])).length + (endT b.fin).length + 1 := by simp [blockT]; omega
          obtain ⟨c, i, g, rfl, hc, hd, hi, hg, ho⟩ := hrb
          have l2 := endT_len ho (RInts.inI hg) hsb.2.2.1
          have hEnd := rend_runs (x := b.fin) (q := q) ⟨g, rfl, hg, ho⟩ (endO_of hpb.2.2.2 hg ho hsb.2.2.1)
          -- behind the head
          have tail : ∀ w acc', RL (some true) 1 RY1 w acc' → acc' = acc ++ headT b ++ [10] → Goes prog 8 (f8_4 (I (k : Int)) (I (j : Int)) (I ((0 : Nat) : Int)) x w (I f.params) (I f.regs) y (B b.landing) (I b.pad.dst) c (B b.pad.all) (B b.pad.cleanup) i (I b.fin.kind) (I b.fin.a) (I b.fin.dst) (I b.fin.f) g (I b.fin.to) (I b.fin.els) (I b.fin.pad)) (showT m) := by
            have lines : ∀ d t w acc', RL (some true) 1 RY1 w acc' → t + d = b.ins.length → acc' ++ (b.ins.drop t).flatMap (fun x => insT x ++ [10]) = acc ++ headT b ++ [10] ++ b.ins.flatMap (fun x => insT x ++ [10]) →
                Goes prog 8 (f8_4 (I (k : Int)) (I (j : Int)) (I (t : Int)) x w (I f.params) (I f.regs) y (B b.landing) (I b.pad.dst) c (B b.pad.all) (B b.pad.cleanup) i (I b.fin.kind) (I b.fin.a) (I b.fin.dst) (I b.fin.f) g (I b.fin.to) (I b.fin.els) (I b.fin.pad)) (showT m) := by
              intro d
              induction d with
              | zero =>
                intro t w acc' hw ht h
                have ht : t = b.ins.length := by omega
                subst ht
                simp only [List.drop_length, List.flatMap_nil, List.append_nil] at h
                have hal : acc'.length = acc.length + (headT b).length + 1 + (b.ins.flatMap (fun x => insT x ++ [10])).length := by rw [h]; simp; omega
                obtain ⟨w2, hw2, hr2⟩ := hw.appL (F2.bytes (endT b.fin ++ [10])) (by simp; omega)
                unfold f8_4
                refine Goes.tv (RL.len hi) (Goes.tv rfl (Goes.ite asB_end (fun h => nomatch h) fun _ => Goes.jmp (f8_5_R _ _ _ _ _ _ _ _ _ _ _ _ _ _ _ _ _ _ _ _ _) ?_))
                unfold f8_5
                refine Goes.call hEnd (Goes.chk rfl (Goes.tv (padd_s (endT b.fin) [10] (by simp; omega)) (Goes.rws (rows_of _) (Goes.tv hw2 (Goes.tv (inc hjl hy.bnd) (Goes.jmp (f8_1_R _ _ _ _ _ _ _) ?_))))))
                refine ihb (j + 1) w2 _ hr2 (by omega) ?_
                rw [← ha, h]
                simp [blockT, List.append_assoc]
              | succ d iht =>
                intro t w acc' hw ht h
                have htl : t < b.ins.length := by omega
                have hxl : b.ins[t]? = some b.ins[t] := List.getElem?_eq_getElem htl
                have hargs := hsb.2.2.2 t htl _ hxl
                have hpx := hpb.2.2.1 t htl _ hxl
                rw [List.drop_eq_getElem_cons htl, List.flatMap_cons] at h
                obtain ⟨ex, hex, hrx⟩ := hi.idx (k := .i64) hxl
                generalize b.ins[t] = u at *
                have l3 := insT_len hrx hargs
                have hIns := rins_runs hrx (insO_of hpx hrx hargs)
                have hal : acc'.length + (insT u).length + 1 ≤ acc.length + (headT b).length + 1 + (b.ins.flatMap (fun x => insT x ++ [10])).length := by
                  have := congrArg List.length h
                  simp at this
                  simp
                  omega
                obtain ⟨w2, hw2, hr2⟩ := hw.appL (F2.bytes (insT u ++ [10])) (by simp; omega)
                obtain ⟨gx, rfl, _⟩ := hrx
                unfold f8_4
                refine Goes.tv (RL.len hi) (Goes.tv rfl (Goes.ite (asB_lt htl) (fun _ => ?_) fun h => nomatch h))
                refine Goes.tvs hex (Goes.chk rfl (Goes.call hIns (Goes.chk rfl (Goes.tv (padd_s (insT u) [10] (by simp; omega)) (Goes.rws (rows_of _) (Goes.tv hw2 (Goes.tv (inc htl hi.bnd) (Goes.jmp (f8_4_R _ _ _ _ _ _ _ _ _ _ _ _ _ _ _ _ _ _ _ _ _ _) ?_))))))))
                exact iht (t + 1) w2 _ hr2 (by omega) (by rw [← h]; simp [List.append_assoc])
            intro w acc' hw h
            subst h
            exact lines b.ins.length 0 w _ hw (by omega) rfl
          have head : ∀ hd : List UInt8, hd = headT b → hd.length ≤ 600 → Goes prog 8 (f8_3 (I (k : Int)) (I (j : Int)) (S hd) x w (I f.params) (I f.regs) y (B b.landing) (I b.pad.dst) c (B b.pad.all) (B b.pad.cleanup) i (I b.fin.kind) (I b.fin.a) (I b.fin.dst) (I b.fin.f) g (I b.fin.to) (I b.fin.els) (I b.fin.pad)) (showT m) := by
            intro hd hh hlen
            subst hh
            obtain ⟨w2, hw2, hr2⟩ := hw.appL (F2.bytes (headT b ++ [10])) (by simp; omega)
            unfold f8_3
            refine Goes.tv (padd_s (headT b) [10] (by simp; omega)) (Goes.rws (rows_of _) (Goes.tv hw2 (Goes.jmp (f8_4_R _ _ _ _ _ _ _ _ _ _ _ _ _ _ _ _ _ _ _ _ _ _) ?_)))
            exact tail w2 _ hr2 (by simp [List.append_assoc])
          unfold f8_1
          refine Goes.tv hy.len (Goes.tv rfl (Goes.ite (asB_lt hjl) (fun _ => ?_) fun h => nomatch h))
          refine Goes.tvs heb (Goes.chk rfl (Goes.ite rfl (fun hl => ?_) fun hl => ?_))
          · have hl : b.landing = true := hl
            have eh : headT b = padT b.pad := by simp [headT, hl]
            have hpad := hpb.2.1.2 hl
            have l1 := padT_len hd (fun n hn => by obtain ⟨ee, _, hh⟩ := RL.memR hc n hn; exact hh) hsb.2.1
            have hPad : Runs prog 14 [.agg [I b.pad.dst, c, B b.pad.all, B b.pad.cleanup]] (S (padT b.pad)) := rpad_runs (q := q) ⟨c, rfl, hc, hd⟩ (over0 hpad.1.1 hd) hsb.2.1
            exact Goes.call hPad (Goes.chk rfl (Goes.jmp (f8_3_R _ _ _ _ _ _ _ _ _ _ _ _ _ _ _ _ _ _ _ _ _ _) (head _ eh.symm l1)))
          · have hl : b.landing = false := hl
            have eh : headT b = [98, 108, 111, 99, 107] := by simp [headT, hl, lineT]
            exact Goes.jmp (f8_3_R _ _ _ _ _ _ _ _ _ _ _ _ _ _ _ _ _ _ _ _ _ _) (head _ eh.symm (by simp))
      have hp0 := hpf.1
      have n1 := num_runs (over0 hp0.1 hpa)
      have n2 := num_runs (over0 (n := f.regs) (by omega) hre)
      have i1 := itoa_len (over0 hp0.1 hpa)
      have i2 := itoa_len (over0 (n := f.regs) (by omega) hre)
      have hln : lineT [102, 117, 110, 99] [f.params, f.regs] ++ [10] = [102, 117, 110, 99, 32] ++ Lib.itoa f.params ++ [32] ++ Lib.itoa f.regs ++ [10] := by simp [lineT, numT]
      have hL : acc.length + ([102, 117, 110, 99, 32] ++ Lib.itoa f.params ++ [32] ++ Lib.itoa f.regs ++ [10]).length ≤ 60000000 := by
        rw [← hln]
        rw [← ha] at hb
        simp [funcT] at hb ⊢
        omega
      obtain ⟨w2, hw2, hr2⟩ := hw.appL (F2.bytes ([102, 117, 110, 99, 32] ++ Lib.itoa f.params ++ [32] ++ Lib.itoa f.regs ++ [10])) (by omega)
      unfold f8_0
      refine Goes.tv (RL.len (by assumption)) (Goes.tv rfl (Goes.ite (asB_lt hkl) (fun _ => ?_) fun h => nomatch h))
      refine Goes.tvs he (Goes.chk rfl (Goes.call n1 (Goes.chk rfl (Goes.tv (padd_s _ _ (by simp; omega)) (Goes.tv (padd_s _ _ (by simp; omega)) (Goes.call n2 (Goes.chk rfl (Goes.tv (padd_s _ _ (by simp; omega)) (Goes.tv (padd_s _ _ (by simp; omega)) (Goes.rws (rows_of _) (Goes.tv hw2 (Goes.jmp (f8_1_R _ _ _ _ _ _ _) ?_))))))))))))
      exact inner f.blocks.length 0 _ _ hr2 (by omega) (by rw [← ha, ← hln]; simp [funcT, List.append_assoc])
  exact outer m.funcs.length 0 _ [] .nil (by omega) rfl
theorem str_eq (l : List UInt8) : pbin .str .eql (S l) (S l) = some (B true) := by simp [pbin, strBin]
theorem str_neq (l : List UInt8) : pbin .str .neq (S l) (S l) = some (B false) := by simp [pbin, strBin]
theorem showT_form (m : DMod) : ∃ l n, showT m = .tup [S l, I n] := by
  unfold showT
  split
  · split
    · exact ⟨_, _, rfl⟩
    · exact ⟨_, _, rfl⟩
  · exact ⟨_, _, rfl⟩
/-- The law ShowRight. -/
theorem right_runs {q q1 q2 q3 : Option Bool} {e e1 e2 e3 : List TV} {m : DMod} {x : DIns} {y : DEnd} {p : DPad} (hm : RMod q e m) (hx : RIns q1 e1 x) (hy : REnd q2 e2 y) (hp : RPad q3 e3 p) :
    Runs prog 3 [.agg e, .agg e1, .agg e2, .agg e3] (B true) := by
  have hm' := hm
  have hx' := hx
  have hy' := hy
  have hp' := hp
  obtain ⟨bs, h7, hsh⟩ := r7 hm
  obtain ⟨z0, rfl, hz0⟩ := hm
  obtain ⟨g1, rfl, hg1, ho1⟩ := hx
  obtain ⟨g2, rfl, hg2, ho2⟩ := hy
  obtain ⟨g3, rfl, hg3, ho3⟩ := hp
  refine Runs.of (f3_MR _ _ _ _) ?_
  unfold f3_M
  refine Goes.chk rfl (Goes.chk rfl (Goes.chk rfl (Goes.chk rfl (Goes.call awake_runs (Goes.chk rfl (Goes.tv rfl (Goes.ite rfl (fun h => nomatch h) fun _ => ?_)))))))
  refine Goes.call h7 (Goes.chk rfl (Goes.tv rfl (Goes.ite rfl (fun _ => Goes.ret) fun h => ?_)))
  have hs := hsh (by simpa using h)
  refine Goes.tv hg1.len (Goes.tv rfl (Goes.ite rfl (fun _ => Goes.ret) fun h => ?_))
  have hl1 : x.args.length ≤ 20 := by have : ¬ ((20 : Int) < x.args.length) := by simpa using h
                                      omega
  refine Goes.tv hg2.len (Goes.tv rfl (Goes.ite rfl (fun _ => Goes.ret) fun h => ?_))
  have hl2 : y.args.length ≤ 20 := by have : ¬ ((20 : Int) < y.args.length) := by simpa using h
                                      omega
  refine Goes.tv hg3.len (Goes.tv rfl (Goes.ite rfl (fun _ => Goes.ret) fun h => ?_))
  have hl3 : p.catches.length ≤ 20 := by have : ¬ ((20 : Int) < p.catches.length) := by simpa using h
                                         omega
  have s1 := show_runs hm' hs (modT_room hm' hs)
  have s2 := rshow_runs hm' hs (modT_len hm' hs)
  obtain ⟨l, n, hT⟩ := showT_form m
  rw [hT] at s1 s2
  refine Goes.call s1 (Goes.chk rfl (Goes.chk rfl (Goes.chk rfl (Goes.call s2 (Goes.chk rfl (Goes.chk rfl (Goes.chk rfl ?_)))))))
  refine Goes.tv (str_neq l) (Goes.ite rfl (fun h => nomatch h) fun _ => ?_)
  refine Goes.tv rfl (Goes.ite rfl (fun h => ?_) fun _ => ?_)
  · simp at h
  refine Goes.jmp (f3_0_R _ _ _ _ _ _ _ _ _ _ _ _ _ _ _ _ _ _ _ _) ?_
  -- behind both loops
  have fin : (∀ n, n ∈ x.args → overI n) → (∀ n, n ∈ y.args → overI n) → Goes prog 3 (f3_3 (I x.op) (I x.dst) (I x.a) (I x.b) (W x.k) (I x.f) g1 (I y.kind) (I y.a) (I y.dst) (I y.f) g2 (I y.to) (I y.els) (I y.pad) (I p.dst) g3 (B p.all) (B p.cleanup)) (B true) := by
    intro ha1 ha2
    unfold f3_3
    refine Goes.tv rfl (Goes.ite rfl (fun _ => Goes.ret) fun k1 => ?_)
    refine Goes.tv rfl (Goes.ite rfl (fun _ => Goes.ret) fun k2 => ?_)
    refine Goes.tv rfl (Goes.ite rfl (fun _ => Goes.ret) fun k3 => ?_)
    refine Goes.tv rfl (Goes.ite rfl (fun _ => Goes.ret) fun k4 => ?_)
    refine Goes.tv rfl (Goes.ite rfl (fun _ => Goes.ret) fun k5 => ?_)
    refine Goes.tv rfl (Goes.ite rfl (fun _ => Goes.ret) fun k6 => ?_)
    refine Goes.tv rfl (Goes.ite rfl (fun _ => Goes.ret) fun k7 => ?_)
    refine Goes.tv rfl (Goes.ite rfl (fun _ => Goes.ret) fun k8 => ?_)
    refine Goes.tv rfl (Goes.ite rfl (fun _ => Goes.ret) fun k9 => ?_)
    refine Goes.tv rfl (Goes.ite rfl (fun _ => Goes.ret) fun k10 => ?_)
    refine Goes.tv rfl (Goes.ite rfl (fun _ => Goes.ret) fun k11 => ?_)
    have ov : ∀ {n : Int}, decide (n < -1000000000) = false → inI n → overI n := fun {n} h hi => ⟨by simpa using h, hi.2⟩
    have hxo : insO x := ⟨ov k1 ho1.2.1, ov k2 ho1.2.2.1, ov k3 ho1.2.2.2.1, ov k4 ho1.2.2.2.2.2, ha1, hl1⟩
    have hyo : endO y := ⟨ov k5 ho2.2.1, ov k6 ho2.2.2.1, ov k7 ho2.2.2.2.1, ov k8 ho2.2.2.2.2.1, ov k9 ho2.2.2.2.2.2.1, ov k10 ho2.2.2.2.2.2.2, ha2, hl2⟩
    have hpo : overI p.dst := ov k11 ho3
    have a1 := ins_runs hx' hl1
    have a2 := rins_runs hx' hxo
    have b1 := end_runs hy' hl2
    have b2 := rend_runs hy' hyo
    have c1 := pad_runs hp' hl3
    have c2 := rpad_runs hp' hpo hl3
    refine Goes.call a1 (Goes.chk rfl (Goes.call a2 (Goes.chk rfl (Goes.tv (str_eq _) (Goes.ite rfl (fun _ => ?_) fun h => nomatch h)))))
    refine Goes.call b1 (Goes.chk rfl (Goes.call b2 (Goes.chk rfl (Goes.tv (str_eq _) (Goes.ite rfl (fun _ => ?_) fun h => nomatch h)))))
    exact Goes.call c1 (Goes.chk rfl (Goes.call c2 (Goes.chk rfl (Goes.tv (str_eq _) Goes.ret))))
  have loop2 : (∀ n, n ∈ x.args → overI n) → ∀ d k, k + d = y.args.length → (∀ i, i < k → ∀ n, y.args[i]? = some n → overI n) → Goes prog 3 (f3_2 (I (k : Int)) (I x.op) (I x.dst) (I x.a) (I x.b) (W x.k) (I x.f) g1 (I y.kind) (I y.a) (I y.dst) (I y.f) g2 (I y.to) (I y.els) (I y.pad) (I p.dst) g3 (B p.all) (B p.cleanup)) (B true) := by
    intro ha1 d
    induction d with
    | zero =>
      intro k hk ha
      have hk : k = y.args.length := by omega
      subst hk
      unfold f3_2
      refine Goes.tv hg2.len (Goes.tv rfl (Goes.ite asB_end (fun h => nomatch h) fun _ => Goes.jmp (f3_3_R _ _ _ _ _ _ _ _ _ _ _ _ _ _ _ _ _ _ _) (fin ha1 fun n hn => ?_)))
      obtain ⟨i, hi⟩ := List.mem_iff_getElem?.1 hn
      exact ha i (List.getElem?_eq_some_iff.1 hi).1 n hi
    | succ d ih =>
      intro k hk ha
      have hkl : k < y.args.length := by omega
      have hak : y.args[k]? = some y.args[k] := List.getElem?_eq_getElem hkl
      obtain ⟨e, he, rfl, hin⟩ := hg2.idx (k := .i64) hak
      unfold f3_2
      refine Goes.tv hg2.len (Goes.tv rfl (Goes.ite (asB_lt hkl) (fun _ => ?_) fun h => nomatch h))
      refine Goes.tvs he (Goes.chk rfl (Goes.tv rfl (Goes.ite rfl (fun _ => Goes.ret) fun h => ?_)))
      refine Goes.tv (inc hkl hg2.bnd) (Goes.jmp (f3_2_R _ _ _ _ _ _ _ _ _ _ _ _ _ _ _ _ _ _ _ _) (ih (k + 1) (by omega) fun i hi n hn => ?_))
      by_cases hik : i = k
      · subst hik
        rw [hak] at hn
        cases hn
        exact ⟨by simpa [nth] using h, hin.2⟩
      · exact ha i (by omega) n hn
  have loop1 : ∀ d k, k + d = x.args.length → (∀ i, i < k → ∀ n, x.args[i]? = some n → overI n) → Goes prog 3 (f3_0 (I (k : Int)) (I x.op) (I x.dst) (I x.a) (I x.b) (W x.k) (I x.f) g1 (I y.kind) (I y.a) (I y.dst) (I y.f) g2 (I y.to) (I y.els) (I y.pad) (I p.dst) g3 (B p.all) (B p.cleanup)) (B true) := by
    intro d
    induction d with
    | zero =>
      intro k hk ha
      have hk : k = x.args.length := by omega
      subst hk
      unfold f3_0
      refine Goes.tv hg1.len (Goes.tv rfl (Goes.ite asB_end (fun h => nomatch h) fun _ => Goes.jmp (f3_1_R _ _ _ _ _ _ _ _ _ _ _ _ _ _ _ _ _ _ _) ?_))
      unfold f3_1
      refine Goes.jmp (f3_2_R _ _ _ _ _ _ _ _ _ _ _ _ _ _ _ _ _ _ _ _) (loop2 (fun n hn => ?_) y.args.length 0 (by omega) fun i hi => by omega)
      obtain ⟨i, hi⟩ := List.mem_iff_getElem?.1 hn
      exact ha i (List.getElem?_eq_some_iff.1 hi).1 n hi
    | succ d ih =>
      intro k hk ha
      have hkl : k < x.args.length := by omega
      have hak : x.args[k]? = some x.args[k] := List.getElem?_eq_getElem hkl
      obtain ⟨e, he, rfl, hin⟩ := hg1.idx (k := .i64) hak
      unfold f3_0
      refine Goes.tv hg1.len (Goes.tv rfl (Goes.ite (asB_lt hkl) (fun _ => ?_) fun h => nomatch h))
      refine Goes.tvs he (Goes.chk rfl (Goes.tv rfl (Goes.ite rfl (fun _ => Goes.ret) fun h => ?_)))
      refine Goes.tv (inc hkl hg1.bnd) (Goes.jmp (f3_0_R _ _ _ _ _ _ _ _ _ _ _ _ _ _ _ _ _ _ _ _) (ih (k + 1) (by omega) fun i hi n hn => ?_))
      by_cases hik : i = k
      · subst hik
        rw [hak] at hn
        cases hn
        exact ⟨by simpa [nth] using h, hin.2⟩
      · exact ha i (by omega) n hn
  exact loop1 x.args.length 0 (by omega) fun i hi => by omega
end Go.Ab.D5

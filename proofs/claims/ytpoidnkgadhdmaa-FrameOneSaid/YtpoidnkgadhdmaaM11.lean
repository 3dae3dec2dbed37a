/- Copying, and building slices. No condition but that the table of types is the program's. -/
import Derived.Test.YtpoidnkgadhdmaaM10
namespace Go.Ab
open Go.RowKit
set_option linter.unusedVariables false
section
variable {P : Program} {E : Env} {C : Cal} {w0 : Bs} {w w' : World} {I0 I R : Nat → Prop} {g g' : Gh} {st st' : ASt} {a : Act} {ov : List Value} {look : Look} {Q : Exit → Act → World → Prop} {id : Nat}
variable {dst : Option Tmp} {type : TypeId} {pos : String} {after : Array Edge} {guard : Option (Nat × Bool)}

theorem copyO_sound (hE : ∀ t d, E.T t = some d → TyOk P t d) (hlk : ∀ i b, look i = some b → st.look i = some b) (hs : SimI w0 I0 NoR g st a ov w) {t et : TypeId} {d : TyD} (hel : elemOf E.T t = some (et, d)) {x y : Operand} {e : Eff}
    (hh : (copyO look d (st.ev x) (st.ev y)).hits C e) (ha : e.app st dst = some st') : Good P w0 I0 ov ⟨dst, .call ⟨.builtin .copy, #[x, y], #[t, t]⟩, type, pos, after, guard⟩ st' a w Q := by
  obtain ⟨dt, hT, hk, hTe⟩ := elemOf_spec hel
  have ht := hE _ _ hT
  have hte := hE _ _ hTe
  have hu := kd_slice ht hk
  unfold copyO at hh
  obtain ⟨news, ps, hh, st1, g1, R1, us2, T, ts, p1, p2, p3, p4, p5, hsrc, hTR⟩ := srcO_sound (dst := dst) hlk hs (hs.ev y) hh
  have hx := hs.ev x
  rw [← p3] at hsrc
  split at hh
  · rename_i i r p hxi
    rw [hxi] at hx p5
    have hts : ∀ r, memP i r ts = false := p5 i rfl
    split at hh
    · rename_i x0 hx0
      obtain ⟨xs, h1, h2⟩ := rootOf_some hx0
      obtain ⟨xs', x', nd, g1', g2, hnode, g4⟩ := hx
      rw [hlk _ _ h1] at g1'
      cases g1'
      rw [h2] at g2
      cases g2
      obtain ⟨z, hz, y1, hp, hh⟩ := getO_hits hh
      obtain ⟨x1, hset, n, hn, hh⟩ := setO_hits hh
      cases hh
      obtain ⟨t1, t2, t3⟩ := p4.tree i xs hts (hlk _ _ h1)
      have hrl : r < xs.length := (List.getElem?_eq_some_iff.1 h2).1
      have hfr : ∀ b, g1.φ i r b → Foot g1 st1.look i b := fun b hb => .inr ⟨xs, r, t1, hrl, hb⟩
      obtain ⟨v, Sy, s1, s2, s3, s4, s5⟩ := (p2.trees i xs t1 r x0 h2).sub hz
      rw [t2] at s3
      obtain ⟨e1, e2⟩ := Node.unique hnode s3
      obtain ⟨A, c, hf, hA, hcell⟩ := hsrc.form
      have hlm : (st1.mapS (CA.drop i r (wayJs p) true)).look i = some (.tree xs) := by rw [look_mapS, t1]; rfl
      have happ : primsApp dst (ps ++ [.drop i r (wayJs p) true, .root i r x1]) st = some ((st1.mapS (CA.drop i r (wayJs p) true)).setBox i (some (.tree (setNth xs r x1)))) := by
        rw [prims_append, p1, Option.bind_some]
        simp only [primsApp, Prim.app, setRoot_tree hlm]
      simp only [Eff.app, happ, Option.some.injEq] at ha
      subst ha
      -- what becomes of the state
      have fin : ∀ (w' : World) (S' : Nat → Prop), RepO w' g1.I y1 v S' → y1.nd = z.nd → w0.Bel w' → w.heap.size ≤ w'.heap.size → (∀ b, b < w.heap.size → ¬ Sy b → w'.heap[b]? = w.heap[b]?) → (∀ b, S' b → Sy b ∨ R1 b) →
          (execOp a.eval ⟨dst, .call ⟨.builtin .copy, #[x, y], #[t, t]⟩, type, pos, after, guard⟩).run P w = .ok (.value (.int .i64 (Nat.min news.length n))) w' →
          Good P w0 I0 ov ⟨dst, .call ⟨.builtin .copy, #[x, y], #[t, t]⟩, type, pos, after, guard⟩ (((st1.mapS (CA.drop i r (wayJs p) true)).setBox i (some (.tree (setNth xs r x1)))).put dst (.one (.t (.lit (.int .i64 (Nat.min news.length n)))))) a w Q := by
        intro w' S' hr hnd hw hsz hblk hS hrun
        have hfx : ∀ b, g1.φ i r b → b < w.heap.size := fun b hb => (p2.foot i b (hfr b hb)).2.1
        obtain ⟨m1, m2⟩ := s5 w' g1.I y1 x1 S' hset (fun b hb => hblk b (p2.lt b hb) (fun h => (p2.foot i b (hfr b (s2 b h))).2.2.1 hb)) (fun _ h => h) (fun b hb hn => hblk b (hfx b hb) hn) hr (fun b hb hb2 => by
          rcases hS b hb with h | h
          · exact h
          · exact absurd h (p2.foot i b (hfr b hb2)).2.2.2)
        obtain ⟨q1, q2⟩ := p2.updRoot t1 h2 (CA.drop i r (wayJs p) true) (fun q => leads true (wayJs p) q = false) (drop_ok i r (wayJs p) true) (R' := NoR) (I' := g1.I) m1
          (fun q v' nd ho _ hn => m2 q v' nd (fun q' hq' hn' => by
            cases q' with
            | nil => exact ⟨hn'.1, by rw [hn'.2, hnd]⟩
            | cons kj q' => rw [hq', leads_strict p _ (by simp)] at ho; cases ho) hn)
          hw hsz (fun b hb hn _ => hblk b hb (fun h => hn (s2 b h)))
          (fun b hb => by
            rcases hb with h | h
            · exact .inl h.1
            · rcases hS b h with h | h
              · exact .inl (s2 b h)
              · exact .inr (.inl h))
          (fun b hb => hb.elim) (fun _ h => h) (fun _ h => .inl h) (fun b hb hS' => by
            rcases hS' with h | h
            · exact (p2.foot i b (hfr b h.1)).2.2.1 hb
            · rcases hS b h with h | h
              · exact (p2.foot i b (hfr b (s2 b h))).2.2.1 hb
              · exact (p2.res b h).2.2 hb)
        exact wp_value hrun ⟨_, q1.put dst (v := .one (.t (.lit (.int .i64 (Nat.min news.length n))))) ⟨.lit _, rfl⟩⟩
      have hrun0 : ∀ {u : Value} {w' : World}, (Builtin.copy_ #[t, t] type #[a.eval x, a.eval y]).run P w = .ok u w' → (execOp a.eval ⟨dst, .call ⟨.builtin .copy, #[x, y], #[t, t]⟩, type, pos, after, guard⟩).run P w = .ok (.value u) w' := fun h =>
        run_builtin (s := Builtin.copy_ #[t, t] type #[a.eval x, a.eval y]) (fun cs => by simp [builtin]) h
      unfold pcopy at hp
      split at hp
      · rename_i s xs0
        split at hp
        · rename_i hse
          subst hse
          simp only [Option.some.injEq] at hp
          subst hp
          simp only [slLen, Option.some.injEq] at hn
          subst hn
          have hnI : ∀ b, Sy b → ¬ g1.I b := fun b hb => (p2.foot i b (hfr b (s2 b hb))).2.2.1
          have hall : ∀ x ∈ xs0, x.length = d.size := by cases s1 with | fr h => cases h | sl _ _ _ _ _ _ hl => exact hl
          obtain ⟨a0, cap0, vs, ty, us0, w1, w2, w3, w4⟩ := s1.write hnI
          obtain ⟨m, hm⟩ : ∃ m, m = min news.length xs0.length := ⟨_, rfl⟩
          have hm1 : m ≤ news.length := by rw [hm]; exact Nat.min_le_left _ _
          have hm2 : m ≤ xs0.length := by rw [hm]; exact Nat.min_le_right _ _
          have hmul1 : m * d.size ≤ news.length * d.size := Nat.mul_le_mul_right _ hm1
          have hmul2 : m * d.size ≤ xs0.length * d.size := Nat.mul_le_mul_right _ hm2
          have hul : (us2.take (m * d.size)).length = m * d.size := by rw [List.length_take, hsrc.len]; omega
          have hfl : (news.take xs0.length).flatten = news.flatten.take (m * d.size) := by
            have : news.take xs0.length = news.take m := by
              rw [hm]
              rcases Nat.le_total news.length xs0.length with h | h
              · rw [Nat.min_eq_left h, List.take_length, List.take_of_length_le h]
              · rw [Nat.min_eq_right h]
            rw [this, flat_take _ hsrc.all]
          have hfll : (news.flatten.take (m * d.size)).length = m * d.size := by rw [List.length_take, flat_len hsrc.all]; omega
          have hfit : a0.off + 0 + (us2.take (m * d.size)).length ≤ vs.size := by
            rw [hul]
            have h1 := w3.fit
            have h2 := Nat.mul_le_mul_right d.size w3.le
            omega
          have hone : ∀ u ∈ us2.take (m * d.size), u.oneCell' = true := fun u hu => hsrc.one u (List.mem_of_mem_take hu)
          have hst := run_storeCells_at P a0.block a0.off ty (us2.take (m * d.size)) 0 vs w w3.heap (by simpa using hfit) hone
          simp only [Nat.add_zero] at hst
          have hheap := setRow_heap w a0.block vs (vs.toList.take a0.off ++ us2.take (m * d.size) ++ vs.toList.drop (a0.off + (us2.take (m * d.size)).length)).toArray ty (0, 0) w3.heap
          obtain ⟨W, hW⟩ : ∃ W, W = w.setRow a0.block (vs.toList.take a0.off ++ us2.take (m * d.size) ++ vs.toList.drop (a0.off + (us2.take (m * d.size)).length)).toArray := ⟨_, rfl⟩
          rw [← hW] at hst hheap
          have hoth : ∀ b, b ≠ a0.block → W.heap[b]? = w.heap[b]? := fun b hb => by rw [hW]; exact setRow_other w a0.block b _ hb
          have hablk : w0.New a0.block := (p2.foot i _ (hfr _ (s2 _ w2))).1
          have hlen2 : (news.take xs0.length ++ xs0.drop news.length).length = xs0.length := by simp; omega
          have hflat2 : (news.take xs0.length ++ xs0.drop news.length).flatten = spl xs0.flatten 0 (news.flatten.take (m * d.size)) := by
            rw [List.flatten_append, hfl, flat_drop _ hall, spl, List.take_zero, List.nil_append, Nat.zero_add, hfll]
            congr 1
            rcases Nat.le_total news.length xs0.length with h | h
            · rw [hm, Nat.min_eq_left h]
            · rw [hm, Nat.min_eq_right h, List.drop_of_length_le (by rw [flat_len hall]; exact Nat.mul_le_mul_right _ h), List.drop_of_length_le (by rw [flat_len hall]; exact Nat.le_refl _)]
          obtain ⟨n1, n2⟩ := w4 0 (news.flatten.take (m * d.size)) (us2.take (m * d.size)) (fun k b => k < m * d.size ∧ T k b) W (news.take xs0.length ++ xs0.drop news.length) (by rw [hfll, flat_len hall]; omega) (by rw [hul, hfll]) hone
            (fun k c hc => by
              have hk' : k < m * d.size := by have := (List.getElem?_eq_some_iff.1 hc).1; rw [hfll] at this; exact this
              rw [List.getElem?_take_of_lt hk'] at hc
              have := hsrc.rep k c hc
              rw [List.getD_eq_getElem?_getD] at this ⊢
              rw [List.getElem?_take_of_lt hk']
              exact this.mono (fun b hb => ⟨hk', hb⟩))
            (fun k b hb h => (p2.foot i b (hfr b (s2 b h))).2.2.2 (hTR k b hb.2)) (fun k k' b hb hb' => hsrc.apart k k' b hb.2 hb'.2) (by rw [hheap]; rfl) hoth hlen2
            (fun x hx => by
              rcases List.mem_append.1 hx with h | h
              · exact hsrc.all x (List.mem_of_mem_take h)
              · exact hall x (List.mem_of_mem_drop h)) hflat2
          refine fin W _ n1 (by simp only [TV.nd, hlen2]) (by rw [hW]; exact p2.below.setRow hablk _) (by rw [hW]; simp) (fun b _ hb => hoth b (fun e => hb (e ▸ w2))) (fun b hb => ?_) (hrun0 ?_)
          · rcases hb with h | ⟨k, h⟩
            · exact .inl h
            · exact .inr (hTR k b h.2)
          · rw [e1, w1, hf]
            have hmin : min news.length xs0.length = m := hm.symm
            have hmin2 : Nat.min news.length xs0.length = m := hm.symm
            have hfc : (Builtin.firstCells d.size m (.slice A news.length c)).run P w = .ok (us2.take (m * d.size)).toArray w := by
              cases A with
              | none =>
                have h0 := hA rfl
                have : m = 0 := by rw [hm, h0]; simp
                subst this
                simp [Builtin.firstCells]
              | some ad => exact run_firstCells_some (P := P) w d.size m ad news.length c _ hul (fun j u hu => hcell ad rfl j u (by
                  have hj : j < m * d.size := by have := (List.getElem?_eq_some_iff.1 hu).1; rw [hul] at this; exact this
                  rwa [List.getElem?_take_of_lt hj] at hu))
            have hadd : a0 = ⟨a0.block, a0.off, none⟩ := by
              have := w3.spot
              obtain ⟨b, o, sp⟩ := a0
              simp at this
              subst this
              rfl
            rw [← hadd] at hst
            simp [Builtin.copy_, run_und hu, Builtin.lenOf, run_size hte, hmin, hfc, hst, goInt]
        · cases hp
      · simp only [Option.some.injEq] at hp
        subst hp
        have hv := repO_lit s1
        have hv2 : a.eval x = .slice none 0 0 := by rw [e1, hv]
        simp only [slLen, Option.some.injEq] at hn
        subst hn
        refine fin w Sy (.fr (by rw [hv]; exact .lit _)) rfl p2.below (Nat.le_refl _) (fun _ _ _ => rfl) (fun b hb => .inl hb) (hrun0 ?_)
        rw [hv2, hf]
        have hfc : (Builtin.firstCells d.size 0 (.slice A news.length c)).run P w = .ok #[] w := by
          cases A with
          | none => simp [Builtin.firstCells]
          | some ad => exact run_firstCells_some (P := P) w d.size 0 ad news.length c [] (by simp) (by simp)
        simp [Builtin.copy_, run_und hu, Builtin.lenOf, run_size hte, hfc, goInt]
      · cases hp
    · exact hh.elim
  · exact hh.elim

/-! ### building -/
theorem chunks_spec {α : Type} (s : Nat) : ∀ (n : Nat) (l : List α), l.length = n * s → (chunks s n l).length = n ∧ (∀ x ∈ chunks s n l, x.length = s) ∧ (chunks s n l).flatten = l
  | 0, l, h => ⟨rfl, by simp [chunks], by have : l = [] := List.eq_nil_of_length_eq_zero (by simpa using h); subst this; rfl⟩
  | n + 1, l, h => by
    have h1 : (l.drop s).length = n * s := by rw [List.length_drop, h, Nat.add_mul]; omega
    obtain ⟨k1, k2, k3⟩ := chunks_spec s n (l.drop s) h1
    have hl : (l.take s).length = s := by rw [List.length_take, h, Nat.add_mul]; omega
    refine ⟨by simp [chunks, k1], fun x hx => ?_, by simp only [chunks, List.flatten_cons, k3, List.take_append_drop]⟩
    rcases List.mem_cons.1 hx with rfl | hx
    · exact hl
    · exact k2 x hx

theorem flatten_replicate_len {α : Type} : ∀ (n : Nat) (l : List α), (List.replicate n l).flatten.length = n * l.length
  | 0, l => by simp
  | n + 1, l => by simp [List.replicate_succ, flatten_replicate_len n l, Nat.add_mul]; omega

theorem zeros_eq (z : Array Value) (n : Nat) (hz : 0 < z.size) : ((Array.range (n * z.size)).map (z[· % z.size]!)).toList = (List.replicate n z.toList).flatten := by
  apply List.ext_getElem?
  intro k
  by_cases hk : k < n * z.size
  · have hall : ∀ x ∈ List.replicate n z.toList, x.length = z.size := fun x hx => by rw [List.eq_of_mem_replicate hx]; simp
    have hkd : k / z.size < n := Nat.div_lt_of_lt_mul (by rw [Nat.mul_comm]; exact hk)
    have hr := Nat.mod_lt k hz
    obtain ⟨el, c, g1, g2, g3⟩ := flat_at hall (by simpa using hkd) hr
    rw [Nat.mul_comm, Nat.div_add_mod] at g3
    rw [List.getElem?_replicate, if_pos hkd] at g1
    cases g1
    rw [g3]
    simp only [Array.toList_map, List.getElem?_map, Array.toList_range]
    rw [List.getElem?_range hk]
    simp only [Option.map_some, Option.some.injEq]
    rw [getElem!_pos z _ hr]
    rw [Array.getElem?_toList, Array.getElem?_eq_getElem hr] at g2
    exact Option.some.inj g2
  · rw [List.getElem?_eq_none (by simpa using hk), List.getElem?_eq_none (by rw [flatten_replicate_len]; simpa using hk)]

theorem op_buildSlice (hE : ∀ t d, E.T t = some d → TyOk P t d) (hlk : ∀ i b, look i = some b → st.look i = some b) (hs : SimI w0 I0 NoR g st a ov w) {t : TypeId} {len : Nat} {parts : Array (Nat × Operand)} {e : Eff}
    (hh : (opL E (st.nid dst) look (.buildSlice t len parts) ((Op.buildSlice t len parts).operands.toList.map st.ev)).hits C e) (ha : e.app st dst = some st') : Good P w0 I0 ov ⟨dst, .buildSlice t len parts, type, pos, after, guard⟩ st' a w Q := by
  simp only [opL] at hh
  split at hh
  · rename_i et d hel
    obtain ⟨dt, hT, hk, hTe⟩ := elemOf_spec hel
    have ht := hE _ _ hT
    have hte := hE _ _ hTe
    have hu := kd_slice ht hk
    have hops : (Op.buildSlice t len parts).operands.toList.map st.ev = parts.toList.map fun p => st.ev p.2 := by simp [Op.operands]
    rw [hops] at hh
    obtain ⟨z, hz, hzc⟩ := run_zero (w := w) hte
    have hzl : z.cells.size = d.size := by have := hte.zlen; rw [← hzc] at this; simpa using this
    -- the cells at the beginning
    obtain ⟨Z, hZ⟩ : ∃ Z : Array Value, Z = (Array.range (len * d.size)).map ((if len * d.size = 0 then #[] else z.cells)[· % (if len * d.size = 0 then #[] else z.cells).size]!) := ⟨_, rfl⟩
    have hZl : Z.toList = (List.replicate len d.zero).flatten := by
      rw [hZ]
      by_cases h0 : len * d.size = 0
      · rw [h0]
        have : (List.replicate len d.zero).flatten = [] := List.eq_nil_of_length_eq_zero (by rw [flatten_replicate_len, hte.zlen, h0])
        rw [this]; simp
      · rw [if_neg h0, ← hzc, ← hzl]
        have h1 : 0 < z.cells.size := by
          rcases Nat.eq_zero_or_pos z.cells.size with h | h
          · rw [← hzl, h] at h0; simp at h0
          · exact h
        exact zeros_eq z.cells len h1
    have hcr0 : CR w g st.look ((List.replicate len d.zero).flatten.map fun v => .t (.lit v)) Z.toList := by
      rw [hZl]
      exact CR.lits (fun v hv => by
        obtain ⟨l, hl, hv'⟩ := List.mem_flatten.1 hv
        rw [List.eq_of_mem_replicate hl] at hv'
        exact hte.zone v hv')
    obtain ⟨cs, cells, hh, hfill, hcr⟩ := fillParts_hits (place := fun i => some (i * d.size, d.size)) (fun i off agg n hi => by
      simp only [Option.some.injEq, Prod.mk.injEq] at hi
      obtain ⟨rfl, _, rfl⟩ := hi
      rfl) hs parts.toList _ Z hcr0 hh
    obtain ⟨ds, hh, hdl, hok⟩ := gather_hits hlk hs hcr hh
    cases hc : nodupP (ds.flatMap Gd.ts) && (len * d.size).ble 16777216 && (ds.map Gd.y).length.beq (len * d.size) && Nat.blt 0 d.size with
    | false => simp only [hc, cond_false] at hh; exact hh.elim
    | true =>
      simp only [hc, cond_true] at hh
      cases hh
      simp only [Bool.and_eq_true] at hc
      obtain ⟨⟨⟨hc0, hc1⟩, hc2⟩, hc3⟩ := hc
      have hc1 : len * d.size ≤ 16777216 := by simpa using hc1
      have hc2 : ds.length = len * d.size := by simpa using hc2
      have hc3 : 0 < d.size := by simpa using hc3
      have hrun : (execOp a.eval ⟨dst, .buildSlice t len parts, type, pos, after, guard⟩).run P w = .ok (.value (.slice (some ⟨w.heap.size, 0, none⟩) len len)) (w.alloc (.cells cells et)) := by
        have hpl : (parts.map fun (p : Nat × Operand) => (p.1, a.eval p.2)).toList = parts.toList.map fun p => (p.1, a.eval p.2) := by simp
        have hnot' : ¬ 16777216 < len * d.size := by omega
        simp only [execOp, Instr.buildSlice, Sem.run_bind, run_und hu, Result.andThen_ok, run_size hte]
        by_cases h0 : len * d.size = 0
        · have hZ2 : Array.map (fun x => (default : Value)) (Array.range (len * d.size)) = Z := by rw [hZ]; simp [h0]
          simp [h0, newRow]
          rw [h0] at hZ2
          rw [← hZ2] at hfill
          simp [hfill]
        · have hZ' : Array.map (fun x => z.cells[x % z.cells.size]!) (Array.range (len * d.size)) = Z := by rw [hZ]; simp [h0]
          simp [hnot', h0, newRow, hz, hZ', hfill]
      have hn63 : len ≤ maxLen := by
        have : len * 1 ≤ len * d.size := Nat.mul_le_mul_left _ hc3
        simp only [maxLen]; omega
      have hcl : cells.toList.length = ds.length := by rw [hcr.1, hdl]
      obtain ⟨st2, g2, R2, F, q1, q2, q3, q4, q5, q6, q7, q8⟩ := gather_state (dst := dst) ds hs hcl hok hc0
      obtain ⟨dd, h0, h1, h2, h3⟩ := mkNew_app ha q1 q4.out
      have hnid : st2.nid dst = st.nid dst := nid_eq q4.out dst
      rw [← hnid] at h1 h2 h3
      obtain ⟨k1, k2, k3⟩ := chunks_spec d.size len (ds.map Gd.y) (by simpa using hc2)
      refine new_tree q2 rfl hrun (q2.below.step (below_new w _)) (below_new w _).size (fun k hk _ => (below_new w _).block k hk) (S := fun b => b = w.heap.size ∨ ∃ m, F m b) ?_ (fun b hb => ?_) ⟨_, _, _, rfl⟩ h0 h1 h2 h3
      · have hold : ∀ b, b < w.heap.size → (w.alloc (.cells cells et)).heap[b]? = w.heap[b]? := (below_new w _).block
        have key : RepO (w.alloc (.cells cells et)) g2.I (.sl true d.size (chunks d.size len (ds.map Gd.y))) (.slice (some ⟨w.heap.size, 0, none⟩) (chunks d.size len (ds.map Gd.y)).length len) (fun b => b = w.heap.size ∨ ∃ m, F m b) := by
          refine .sl cells.toList cells et F (.inl rfl) ?_ k2 (fun k c hk' => ?_) (fun k b hb => ⟨.inr ⟨k, hb⟩, fun e => by have h5 := (q2.res b (q7 k b hb).1).2.1; have h6 : b = w.heap.size := e; omega⟩) q8
          · rw [k1]
            refine ⟨heap_alloc_new w _, rfl, Nat.le_refl _, hn63, by have := hcl; simp at this ⊢; omega, by omega, fun k _ => by rw [Nat.zero_add, Array.getElem?_toList], fun u hu' => ?_⟩
            obtain ⟨m, hm, rfl⟩ := List.mem_iff_getElem.1 hu'
            have hmd : m < ds.length := by omega
            exact (q6 m ds[m] _ (List.getElem?_eq_getElem hmd) (List.getElem?_eq_getElem hm)).2
          · rw [k3, List.getElem?_map] at hk'
            cases hdm : ds[k]? with
            | none => simp [hdm] at hk'
            | some dd' =>
              simp only [hdm, Option.map_some, Option.some.injEq] at hk'
              subst hk'
              have hkl : k < cells.toList.length := by rw [hcl]; exact (List.getElem?_eq_some_iff.1 hdm).1
              have := (q6 k dd' _ hdm (List.getElem?_eq_getElem hkl)).1
              rw [getD_some (List.getElem?_eq_getElem hkl)]
              rw [← q3] at this
              exact this.mv (fun b hb => hold b (q2.lt b hb)) (fun _ h => h) (fun b hb => hold b (q2.res b (q7 k b hb).1).2.1) (fun _ h => h)
        rwa [k1] at key
      · rcases hb with h | ⟨m, h⟩
        · subst h; exact .inr ⟨Nat.le_refl _, by simp⟩
        · exact .inl (q7 m b h).1
  · exact hh.elim
end
end Go.Ab

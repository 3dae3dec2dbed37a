
/- What the functions of layer 3 answer: a module's text, the whole. No condition. -/
import Derived.Test.YtpjgfmcefipjpaaDoorD3F21
set_option linter.unusedVariables false
set_option maxRecDepth 10000
namespace Go.Ab.D3
open Go Go.Ab Go.Proofs
theorem block_fin {q : Option Bool} {g : TV} {b : DBlock} (y0 y1 y2 y3 y4 y5 w : TV) (hg : RInts q g b.fin.args) (ho : b.fin.ok) (hl : b.fin.args.length ≤ 20) {acc : List UInt8} (hb : acc.length + (endT b.fin).length + 1 ≤ roomB) :
    Goes prog 27 (f27_2 y0 y1 y2 y3 y4 y5 (I b.fin.kind) (I b.fin.a) (I b.fin.dst) (I b.fin.f) g (I b.fin.to) (I b.fin.els) (I b.fin.pad) w (bufL acc)) (.tup [.tup [], .tup [.tup [], bufL (acc ++ endT b.fin ++ [10])]]) := by
  unfold f27_2
  have he : REnd q [I b.fin.kind, I b.fin.a, I b.fin.dst, I b.fin.f, g, I b.fin.to, I b.fin.els, I b.fin.pad] b.fin := ⟨g, rfl, hg, ho⟩
  exact Goes.call (end_runs he hl) (Goes.chk rfl (Goes.chk rfl (Goes.call (put_runs hb) (Goes.chk rfl (Goes.chk rfl Goes.ret)))))
theorem block_ins {q : Option Bool} {y5 g : TV} {b : DBlock} (y0 y1 y2 y3 y4 : TV) (hi : RL q 7 (RIns q) y5 b.ins) (hs : shortB b) (hg : RInts q g b.fin.args) (ho : b.fin.ok) : ∀ d k (w : TV) (acc : List UInt8), k + d = b.ins.length → (acc ++ (b.ins.drop k).flatMap (fun x => insT x ++ [10]) ++ endT b.fin ++ [10]).length ≤ roomB →
    Goes prog 27 (f27_1 y5 (I b.ins.length) (I k) y0 y1 y2 y3 y4 y5 (I b.fin.kind) (I b.fin.a) (I b.fin.dst) (I b.fin.f) g (I b.fin.to) (I b.fin.els) (I b.fin.pad) w (bufL acc))
      (.tup [.tup [], .tup [.tup [], bufL (acc ++ (b.ins.drop k).flatMap (fun x => insT x ++ [10]) ++ endT b.fin ++ [10])]]) := by
  intro d
  induction d with
  | zero =>
    intro k w acc hk hb
    have hk : k = b.ins.length := by omega
    subst hk
    unfold f27_1
    refine Goes.tv rfl (Goes.ite asB_end (fun h => nomatch h) fun _ => ?_)
    simp only [List.drop_length, List.flatMap_nil, List.append_nil] at hb ⊢
    exact Goes.jmp (f27_2_R _ _ _ _ _ _ _ _ _ _ _ _ _ _ _ _) (block_fin _ _ _ _ _ _ _ hg ho hs.2.2.1 (by simp at hb ⊢; omega))
  | succ d ih =>
    intro k w acc hk hb
    have hkl : k < b.ins.length := by omega
    have ha : b.ins[k]? = some b.ins[k] := List.getElem?_eq_getElem hkl
    have hargs := hs.2.2.2 k hkl _ ha
    rw [List.drop_eq_getElem_cons hkl, List.flatMap_cons] at hb ⊢
    obtain ⟨e, he, hr⟩ := hi.idx (k := .i64) ha
    generalize b.ins[k] = x at *
    have hr2 := ins_runs hr hargs
    obtain ⟨g', rfl, _⟩ := hr
    unfold f27_1
    refine Goes.tv rfl (Goes.ite (asB_lt hkl) (fun _ => ?_) fun h => nomatch h)
    refine Goes.tvs he (Goes.chk rfl (Goes.call hr2 (Goes.chk rfl (Goes.chk rfl (Goes.call (put_runs (by simp at hb; omega)) (Goes.chk rfl (Goes.chk rfl (Goes.tv (inc hkl hi.bnd) (Goes.jmp (f27_1_R _ _ _ _ _ _ _ _ _ _ _ _ _ _ _ _ _ _ _) ?_)))))))))
    have := ih (k + 1) .hole (acc ++ insT x ++ [10]) (by omega) (by simpa [List.append_assoc] using hb)
    have e : acc ++ (insT x ++ [10] ++ (b.ins.drop (k + 1)).flatMap (fun x => insT x ++ [10])) = acc ++ insT x ++ [10] ++ (b.ins.drop (k + 1)).flatMap (fun x => insT x ++ [10]) := by simp [List.append_assoc]
    rw [e]
    exact this
theorem block_runs {q : Option Bool} {e : List TV} {b : DBlock} (h : RBlock q e b) (hs : shortB b) {s : List UInt8} (hb : s.length + (blockT b).length ≤ roomB) :
    Runs prog 27 [.tup [.tup [], bufL s], .agg e] (.tup [.tup [], .tup [.tup [], bufL (s ++ blockT b)]]) := by
  obtain ⟨c, i, g, rfl, hc, hd, hi, hg, ho⟩ := h
  have hp : Runs prog 15 [.agg [I b.pad.dst, c, B b.pad.all, B b.pad.cleanup]] (S (padT b.pad)) := pad_runs (q := q) ⟨c, rfl, hc, hd⟩ hs.2.1
  have e : s ++ blockT b = s ++ headT b ++ [10] ++ (b.ins.drop 0).flatMap (fun x => insT x ++ [10]) ++ endT b.fin ++ [10] := by simp [blockT, List.append_assoc]
  have hb' : (s ++ headT b ++ [10] ++ (b.ins.drop 0).flatMap (fun x => insT x ++ [10]) ++ endT b.fin ++ [10]).length ≤ roomB := by rw [← e]; simpa using hb
  have hb2 : s.length + (headT b).length + 1 ≤ roomB := by simp [List.length_append] at hb'; omega
  have rest : ∀ w, Goes prog 27 (f27_0 (B b.landing) (I b.pad.dst) c (B b.pad.all) (B b.pad.cleanup) i (I b.fin.kind) (I b.fin.a) (I b.fin.dst) (I b.fin.f) g (I b.fin.to) (I b.fin.els) (I b.fin.pad) w (bufL (s ++ headT b ++ [10]))) (.tup [.tup [], .tup [.tup [], bufL (s ++ blockT b)]]) := fun w => by
    unfold f27_0
    rw [e]
    exact Goes.tv hi.len (Goes.jmp (f27_1_R _ _ _ _ _ _ _ _ _ _ _ _ _ _ _ _ _ _ _) (block_ins _ _ _ _ _ hi hs hg ho b.ins.length 0 _ _ (by omega) hb'))
  refine Runs.of (f27_MR _ _) ?_
  unfold f27_M
  refine Goes.chk rfl (Goes.chk rfl (Goes.ite rfl (fun hl => ?_) fun hl => ?_))
  · have eh : headT b = padT b.pad := by simp [headT, hl]
    rw [eh] at rest hb2
    exact Goes.call hp (Goes.chk rfl (Goes.chk rfl (Goes.call (put_runs hb2) (Goes.chk rfl (Goes.chk rfl (Goes.jmp (f27_0_R _ _ _ _ _ _ _ _ _ _ _ _ _ _ _ _) (rest _)))))))
  · have eh : headT b = lineT [98, 108, 111, 99, 107] [] := by simp [headT, hl]
    rw [eh] at rest hb2
    exact Goes.call (line0 _ (by simp) (by simp)) (Goes.chk rfl (Goes.chk rfl (Goes.call (put_runs hb2) (Goes.chk rfl (Goes.chk rfl (Goes.jmp (f27_0_R _ _ _ _ _ _ _ _ _ _ _ _ _ _ _ _) (rest _)))))))

open Classical in
/-- What showing a module answers. -/
noncomputable def showT (m : DMod) : TV := if modP m then (if (modT m).length ≤ 65536 then .tup [S (modT m), I 0] else .tup [S [], I 3]) else .tup [S [], I 1]

theorem show_runs {q : Option Bool} {e : List TV} {m : DMod} (hm : RMod q e m) (hs : shortM m) (hb : (modT m).length ≤ roomB) : Runs prog 9 [.agg e] (showT m) := by
  have h8 := r8 hm
  obtain ⟨x, rfl, hx⟩ := hm
  refine Runs.of (f9_MR _) ?_
  unfold f9_M
  refine Goes.chk rfl (Goes.call h8 (Goes.chk rfl (Goes.tv rfl (Goes.ite rfl (fun h => ?_) fun h => ?_))))
  · have hn : ¬ modP m := by simpa [tt] using h
    simp only [showT, if_neg hn]
    exact Goes.ret
  · have hp : modP m := by simpa [tt] using h
    refine Goes.tv hx.len (Goes.chk rfl (Goes.jmp (f9_0_R _ _ _ _ _) ?_))
    have last : ∀ w acc', bufOf 5 acc' = bufL (modT m) → Goes prog 9 (f9_2 w acc') (showT m) := fun w acc' ha => by
      have hne : modT m ≠ [] := by
        obtain ⟨_, ⟨f, hf, _⟩, _⟩ := hp
        intro h0
        have := List.flatMap_eq_nil_iff.1 h0 f (List.mem_of_getElem? hf)
        simp [funcT] at this
      simp only [showT, if_pos hp]
      unfold f9_2
      rw [ha]
      refine Goes.chk rfl (Goes.call e_len (Goes.chk rfl (Goes.chk rfl (Goes.tv rfl (Goes.ite rfl (fun h => ?_) fun h => ?_)))))
      · have : ¬ (modT m).length ≤ 65536 := by simp at h; omega
        rw [if_neg this]; exact Goes.ret
      · have : (modT m).length ≤ 65536 := by simp at h; omega
        rw [if_pos this]
        exact Goes.chk rfl (Goes.call (e_str hne) (Goes.chk rfl (Goes.chk rfl Goes.ret)))
    have outer : ∀ d k (w acc' : TV) (acc : List UInt8), bufOf 5 acc' = bufL acc → k + d = m.funcs.length → acc ++ (m.funcs.drop k).flatMap funcT = modT m → Goes prog 9 (f9_0 x (I m.funcs.length) (I k) w acc') (showT m) := by
      intro d
      induction d with
      | zero =>
        intro k w acc' acc hacc hk ha
        have hk : k = m.funcs.length := by omega
        subst hk
        unfold f9_0
        refine Goes.tv rfl (Goes.ite asB_end (fun h => nomatch h) fun _ => ?_)
        simp only [List.drop_length, List.flatMap_nil, List.append_nil] at ha
        exact Goes.jmp (f9_2_R _ _) (last _ _ (ha ▸ hacc))
      | succ d ih =>
        intro k w acc' acc hacc hk ha
        have hkl : k < m.funcs.length := by omega
        have hf : m.funcs[k]? = some m.funcs[k] := List.getElem?_eq_getElem hkl
        have hsf := hs.2 k hkl _ hf
        rw [List.drop_eq_getElem_cons hkl, List.flatMap_cons] at ha
        obtain ⟨e, he, hr⟩ := hx.idx (k := .i64) hf
        generalize m.funcs[k] = f at *
        obtain ⟨y, rfl, hy, hpa, hre⟩ := hr
        have inner : ∀ d j (w acc' : TV) (acc : List UInt8), bufOf 5 acc' = bufL acc → j + d = f.blocks.length → acc ++ ((f.blocks.drop j).flatMap blockT ++ (m.funcs.drop (k + 1)).flatMap funcT) = modT m → Goes prog 9 (f9_1 x (I m.funcs.length) (I k) y (I f.blocks.length) (I j) w acc') (showT m) := by
          intro d
          induction d with
          | zero =>
            intro j w acc' acc hacc hj ha
            have hj : j = f.blocks.length := by omega
            subst hj
            unfold f9_1
            refine Goes.tv rfl (Goes.ite asB_end (fun h => nomatch h) fun _ => ?_)
            simp only [List.drop_length, List.flatMap_nil, List.nil_append] at ha
            exact Goes.tv (inc hkl hx.bnd) (Goes.jmp (f9_0_R _ _ _ _ _) (ih (k + 1) _ _ acc hacc (by omega) ha))
          | succ d ihb =>
            intro j w acc' acc hacc hj ha
            have hjl : j < f.blocks.length := by omega
            have hbl : f.blocks[j]? = some f.blocks[j] := List.getElem?_eq_getElem hjl
            have hsb := hsf.2 j hjl _ hbl
            rw [List.drop_eq_getElem_cons hjl, List.flatMap_cons] at ha
            obtain ⟨eb, heb, hrb⟩ := hy.idx (k := .i64) hbl
            generalize f.blocks[j] = b at *
            have hsz : acc.length + (blockT b).length ≤ roomB := by rw [← ha] at hb; simp at hb; omega
            have hrun := block_runs hrb hsb hsz
            obtain ⟨_, _, _, rfl, _⟩ := hrb
            unfold f9_1
            refine Goes.tv rfl (Goes.ite (asB_lt hjl) (fun _ => ?_) fun h => nomatch h)
            rw [hacc]
            refine Goes.tvs heb (Goes.chk rfl (Goes.chk rfl (Goes.call hrun (Goes.chk rfl (Goes.chk rfl (Goes.tv (inc hjl hy.bnd) (Goes.jmp (f9_1_R _ _ _ _ _ _ _ _) ?_)))))))
            exact ihb (j + 1) _ _ (acc ++ blockT b) rfl (by omega) (by rw [← ha]; simp [List.append_assoc])
        have hsz : acc.length + (lineT [102, 117, 110, 99] [f.params, f.regs]).length + 1 ≤ roomB := by rw [← ha] at hb; simp [funcT] at hb; omega
        unfold f9_0
        refine Goes.tv rfl (Goes.ite (asB_lt hkl) (fun _ => ?_) fun h => nomatch h)
        rw [hacc]
        refine Goes.tvs he (Goes.chk rfl (Goes.call (lineL (l := [f.params, f.regs]) _ (by simp [*]) (by simp) (by simp)) (Goes.chk rfl (Goes.chk rfl (Goes.call (put_runs hsz) (Goes.chk rfl (Goes.chk rfl (Goes.tv hy.len (Goes.jmp (f9_1_R _ _ _ _ _ _ _ _) ?_)))))))))
        exact inner f.blocks.length 0 _ _ (acc ++ lineT [102, 117, 110, 99] [f.params, f.regs] ++ [10]) rfl (by omega) (by rw [← ha]; simp [funcT, List.append_assoc])
    exact outer m.funcs.length 0 _ _ [] rfl (by omega) rfl
end Go.Ab.D3

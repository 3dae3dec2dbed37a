import Derived.Test.YthmcbcepgchhcaaAG7F44
section
set_option linter.unusedVariables false
set_option linter.unusedSimpArgs false
set_option maxRecDepth 10000
namespace Go.Ab.G7
open Go Go.Ab Go.Proofs
theorem usesE_of {k:Int} (h:has (usesE k) 1=true):1≤k∧k≤6:=by
 by_cases hn:1≤k∧k≤6
 ·exact hn
 ·have:usesE k=0:=by
   unfold usesE
   repeat rw [if_neg (by omega)]
  rw [this] at h
  exact absurd h (by decide)
theorem args_len {m:DMod} {regs n:Int} {l:List Int} (hM:modP m) (h:argsP m.funcs regs n l):l.length≤8:=by
 obtain ⟨_,g,hg,hl,_⟩:=h
 have:=(mod_func hM hg).1
 omega
theorem rStep {e es : List TV} {m : DMod} {s : DMach} (hm : RMod (some false) e m) (hM : modP m) (hs : RMach es s) (hQ : machQ m s) (hel : s.events.length + 1 ≤ 4294967296) :
    ∃ e2,Runs prog 40 [.agg e,.agg es] (.agg e2)∧RMach e2 (stepT m s):=by
  have hQ':=hQ
  obtain ⟨_,h32,h00,hQf,hL⟩:=hQ
  have hm':=hm
  have hs':=hs
  obtain ⟨y,rfl,hy⟩:=hm
  obtain ⟨g,i,v,rfl,hg,hi,hv,ho⟩:=hs
  by_cases hd:s.done=0
  rotate_left
  · have hT : stepT m s = s := by simp [stepT, hd]
    rw [hT]
    refine ⟨_,?_,hs'⟩
    refine Runs.of (f40_MR _ _) ?_
    unfold f40_M
    refine Goes.chk rfl (Goes.chk rfl (Goes.tv rfl (Goes.ite rfl (fun _=>Goes.ret) fun h=>?_)))
    simp [TV.cell,nth,machCells] at h; exact absurd h hd
  have h0:=h00 hd
  obtain ⟨f,ht⟩:∃ f,s.stack[s.stack.length - 1]? = some f:=⟨_,List.getElem?_eq_getElem (by omega)⟩
  have hQ:=hQf _ f ht
  have hrl:=frame_len hM hQ
  obtain ⟨hf0,u,hu,hLr,hb0,b,hb,ha0,ha1⟩:=hQ
  have hbo:blockOf m f=some b:=by simp [blockOf,hu,hb]
  obtain ⟨ef,hef,hrf⟩:=hg.idx (k:=.i64) ht
  obtain ⟨eb,hrs,hrb⟩:=rStands hm' hrf hf0 hu hb0 hb
  have hfit:=fit_block hrb
  have hrf':=hrf
  obtain ⟨gr,rfl,hgr,hof⟩:=hrf
  obtain ⟨c,is,ga,rfl,hc,hdi,his,hga,hfo⟩:=hrb
  have hT:stepT m s=if f.at_=b.ins.length then
        (if b.fin.kind = 1 then answeredT m s (reg f b.fin.a) else
         if b.fin.kind=4 then calledT m s b.fin.f b.fin.args else
         if b.fin.kind=5 then thrownT m s (reg f b.fin.a) else
         if b.fin.kind=6 then thrownT m s f.fly else
         if b.fin.kind=3∧reg f b.fin.a=0 then withT s { f with block:=b.fin.els,at_:=0 } else withT s { f with block:=b.fin.to,at_:=0 })
      else match b.ins[f.at_.toNat]? with
        | none=>s
        | some x=>insT m s f x:=by
    unfold stepT
    rw [if_neg (by simpa using hd)]
    first | (simp only [topT,ht,hbo]; done) | (simp only [topT,ht,hbo]; rfl)
  rw [hT]
  by_cases hat:f.at_=(b.ins.length:Int)
  rotate_left
  · rw [if_neg hat]
    rw [tt_false hat] at hrs
    have hlt:f.at_.toNat < b.ins.length:=by omega
    have hx:b.ins[f.at_.toNat]? = some b.ins[f.at_.toNat]:=List.getElem?_eq_getElem hlt
    generalize b.ins[f.at_.toNat]=x at hx
    rw [hx]
    simp only
    have hI:=mod_ins hM hu hb hx
    rw [← hLr] at hI
    obtain ⟨ex,hex,hrx⟩:=his.pel hx
    have hal:x.args.length≤4294967295:=by
      by_cases h11:x.op=11
      · have := hI.2.2.2.2.2.1
        rw [h11] at this
        have:=args_len hM (this rfl)
        omega
      · have hu := uses_of hI.1
        have hn:has (usesI x.op) 32=false:=by
          have:x.op=1∨x.op=2∨x.op=3∨x.op=4∨x.op=5∨x.op=6∨x.op=7∨x.op=8∨x.op=9∨x.op=10∨x.op=12∨x.op=13:=by omega
          rcases this with h | h | h | h | h | h | h | h | h | h | h | h <;> (rw [h]; rfl)
        have:=(hI.2.2.2.2.2.2 hn).2
        rw [this]; simp
    obtain ⟨e2,hr2,h2⟩:=rIns hm' hM hs' hrf' hrx hI ht hrl hal (by omega) hel
    refine ⟨e2,?_,h2⟩
    obtain ⟨g2,i2,v2,rfl,hg2,hi2,hv2,ho2⟩:=h2
    obtain ⟨z,rfl,hz,hxo⟩:=hrx
    refine Runs.of (f40_MR _ _) ?_
    unfold f40_M
    refine Goes.chk rfl (Goes.chk rfl (Goes.tv rfl (Goes.ite rfl (fun h=>?_) fun _=>?_)))
    · simp [TV.cell,nth,machCells] at h; exact absurd hd h
    refine Goes.tv (RL.len hg) (Goes.tv (dec h0 (by omega)) (Goes.tvs hef (Goes.chk rfl (Goes.call hrs (Goes.chk rfl (Goes.chk hfit (Goes.chk rfl (Goes.tv rfl (Goes.ite rfl (fun _=>?_) fun h=>nomatch h)))))))))
    refine Goes.nat his.slLen (Goes.nat (asNat_in ha0 hof.2.2.1) (Goes.chk ?_ (Goes.tvs hex (Goes.chk ?_ (Goes.tv (getP_of_pel hex rfl) (Goes.chk hz.isFr (Goes.call hr2 (Goes.chk (fit_mach hg2.isSl hi2.isSl hv2.isSl) Goes.ret))))))))
    · rw [blt_true hlt]; exact (Bool.and_true _).trans his.slSize
    · simp [fitsAt,zIns,isSlV,hz.isSl,TV.isSc,scV]
  rw [if_pos hat]
  rw [tt_true hat] at hrs
  have hE:=mod_end hM hu hb
  obtain ⟨hk0,hk1⟩:=usesE_of hE.1
  have hpa:=hE.2.1
  rw [← hLr] at hpa
  have wordA:within b.fin.a f.regs.length→∃ a,pidx 1 gr (I b.fin.a)=some [W a]∧inW a∧reg f b.fin.a=a:=by
    intro hA
    obtain ⟨a,ha,_⟩:=within_at hA
    obtain ⟨hia,haw⟩:=RWords.at_ hgr (k:=.i64) hA.1 ha
    exact ⟨a,hia,haw,getD_at ha⟩
  by_cases h1:b.fin.kind=1
  · rw [if_pos h1]
    rw [h1] at hpa
    obtain ⟨a,hia,haw,hra⟩:=wordA (hpa.1 rfl)
    rw [hra]
    obtain ⟨e2,hr2,h2⟩:=rAnswered hm' hM hs' haw hQ' h0
    refine ⟨e2,?_,h2⟩
    obtain ⟨g2,i2,v2,rfl,hg2,hi2,hv2,ho2⟩:=h2
    refine Runs.of (f40_MR _ _) ?_
    unfold f40_M
    refine Goes.chk rfl (Goes.chk rfl (Goes.tv rfl (Goes.ite rfl (fun h=>?_) fun _=>?_)))
    · simp [TV.cell,nth,machCells] at h; exact absurd hd h
    refine Goes.tv (RL.len hg) (Goes.tv (dec h0 (by omega)) (Goes.tvs hef (Goes.chk rfl (Goes.call hrs (Goes.chk rfl (Goes.chk hfit (Goes.chk rfl (Goes.tv rfl (Goes.ite rfl (fun h=>nomatch h) fun _=>?_)))))))))
    refine Goes.tv rfl (Goes.ite rfl (fun _=>?_) fun h=>?_)
    rotate_left
    · simp [TV.cell,TV.comp,nth] at h; omega
    exact Goes.tvs hia (Goes.chk rfl (Goes.call hr2 (Goes.chk (fit_mach hg2.isSl hi2.isSl hv2.isSl) Goes.ret)))
  rw [if_neg h1]
  by_cases h4:b.fin.kind=4
  · rw [if_pos h4]
    have hc4:=hE.2.2.2.1
    rw [h4,← hLr] at hc4
    have hA:=hc4.1 rfl
    have hal:=args_len hM hA
    obtain ⟨_,u2,hu2,_,hpp⟩:=hA
    have hgz:=hga.frz (S:=RI1) fun _ _ h=>h.frz
    obtain ⟨e2,hr2,h2⟩:=rCalled hm' hM hs' hfo.2.2.2.1 hgz ht (fun k p hk=>hpp k (List.getElem?_eq_some_iff.1 hk).1 p hk) (by omega)
    refine ⟨e2,?_,h2⟩
    obtain ⟨g2,i2,v2,rfl,hg2,hi2,hv2,ho2⟩:=h2
    refine Runs.of (f40_MR _ _) ?_
    unfold f40_M
    refine Goes.chk rfl (Goes.chk rfl (Goes.tv rfl (Goes.ite rfl (fun h=>?_) fun _=>?_)))
    · simp [TV.cell,nth,machCells] at h; exact absurd hd h
    refine Goes.tv (RL.len hg) (Goes.tv (dec h0 (by omega)) (Goes.tvs hef (Goes.chk rfl (Goes.call hrs (Goes.chk rfl (Goes.chk hfit (Goes.chk rfl (Goes.tv rfl (Goes.ite rfl (fun h=>nomatch h) fun _=>?_)))))))))
    refine Goes.tv rfl (Goes.ite rfl (fun h=>?_) fun _=>?_)
    · simp [TV.cell,TV.comp,nth] at h; omega
    refine Goes.tv rfl (Goes.ite rfl (fun _=>?_) fun h=>?_)
    rotate_left
    · simp [TV.cell,TV.comp,nth] at h; omega
    exact Goes.call hr2 (Goes.chk (fit_mach hg2.isSl hi2.isSl hv2.isSl) Goes.ret)
  rw [if_neg h4]
  by_cases h5:b.fin.kind=5
  · rw [if_pos h5]
    rw [h5] at hpa
    obtain ⟨a,hia,haw,hra⟩:=wordA (hpa.1 rfl)
    rw [hra]
    obtain ⟨e2,hr2,h2⟩:=rThrown hm' hM hs' haw h0 (by omega) hQf
    refine ⟨e2,?_,h2⟩
    obtain ⟨g2,i2,v2,rfl,hg2,hi2,hv2,ho2⟩:=h2
    refine Runs.of (f40_MR _ _) ?_
    unfold f40_M
    refine Goes.chk rfl (Goes.chk rfl (Goes.tv rfl (Goes.ite rfl (fun h=>?_) fun _=>?_)))
    · simp [TV.cell,nth,machCells] at h; exact absurd hd h
    refine Goes.tv (RL.len hg) (Goes.tv (dec h0 (by omega)) (Goes.tvs hef (Goes.chk rfl (Goes.call hrs (Goes.chk rfl (Goes.chk hfit (Goes.chk rfl (Goes.tv rfl (Goes.ite rfl (fun h=>nomatch h) fun _=>?_)))))))))
    refine Goes.tv rfl (Goes.ite rfl (fun h=>?_) fun _=>?_)
    · simp [TV.cell,TV.comp,nth] at h; omega
    refine Goes.tv rfl (Goes.ite rfl (fun h=>?_) fun _=>?_)
    · simp [TV.cell,TV.comp,nth] at h; omega
    refine Goes.tv rfl (Goes.ite rfl (fun _=>?_) fun h=>?_)
    rotate_left
    · simp [TV.cell,TV.comp,nth] at h; omega
    exact Goes.tvs hia (Goes.chk rfl (Goes.call hr2 (Goes.chk (fit_mach hg2.isSl hi2.isSl hv2.isSl) Goes.ret)))
  rw [if_neg h5]
  by_cases h6:b.fin.kind=6
  · rw [if_pos h6]
    obtain ⟨e2,hr2,h2⟩:=rThrown hm' hM hs' hof.2.2.2 h0 (by omega) hQf
    refine ⟨e2,?_,h2⟩
    obtain ⟨g2,i2,v2,rfl,hg2,hi2,hv2,ho2⟩:=h2
    refine Runs.of (f40_MR _ _) ?_
    unfold f40_M
    refine Goes.chk rfl (Goes.chk rfl (Goes.tv rfl (Goes.ite rfl (fun h=>?_) fun _=>?_)))
    · simp [TV.cell,nth,machCells] at h; exact absurd hd h
    refine Goes.tv (RL.len hg) (Goes.tv (dec h0 (by omega)) (Goes.tvs hef (Goes.chk rfl (Goes.call hrs (Goes.chk rfl (Goes.chk hfit (Goes.chk rfl (Goes.tv rfl (Goes.ite rfl (fun h=>nomatch h) fun _=>?_)))))))))
    refine Goes.tv rfl (Goes.ite rfl (fun h=>?_) fun _=>?_)
    · simp [TV.cell,TV.comp,nth] at h; omega
    refine Goes.tv rfl (Goes.ite rfl (fun h=>?_) fun _=>?_)
    · simp [TV.cell,TV.comp,nth] at h; omega
    refine Goes.tv rfl (Goes.ite rfl (fun h=>?_) fun _=>?_)
    · simp [TV.cell,TV.comp,nth] at h; omega
    refine Goes.tv rfl (Goes.ite rfl (fun _=>?_) fun h=>?_)
    rotate_left
    · simp [TV.cell,TV.comp,nth] at h; omega
    exact Goes.call hr2 (Goes.chk (fit_mach hg2.isSl hi2.isSl hv2.isSl) Goes.ret)
  rw [if_neg h6]
  have fin:∀ n,inI n→∃ e2,Goes prog 40 (f40_0 g (W (s.c 0)) (W (s.c 1)) (W (s.c 2)) (W (s.c 3)) (W (s.c 4)) (W (s.c 5)) (W (s.c 6)) (W (s.c 7)) (W (s.c 8)) (W (s.c 9)) (W (s.c 10)) (W (s.c 11)) (W (s.c 12)) (W (s.c 13)) (W (s.c 14)) (W (s.c 15)) i v (I s.done) (W s.value) (I f.f) (I n) (I 0) gr (W f.fly)) (.agg e2)∧RMach e2 (withT s { f with block:=n,at_:=0 }):=by
    intro n hn
    obtain ⟨e2,hr2,h2⟩:=rMWith (f:={ f with block:=n,at_:=0 }) (q':=none) (e':=[I f.f,I n,I 0,gr,W f.fly]) hs' ⟨_,rfl,hgr,hof.1,hn,in0,hof.2.2.2⟩ h0 (by omega)
    refine ⟨e2,?_,h2⟩
    obtain ⟨g2,i2,v2,rfl,hg2,hi2,hv2,ho2⟩:=h2
    unfold f40_0
    exact Goes.call hr2 (Goes.chk (fit_mach hg2.isSl hi2.isSl hv2.isSl) Goes.ret)
  by_cases h3:b.fin.kind=3
  · rw [h3] at hpa
    obtain ⟨a,hia,haw,hra⟩:=wordA (hpa.1 rfl)
    rw [hra]
    by_cases ha0:a=0
    · rw [if_pos ⟨h3, ha0⟩]
      obtain ⟨e2,hr2,h2⟩:=fin b.fin.els hfo.2.2.2.2.2.1
      refine ⟨e2,?_,h2⟩
      refine Runs.of (f40_MR _ _) ?_
      unfold f40_M
      refine Goes.chk rfl (Goes.chk rfl (Goes.tv rfl (Goes.ite rfl (fun h=>?_) fun _=>?_)))
      · simp [TV.cell,nth,machCells] at h; exact absurd hd h
      refine Goes.tv (RL.len hg) (Goes.tv (dec h0 (by omega)) (Goes.tvs hef (Goes.chk rfl (Goes.call hrs (Goes.chk rfl (Goes.chk hfit (Goes.chk rfl (Goes.tv rfl (Goes.ite rfl (fun h=>nomatch h) fun _=>?_)))))))))
      refine Goes.tv rfl (Goes.ite rfl (fun h=>?_) fun _=>?_)
      · simp [TV.cell,TV.comp,nth] at h; omega
      refine Goes.tv rfl (Goes.ite rfl (fun h=>?_) fun _=>?_)
      · simp [TV.cell,TV.comp,nth] at h; omega
      refine Goes.tv rfl (Goes.ite rfl (fun h=>?_) fun _=>?_)
      · simp [TV.cell,TV.comp,nth] at h; omega
      refine Goes.tv rfl (Goes.ite rfl (fun h=>?_) fun _=>?_)
      · simp [TV.cell,TV.comp,nth] at h; omega
      refine Goes.tv rfl (Goes.ite rfl (fun _=>?_) fun h=>?_)
      rotate_left
      · simp [TV.cell,TV.comp,nth] at h; omega
      refine Goes.tvs hia (Goes.chk rfl (Goes.tv rfl (Goes.ite rfl (fun _=>f40_0_J hr2) fun h=>?_)))
      simp at h; exact absurd ha0 h
    · rw [if_neg fun h => ha0 h.2]
      obtain ⟨e2,hr2,h2⟩:=fin b.fin.to hfo.2.2.2.2.1
      refine ⟨e2,?_,h2⟩
      refine Runs.of (f40_MR _ _) ?_
      unfold f40_M
      refine Goes.chk rfl (Goes.chk rfl (Goes.tv rfl (Goes.ite rfl (fun h=>?_) fun _=>?_)))
      · simp [TV.cell,nth,machCells] at h; exact absurd hd h
      refine Goes.tv (RL.len hg) (Goes.tv (dec h0 (by omega)) (Goes.tvs hef (Goes.chk rfl (Goes.call hrs (Goes.chk rfl (Goes.chk hfit (Goes.chk rfl (Goes.tv rfl (Goes.ite rfl (fun h=>nomatch h) fun _=>?_)))))))))
      refine Goes.tv rfl (Goes.ite rfl (fun h=>?_) fun _=>?_)
      · simp [TV.cell,TV.comp,nth] at h; omega
      refine Goes.tv rfl (Goes.ite rfl (fun h=>?_) fun _=>?_)
      · simp [TV.cell,TV.comp,nth] at h; omega
      refine Goes.tv rfl (Goes.ite rfl (fun h=>?_) fun _=>?_)
      · simp [TV.cell,TV.comp,nth] at h; omega
      refine Goes.tv rfl (Goes.ite rfl (fun h=>?_) fun _=>?_)
      · simp [TV.cell,TV.comp,nth] at h; omega
      refine Goes.tv rfl (Goes.ite rfl (fun _=>?_) fun h=>?_)
      rotate_left
      · simp [TV.cell,TV.comp,nth] at h; omega
      refine Goes.tvs hia (Goes.chk rfl (Goes.tv rfl (Goes.ite rfl (fun h=>?_) fun _=>f40_0_J hr2)))
      simp at h; exact absurd h ha0
  rw [if_neg fun h=>h3 h.1]
  obtain ⟨e2,hr2,h2⟩:=fin b.fin.to hfo.2.2.2.2.1
  refine ⟨e2,?_,h2⟩
  refine Runs.of (f40_MR _ _) ?_
  unfold f40_M
  refine Goes.chk rfl (Goes.chk rfl (Goes.tv rfl (Goes.ite rfl (fun h=>?_) fun _=>?_)))
  · simp [TV.cell,nth,machCells] at h; exact absurd hd h
  refine Goes.tv (RL.len hg) (Goes.tv (dec h0 (by omega)) (Goes.tvs hef (Goes.chk rfl (Goes.call hrs (Goes.chk rfl (Goes.chk hfit (Goes.chk rfl (Goes.tv rfl (Goes.ite rfl (fun h=>nomatch h) fun _=>?_)))))))))
  refine Goes.tv rfl (Goes.ite rfl (fun h=>?_) fun _=>?_)
  · simp [TV.cell,TV.comp,nth] at h; omega
  refine Goes.tv rfl (Goes.ite rfl (fun h=>?_) fun _=>?_)
  · simp [TV.cell,TV.comp,nth] at h; omega
  refine Goes.tv rfl (Goes.ite rfl (fun h=>?_) fun _=>?_)
  · simp [TV.cell,TV.comp,nth] at h; omega
  refine Goes.tv rfl (Goes.ite rfl (fun h=>?_) fun _=>?_)
  · simp [TV.cell,TV.comp,nth] at h; omega
  refine Goes.tv rfl (Goes.ite rfl (fun h=>?_) fun _=>?_)
  · simp [TV.cell,TV.comp,nth] at h; omega
  exact f40_0_J hr2
end Go.Ab.G7
end
section
set_option linter.unusedVariables false
set_option linter.unusedSimpArgs false
set_option maxRecDepth 10000
namespace Go.Ab
def stackQ (m:DMod) (l:List DFrame):Prop:=(∀ (k:Nat) f,l[k]? = some f→frameQ m f)∧∀ (k:Nat) f g,l[k]? = some f→l[k + 1]? = some g→linkP m f g
theorem stackQ.take {m:DMod} {l:List DFrame} (h:stackQ m l) (n:Nat):stackQ m (l.take n):=by
 have key:∀ (k:Nat) (f:DFrame),(l.take n)[k]? = some f→l[k]? = some f:=by
  intro k f hk
  rw [List.getElem?_take] at hk
  split at hk
  ·exact hk
  ·cases hk
 exact ⟨fun k f hk=>h.1 k f (key k f hk),fun k f g hf hg=>h.2 k f g (key k f hf) (key _ g hg)⟩
theorem at_snoc {α:Type} {l:List α} {a b:α} {k:Nat} (h:(l ++ [a])[k]? = some b):(k < l.length∧l[k]? = some b)∨(k=l.length∧b=a):=by
 by_cases hk:k < l.length
 ·rw [List.getElem?_append_left hk] at h
  exact .inl ⟨hk,h⟩
 ·rw [List.getElem?_append_right (by omega)] at h
  have:=(List.getElem?_eq_some_iff.1 h).1
  simp at this
  have hk:k=l.length:=by omega
  subst hk
  simp at h
  exact .inr ⟨rfl,h.symm⟩
theorem snoc_top {α:Type} {l:List α} {a:α}:(l ++ [a])[l.length]? = some a:=by simp
theorem linkP.to {m:DMod} {f g g':DFrame} (h:linkP m f g) (hf:g'.f=g.f):linkP m f g':=by
 obtain ⟨u,b,hu,hb,h⟩:=h
 refine ⟨u,b,hu,hb,?_⟩
 rw [hf]
 exact h
theorem stackQ.top {m:DMod} {l:List DFrame} {f0 f:DFrame} (h:stackQ m (l ++ [f0])) (hf:frameQ m f) (he:f.f=f0.f):stackQ m (l ++ [f]):=by
 have key:∀ (k:Nat) (g:DFrame),k < l.length→l[k]? = some g→(l ++ [f0])[k]? = some g:=fun k g hk hg=>by rw [List.getElem?_append_left hk]; exact hg
 refine ⟨fun k g hg=>?_,fun k g g' hg hg'=>?_⟩
 ·rcases at_snoc hg with ⟨hk,hg⟩ | ⟨_,rfl⟩
  ·exact h.1 k g (key k g hk hg)
  ·exact hf
 ·rcases at_snoc hg' with ⟨hk',hg'⟩ | ⟨hk',rfl⟩
  ·rcases at_snoc hg with ⟨hk,hg⟩ | ⟨hk,rfl⟩
   ·exact h.2 k g g' (key k g hk hg) (key _ g' hk' hg')
   ·omega
  ·rcases at_snoc hg with ⟨hk,hg⟩ | ⟨hk,rfl⟩
   ·exact (h.2 k g f0 (key k g hk hg) (by rw [hk']; exact snoc_top)).to he
   ·omega
theorem stackQ.push {m:DMod} {l:List DFrame} {f0 g:DFrame} (h:stackQ m (l ++ [f0])) (hg:frameQ m g) (hl:linkP m f0 g):stackQ m (l ++ [f0] ++ [g]):=by
 refine ⟨fun k x hx=>?_,fun k x y hx hy=>?_⟩
 ·rcases at_snoc hx with ⟨_,hx⟩ | ⟨_,rfl⟩
  ·exact h.1 k x hx
  ·exact hg
 ·rcases at_snoc hy with ⟨_,hy⟩ | ⟨hk',rfl⟩
  ·rcases at_snoc hx with ⟨_,hx⟩ | ⟨hk,rfl⟩
   ·exact h.2 k x y hx hy
   ·have:=(List.getElem?_eq_some_iff.1 hy).1
    omega
  ·rcases at_snoc hx with ⟨_,hx⟩ | ⟨hk,rfl⟩
   ·have hk:k=l.length:=by simp at hk'; omega
    rw [hk,snoc_top] at hx
    cases hx
    exact hl
   ·omega
theorem stack_top {l:List DFrame} {f:DFrame} (h:l[l.length - 1]? = some f):l=l.take (l.length - 1) ++ [f]:=by
 have hlt:=(List.getElem?_eq_some_iff.1 h).1
 have h1:l.take (l.length - 1 + 1)=l.take (l.length - 1) ++ [f]:=by rw [List.take_add_one,h]; rfl
 rw [show l.length - 1 + 1=l.length by omega,List.take_length] at h1
 exact h1
theorem machQ.st {m:DMod} {s:DMach} (h:machQ m s):stackQ m s.stack:=h.2.2.2
theorem with_keeps {m:DMod} {s:DMach} {f0 f:DFrame} (hd:0≤s.done∧s.done≤6) (hl:s.stack.length≤32) (hs:stackQ m s.stack) (ht:topT s=some f0) (hf:frameQ m f) (he:f.f=f0.f):machQ m (withT s f):=by
 have hst:=stack_top ht
 have hlt:=(List.getElem?_eq_some_iff.1 ht).1
 refine ⟨hd,?_,fun _=>?_,?_⟩
 ·simp [withT]; omega
 ·simp [withT]
 ·rw [hst] at hs
  exact hs.top hf he
theorem ended_keeps {m:DMod} {s:DMach} {how w:Int} (hl:s.stack.length≤32) (hs:stackQ m s.stack) (h:1≤how∧how≤6):machQ m (endedT s how w) :=
 ⟨⟨by show 0≤how; omega,h.2⟩,hl,fun h0=>by have h0:how=0:=h0; omega,hs⟩
theorem frameQ_at {m:DMod} {f:DFrame} {b:DBlock} {n:Int} (h:frameQ m f) (hb:blockOf m f=some b) (h0:0≤n) (h1:n≤b.ins.length):frameQ m { f with at_:=n }:=by
 obtain ⟨hf0,u,hu,hL,hb0,b',hb',_⟩:=h
 have:b'=b:=by
  have:blockOf m f=some b':=by simp [blockOf,hu,hb']
  rw [hb] at this
  cases this
  rfl
 subst this
 exact ⟨hf0,u,hu,hL,hb0,b',hb',h0,h1⟩
theorem frameQ_put {m:DMod} {f:DFrame} {n w:Int} (h:frameQ m f):frameQ m (putT f n w):=by
 obtain ⟨hf0,u,hu,hL,hr⟩:=h
 exact ⟨hf0,u,hu,by simpa [putT] using hL,hr⟩
theorem frameQ_go {m:DMod} {f:DFrame} {u:DFunc} {l:Bool} {n:Int} (h:frameQ m f) (hu:m.funcs[f.f.toNat]? = some u) (hg:goalAt u.blocks n l):frameQ m { f with block:=n,at_:=0 }:=by
 obtain ⟨hf0,u',hu',hL,_⟩:=h
 rw [hu] at hu'
 cases hu'
 obtain ⟨h0,b,hb,_⟩:=hg
 exact ⟨hf0,u,hu,hL,h0,b,hb,Int.le_refl 0,by simp⟩
end Go.Ab
namespace Go.Ab.G7
open Go Go.Ab Go.Proofs
theorem new_frame {m:DMod} {n:Int} {args:List Int} {u:DFunc} (hM:modP m) (h0:0≤n) (hu:m.funcs[n.toNat]? = some u) (ha:(args.length:Int)=u.params) :
  frameQ m ((newT m n args).getD noFrame)∧((newT m n args).getD noFrame).f=n:=by
 have hT:newT m n args=some ⟨n,0,0,args.take u.regs.toNat ++ List.replicate (u.regs.toNat - args.length) 0,0⟩:=by simp [newT,h0,hu,ha]
 rw [hT]
 have hf:=mod_func hM hu
 obtain ⟨b,hb,_⟩:=hf.2.2.1
 have hr:=mod_regs hM hu
 refine ⟨⟨h0,u,hu,?_,Int.le_refl 0,b,hb,Int.le_refl 0,by simp⟩,rfl⟩
 simp
 omega
theorem called_keeps {m:DMod} {s:DMach} {n regs:Int} {places:List Int} {f:DFrame} (hM:modP m) (hQ:machQ m s) (ht:topT s=some f) (ha:argsP m.funcs regs n places) (hl:∀ g:DFrame,g.f=n→linkP m f g):machQ m (calledT m s n places):=by
 obtain ⟨h0,u,hu,hul,_⟩:=ha
 by_cases h32:32≤s.stack.length
 ·have hT:calledT m s n places=endedT s 5 0:=by simp [calledT,h32]
  rw [hT]
  exact ended_keeps hQ.2.1 hQ.st (by omega)
 ·have hT:calledT m s n places={ s with stack:=s.stack ++ [(newT m n (wordsAt f.regs places)).getD noFrame] }:=by simp [calledT,h32,ht]
  rw [hT]
  obtain ⟨hf,hn⟩:=new_frame (args:=wordsAt f.regs places) hM h0 hu (by rw [wordsAt_len]; exact hul)
  refine ⟨hQ.1,?_,fun _=>?_,?_⟩
  ·simp; omega
  ·simp
  ·have hst:=stack_top ht
   have hs:=hQ.st
   show stackQ m (s.stack ++ [_])
   rw [hst] at hs ⊢
   exact hs.push hf (hl _ hn)
theorem land_f {m:DMod} {f:DFrame} {pad w:Int}:((landT m f pad w).getD f).f=f.f:=by
 unfold landT
 cases m.funcs[f.f.toNat]? with
 | none=>rfl
 | some g =>
  simp only [Option.bind_some]
  split
  ·cases g.blocks[pad.toNat]? with
   | none=>rfl
   | some b =>
    simp only [Option.bind_some]
    split <;> rfl
  ·rfl
theorem frameQ_land' {m:DMod} {f:DFrame} {pad w:Int} (h:frameQ m f):frameQ m ((landT m f pad w).getD f):=by
 obtain ⟨h0,u,hu,hL,hr⟩:=h
 have hf:frameQ m f:=⟨h0,u,hu,hL,hr⟩
 by_cases hG:goalAt u.blocks pad true
 ·obtain ⟨hp0,b,hb,hl⟩:=hG
  rw [landT_some hu hp0 hb hl]
  exact ⟨h0,u,hu,by simpa using hL,hp0,b,hb,Int.le_refl 0,by simp⟩
 ·rw [goal_landT hu hG]
  exact hf
theorem thrown_keeps {m:DMod} {s:DMach} {w:Int} (hQ:machQ m s):machQ m (thrownT m s w):=by
 unfold thrownT
 split
 ·split
  ·exact hQ
  ·rename_i k hk
   split
   ·exact hQ
   ·rename_i f hf
    have hlt:=(List.getElem?_eq_some_iff.1 hf).1
    refine with_keeps (s:={ s with stack:=s.stack.take (k + 1) }) (f0:=f) hQ.1 ?_ (hQ.st.take _) ?_ (frameQ_land' (hQ.st.1 k f hf)) land_f
    ·have:=hQ.2.1
     simp; omega
    ·simp only [topT,List.length_take]
     rw [List.getElem?_take,if_pos (by omega),← hf]
     congr 1
     omega
 ·exact ended_keeps (by have:=hQ.2.1; simp; omega) (hQ.st.take _) (by omega)
theorem up_at {f:DFrame} {n:Nat} (h0:0≤f.at_) (h1:f.at_ < n) (hn:n≤64):IntKind.i64.wrap (f.at_ + 1)=f.at_ + 1:=by
 rw [IntKind.wrap_i64]; omega
theorem frameQ_up {m:DMod} {f:DFrame} {b:DBlock} (hM:modP m) (h:frameQ m f) (hb:blockOf m f=some b) (hlt:f.at_.toNat < b.ins.length):frameQ m (upF f):=by
 have hc:=h
 obtain ⟨hf0,u,hu,hL,hb0,b',hb',h0,h1⟩:=hc
 have:blockOf m f=some b':=by simp [blockOf,hu,hb']
 rw [hb] at this
 cases this
 have h64:=(mod_block hM hu hb').1
 have hw:=up_at (n:=b.ins.length) h0 (by omega) h64
 have:=frameQ_at (n:=IntKind.i64.wrap (f.at_ + 1)) h hb (by omega) (by omega)
 exact this
end Go.Ab.G7
end
section
set_option linter.unusedVariables false
set_option linter.unusedSimpArgs false
set_option maxRecDepth 10000
namespace Go.Ab
theorem reckon_keeps {f:DFrame} {x:DIns}:(reckonT f x).1=f∨∃ w,(reckonT f x).1=upF (putT f x.dst w):=by
 unfold reckonT
 cases answerT f.regs x with
 | none=>exact .inl rfl
 | some w =>
  simp only
  split
  ·exact .inr ⟨w,rfl⟩
  ·exact .inl rfl
end Go.Ab
namespace Go.Ab.G7
open Go Go.Ab Go.Proofs
theorem answered_keeps {m:DMod} {s:DMach} {w:Int} (hM:modP m) (hQ:machQ m s):machQ m (answeredT m s w):=by
 unfold answeredT
 split
 ·exact hQ
 ·rename_i f hf
  split
  ·rename_i h1
   refine ended_keeps (s:={ s with stack:=[] }) (by simp) ⟨fun k f hk=>?_,fun k f g hk=>?_⟩ (by omega)
   ·simp at hk
   ·simp at hk
  ·rename_i h1
   have hF:=hQ.st.1 _ f hf
   have htop:topT { s with stack:=s.stack.take (s.stack.length - 1) }=some f:=by
    simp only [topT,List.length_take]
    rw [List.getElem?_take,if_pos (by omega),← hf]
    congr 1
    omega
   have hlen:({ s with stack:=s.stack.take (s.stack.length - 1) }:DMach).stack.length≤32:=by
    have:=hQ.2.1
    simp; omega
   obtain ⟨f2,hf2⟩:∃ f,s.stack[s.stack.length - 2 + 1]? = some f:=⟨_,List.getElem?_eq_getElem (by omega)⟩
   obtain ⟨u,b,hu,hb,hlink⟩:=hQ.st.2 _ f f2 hf hf2
   have hbo:blockOf m f=some b:=by simp [blockOf,hu,hb]
   rw [hbo]
   simp only
   split
   ·rename_i hat
    have h4:b.fin.kind=4:=by
     rcases hlink with ⟨_,h,_⟩ | ⟨h,_⟩
     ·exact h
     ·exact absurd hat h
    have hE:=(mod_end hM hu hb).2.2.2.2.1.1
    rw [h4] at hE
    have hg:=frameQ_go (f:=putT f b.fin.dst w) (frameQ_put hF) hu (hE rfl)
    exact with_keeps hQ.1 hlen (hQ.st.take _) htop hg rfl
   ·rename_i hat
    split
    ·exact hQ
    ·rename_i x hx
     have hup:=frameQ_up (f:=putT f x.dst w) hM (frameQ_put hF) hbo (List.getElem?_eq_some_iff.1 hx).1
     exact with_keeps hQ.1 hlen (hQ.st.take _) htop hup rfl
theorem ins_keeps {m:DMod} {s:DMach} {f:DFrame} {b:DBlock} {x:DIns} (hM:modP m) (hQ:machQ m s) (ht:topT s=some f) (hb:blockOf m f=some b) (hat:¬ f.at_=b.ins.length) (hx:b.ins[f.at_.toNat]? = some x) (hI:insP m.funcs f.regs.length x):machQ m (insT m s f x):=by
 have hF:=hQ.st.1 _ f ht
 have hlt:=(List.getElem?_eq_some_iff.1 hx).1
 have hup:∀ n w,frameQ m (upF (putT f n w)):=fun n w=>frameQ_up (f:=putT f n w) hM (frameQ_put hF) hb hlt
 have hup0:frameQ m (upF f):=frameQ_up hM hF hb hlt
 unfold insT
 split
 ·rename_i h11
  have hc:=hI.2.2.2.2.2.1
  rw [h11] at hc
  refine called_keeps hM hQ ht (hc rfl) fun g hg=>?_
  obtain ⟨_,u,hu,_,_,b',hb',_⟩:=hF
  have:blockOf m f=some b':=by simp [blockOf,hu,hb']
  rw [hb] at this
  cases this
  exact ⟨u,b,hu,hb',.inr ⟨hat,x,hx,h11,hg.symm⟩⟩
 split
 ·split
  ·rcases reckon_keeps (f:=f) (x:=x) with h | ⟨w,h⟩
   ·rw [h]; exact with_keeps hQ.1 hQ.2.1 hQ.st ht hF rfl
   ·rw [h]; exact with_keeps hQ.1 hQ.2.1 hQ.st ht (hup _ _) rfl
  ·exact ended_keeps hQ.2.1 hQ.st (by omega)
 split
 ·split
  ·exact ended_keeps hQ.2.1 hQ.st (by omega)
  ·exact with_keeps hQ.1 hQ.2.1 hQ.st ht (hup _ _) rfl
 split
 ·split
  ·exact ended_keeps hQ.2.1 hQ.st (by omega)
  ·exact with_keeps (s:=putCell s (reg f x.a).toNat (reg f x.b)) hQ.1 hQ.2.1 hQ.st ht hup0 rfl
 split
 ·exact with_keeps (s:={ s with events:=s.events ++ [reg f x.a] }) hQ.1 hQ.2.1 hQ.st ht hup0 rfl
 split
 ·exact ended_keeps hQ.2.1 hQ.st (by omega)
 ·rename_i a l _
  exact with_keeps (s:={ s with events:=s.events ++ [a + 65536],inputs:=l }) hQ.1 hQ.2.1 hQ.st ht (hup _ _) rfl
theorem step_keeps {m:DMod} {s:DMach} (hM:modP m) (hQ:machQ m s):machQ m (stepT m s):=by
 unfold stepT
 split
 ·exact hQ
 split
 ·exact hQ
 rename_i f ht
 have hF:=hQ.st.1 _ f ht
 have hF':=hF
 obtain ⟨hf0,u,hu,hLr,hb0,b,hb,ha0,ha1⟩:=hF
 have hbo:blockOf m f=some b:=by simp [blockOf,hu,hb]
 rw [hbo]
 simp only
 have hE:=mod_end hM hu hb
 have hk:=usesE_of hE.1
 split
 ·rename_i hat
  split
  ·exact answered_keeps hM hQ
  split
  ·rename_i h4
   have hc:=hE.2.2.2.1.1
   rw [h4] at hc
   exact called_keeps hM hQ ht (hc rfl) fun g hg=>⟨u,b,hu,hb,.inl ⟨hat,h4,hg.symm⟩⟩
  split
  ·exact thrown_keeps hQ
  split
  ·exact thrown_keeps hQ
  split
  ·rename_i h3
   have hc:=hE.2.2.2.2.2.1.1
   rw [h3.1] at hc
   exact with_keeps hQ.1 hQ.2.1 hQ.st ht (frameQ_go hF' hu (hc rfl)) rfl
  ·rename_i h1 h4 h5 h6 h3
   have h23:b.fin.kind=2∨b.fin.kind=3:=by omega
   have hc:=hE.2.2.2.2.1.1
   rcases h23 with h | h
   ·rw [h] at hc
    exact with_keeps hQ.1 hQ.2.1 hQ.st ht (frameQ_go hF' hu (hc rfl)) rfl
   ·rw [h] at hc
    exact with_keeps hQ.1 hQ.2.1 hQ.st ht (frameQ_go hF' hu (hc rfl)) rfl
 ·rename_i hat
  split
  ·exact hQ
  ·rename_i x hx
   have hI:=mod_ins hM hu hb hx
   rw [← hLr] at hI
   exact ins_keeps hM hQ ht hbo hat hx hI
theorem step_events {m:DMod} {s:DMach}:(stepT m s).events=s.events∨∃ a,(stepT m s).events=s.events ++ [a]:=by
 have hw:∀ (t:DMach) f,(withT t f).events=t.events:=fun _ _=>rfl
 have he:∀ (t:DMach) a b,(endedT t a b).events=t.events:=fun _ _ _=>rfl
 have hc:∀ n p,(calledT m s n p).events=s.events:=by
  intro n p
  unfold calledT
  split
  ·rfl
  ·split <;> rfl
 have hth:∀ w,(thrownT m s w).events=s.events:=by
  intro w
  unfold thrownT
  split
  ·split
   ·rfl
   ·split <;> rfl
  ·rfl
 have han:∀ w,(answeredT m s w).events=s.events:=by
  intro w
  unfold answeredT
  split
  ·rfl
  ·split
   ·rfl
   ·split
    ·rfl
    ·split
     ·rfl
     ·split <;> rfl
 have hi:∀ f x,(insT m s f x).events=s.events∨∃ a,(insT m s f x).events=s.events ++ [a]:=by
  intro f x
  unfold insT
  split
  ·exact .inl (hc _ _)
  split
  ·split
   ·exact .inl rfl
   ·exact .inl rfl
  split
  ·split
   ·exact .inl rfl
   ·exact .inl rfl
  split
  ·split
   ·exact .inl rfl
   ·exact .inl rfl
  split
  ·exact .inr ⟨_,rfl⟩
  split
  ·exact .inl rfl
  ·exact .inr ⟨_,rfl⟩
 unfold stepT
 split
 ·exact .inl rfl
 split
 ·exact .inl rfl
 split
 ·exact .inl rfl
 split
 ·split
  ·exact .inl (han _)
  split
  ·exact .inl (hc _ _)
  split
  ·exact .inl (hth _)
  split
  ·exact .inl (hth _)
  split
  ·exact .inl rfl
  ·exact .inl rfl
 ·split
  ·exact .inl rfl
  ·exact hi _ _
end Go.Ab.G7
end
section
set_option linter.unusedVariables false
set_option linter.unusedSimpArgs false
set_option maxRecDepth 10000
namespace Go.Ab
theorem mach_eq {a b:DMach}:a=b ↔ a.stack=b.stack∧a.cells=b.cells∧a.inputs=b.inputs∧a.events=b.events∧a.done=b.done∧a.value=b.value:=by
 cases a; cases b; simp
def cells16 (s:DMach):List Int:=[s.c 0,s.c 1,s.c 2,s.c 3,s.c 4,s.c 5,s.c 6,s.c 7,s.c 8,s.c 9,s.c 10,s.c 11,s.c 12,s.c 13,s.c 14,s.c 15]
theorem cells16_eq {s:DMach} (h:s.cells.length=16):cells16 s=s.cells:=by
 unfold cells16 DMach.c
 generalize s.cells=l at h
 match l,h with
 | [_,_,_,_,_,_,_,_,_,_,_,_,_,_,_,_],_=>rfl
def newM (m:DMod) (inputs:List Int):DMach:=⟨[(newT m 0 []).getD noFrame],List.replicate 16 0,inputs,[],0,0⟩
theorem newM_c {m:DMod} {l:List Int} (k:Nat):(newM m l).c k=0:=by
 simp only [DMach.c,newM,List.getD,List.getElem?_replicate]
 split <;> rfl
noncomputable def runT (m:DMod) (s:DMach):Nat→DMach
 | 0=>s
 | n + 1=>if s.done=0 then runT m (stepT m s) n else s
theorem RMach.frz' {s:DMach} {g i v:TV} (hg:RL none 5 (RFrame none) g s.stack) (hi:RWords none i s.inputs) (hv:RInts none v s.events) (ho:s.ok):RMach (machCells s (Go.Ab.frz g) (Go.Ab.frz i) (Go.Ab.frz v)) s :=
 ⟨_,_,_,rfl,(hg.frz (S:=RFrame (some false)) fun _ _ h=>h.frz).weak fun _ _ h=>h.weak,(hi.frz (S:=RW1) fun _ _ h=>h.frz).weak fun _ _ h=>h,(hv.frz (S:=RI1) fun _ _ h=>h.frz).weak fun _ _ h=>h,ho⟩
end Go.Ab
namespace Go.Ab.G7
open Go Go.Ab Go.Proofs
theorem rMWords {q q':Option Bool} {x y:TV} {l m:List Int} (hx:RWords q x l) (hy:RWords q' y m):Runs prog 38 [x,y] (B (tt (l=m))):=by
 refine Runs.of (f38_MR _ _) ?_
 unfold f38_M
 repeat' (first
  | refine Goes.chk rfl ?_
  | refine Goes.tv rfl ?_
  | refine Goes.tv (RL.len (by assumption)) ?_
  | refine Goes.nat rfl ?_
  | refine Goes.ite rfl (fun _=>?_) (fun _=>?_)
  | refine Goes.call (by assumption) ?_
  | refine Goes.tvs (by assumption) ?_)
 ·rename_i h
  have h:¬ l=m:=by rintro rfl; simp at h
  exact ret_no h
 ·rename_i h
  have hlen:l.length=m.length:=by simp at h; omega
  refine f38_0_J ?_
  rw [tt_congr (list_eq_iff' hlen)]
  refine allLoop' (g:=fun k=>f38_0 x y (I k)) ?_ ?_
  ·unfold f38_0
   refine Goes.tv hx.len (Goes.tv rfl (Goes.ite asB_end (fun h=>nomatch h) fun _=>Goes.ret))
  ·intro k hk r h1 h2
   have hk':k < m.length:=by omega
   have ha:l[k]? = some l[k]:=List.getElem?_eq_getElem hk
   have hb:m[k]? = some m[k]:=List.getElem?_eq_getElem hk'
   obtain ⟨e,he,rfl,_⟩:=hx.idx (k:=.i64) ha
   obtain ⟨e',he',rfl,_⟩:=hy.idx (k:=.i64) hb
   unfold f38_0
   refine Goes.tv hx.len (Goes.tv rfl (Goes.ite (asB_lt hk) (fun _=>?_) fun h=>nomatch h))
   refine Goes.tvs he (Goes.chk rfl (Goes.tvs he' (Goes.chk rfl (Goes.tv rfl (Goes.ite rfl (fun h=>?_) fun h=>?_)))))
   ·rw [h1 (by rw [ha,hb]; simpa using h)]; exact Goes.ret
   ·refine Goes.tv (inc hk hx.bnd) (f38_0_J (h2 ?_))
    rw [ha,hb]; simpa using h
theorem rMNew {q q':Option Bool} {e:List TV} {x:TV} {m:DMod} {inputs:List Int} (hm:RMod q e m) (hM:modP m) (hx:RWords q' x inputs):∃ e2,Runs prog 39 [.agg e,x] (.agg e2)∧RMach e2 (newM m inputs):=by
 obtain ⟨en,hrn,hfn⟩:=rNew' hm in0 (RL.nil:RWords none (.lit nilV) []) hM
 obtain ⟨y,rfl,hy⟩:=hm
 have hw:=hfn.weak
 generalize hF:(newT m 0 []).getD noFrame=f2 at hfn hw hrn
 obtain ⟨yn,rfl,hyn,hof⟩:=hfn
 have hst:RL none 5 (RFrame none) (.sl true 5 [[I f2.f,I f2.block,I f2.at_,yn,W f2.fly]]) (newM m inputs).stack:=by
  show RL none 5 (RFrame none) _ [(newT m 0 []).getD noFrame]
  rw [hF]
  exact .sl (by simp) (.cons hw .nil) (by simp)
 refine ⟨machCells (newM m inputs) (.sl true 5 [[I f2.f,I f2.block,I f2.at_,yn,W f2.fly]]) x (.lit nilV),?_,⟨_,_,_,rfl,hst,hx.weak fun _ _ h=>h,RL.nil,by simp [newM],fun k=>by rw [newM_c]; exact inW0,in0,inW0⟩⟩
 refine Runs.of (f39_MR _ _) ?_
 unfold f39_M
 refine Goes.chk rfl (Goes.call hrn (Goes.chk rfl (Goes.chk (fit_frame hyn.isSl) (Goes.chk rfl (Goes.chk ?_ ?_)))))
 ·have:=hx.isSl
  rcases hx with ⟨rfl,_⟩ | ⟨o,xs,rfl,_⟩ <;> rfl
 ·simp only [machCells,newM_c]
  exact Goes.ret
theorem newM_keeps {m:DMod} {inputs:List Int} (hM:modP m):machQ m (newM m inputs):=by
 obtain ⟨_,⟨u,hu,hp⟩,_⟩:=id hM
 obtain ⟨hf,_⟩:=new_frame (n:=0) (args:=[]) hM (Int.le_refl 0) hu (by simp [hp])
 refine ⟨⟨Int.le_refl 0,by show (0:Int)≤6; omega⟩,by simp [newM],fun _=>by simp [newM],fun k f hk=>?_,fun k f g hk hk'=>?_⟩
 ·have:=(List.getElem?_eq_some_iff.1 hk).1
  simp [newM] at this
  subst this
  simp [newM] at hk
  rw [← hk]
  exact hf
 ·have:=(List.getElem?_eq_some_iff.1 hk').1
  simp [newM] at this
theorem rMRun {q':Option Bool} {e:List TV} {x:TV} {m:DMod} {inputs:List Int} {fuel:Nat} (hm:RMod (some false) e m) (hM:modP m) (hx:RWords q' x inputs) (hfu:fuel≤4294967295) :
  ∃ e2,Runs prog 16 [.agg e,x,I (fuel:Int)] (.agg e2)∧RMach e2 (runT m (newM m inputs) fuel):=by
 obtain ⟨e1,hr1,h1⟩:=rMNew hm hM hx
 have hm':=hm
 obtain ⟨y,rfl,hy⟩:=hm
 have loop:∀ d k (s:DMach) (g i v:TV),k + d=fuel→RL none 5 (RFrame none) g s.stack→RWords none i s.inputs→RInts none v s.events→s.ok→machQ m s→s.events.length≤k →
   ∃ e2,Goes prog 16 (f16_0 (I (fuel:Int)) (I (k:Int)) y (W (s.c 0)) (W (s.c 1)) (W (s.c 2)) (W (s.c 3)) (W (s.c 4)) (W (s.c 5)) (W (s.c 6)) (W (s.c 7)) (W (s.c 8)) (W (s.c 9)) (W (s.c 10)) (W (s.c 11)) (W (s.c 12)) (W (s.c 13)) (W (s.c 14)) (W (s.c 15)) (I s.done) (W s.value) g TV.hole TV.hole TV.hole TV.hole TV.hole TV.hole TV.hole TV.hole TV.hole TV.hole TV.hole TV.hole TV.hole TV.hole TV.hole TV.hole i v TV.hole TV.hole) (.agg e2)∧RMach e2 (runT m s d):=by
  intro d
  induction d with
  | zero =>
   intro k s g i v hk hg hi hv ho hQ hev
   have hk:k=fuel:=by omega
   subst hk
   refine ⟨_,?_,⟨g,i,v,rfl,hg,hi,hv,ho⟩⟩
   unfold f16_0
   refine Goes.tv rfl (Goes.ite asB_end (fun h=>nomatch h) fun _=>?_)
   exact Goes.ret
  | succ d ih =>
   intro k s g i v hk hg hi hv ho hQ hev
   have hlt:k < fuel:=by omega
   by_cases hd:s.done=0
   rotate_left
   ·have hT:runT m s (d + 1)=s:=by simp [runT,hd]
    rw [hT]
    refine ⟨_,?_,⟨g,i,v,rfl,hg,hi,hv,ho⟩⟩
    unfold f16_0
    refine Goes.tv rfl (Goes.ite (asB_lt hlt) (fun _=>?_) fun h=>nomatch h)
    refine Goes.tv rfl (Goes.ite rfl (fun h=>?_) fun _=>Goes.ret)
    simp at h; exact absurd h hd
   ·have hT:runT m s (d + 1)=runT m (stepT m s) d:=by simp [runT,hd]
    rw [hT]
    obtain ⟨e3,hr3,h3⟩:=rStep hm' hM (RMach.frz' hg hi hv ho) hQ (by omega)
    have hQ3:=step_keeps hM hQ
    have hev3:(stepT m s).events.length≤k + 1:=by
     rcases step_events (m:=m) (s:=s) with h | ⟨a,h⟩ <;> rw [h]
     ·omega
     ·simp; omega
    generalize stepT m s=s3 at h3 hQ3 hev3
    obtain ⟨g3,i3,v3,rfl,hg3,hi3,hv3,ho3⟩:=h3
    obtain ⟨e2,hr2,h2⟩:=ih (k + 1) s3 g3 i3 v3 (by omega) hg3 hi3 hv3 ho3 hQ3 hev3
    refine ⟨e2,?_,h2⟩
    unfold f16_0
    refine Goes.tv rfl (Goes.ite (asB_lt hlt) (fun _=>?_) fun h=>nomatch h)
    refine Goes.tv rfl (Goes.ite rfl (fun _=>?_) fun h=>?_)
    rotate_left
    ·simp at h; exact absurd hd h
    exact Goes.call hr3 (Goes.chk (fit_mach hg3.isSl hi3.isSl hv3.isSl) (Goes.tv (inc hlt (by omega)) (f16_0_J hr2)))
 have hQ:=newM_keeps (inputs:=inputs) hM
 have hev:(newM m inputs).events.length≤0:=by simp [newM]
 generalize newM m inputs=s at h1 hQ hev
 obtain ⟨g,i,v,rfl,hg,hi,hv,ho⟩:=h1
 obtain ⟨e2,hr2,h2⟩:=loop fuel 0 s g i v (by omega) hg hi hv ho hQ hev
 refine ⟨e2,?_,h2⟩
 refine Runs.of (f16_MR _ _ _) ?_
 unfold f16_M
 exact Goes.chk rfl (Goes.call hr1 (Goes.chk (fit_mach hg.isSl hi.isSl hv.isSl) (f16_0_J hr2)))
end Go.Ab.G7
end
section
set_option linter.unusedVariables false
set_option linter.unusedSimpArgs false
set_option maxRecDepth 10000
namespace Go.Ab
theorem peq16 {a b:DMach} (ha:a.cells.length=16) (hb:b.cells.length=16):peqL .u16 .neq [W (a.c 0),W (a.c 1),W (a.c 2),W (a.c 3),W (a.c 4),W (a.c 5),W (a.c 6),W (a.c 7),W (a.c 8),W (a.c 9),W (a.c 10),W (a.c 11),W (a.c 12),W (a.c 13),W (a.c 14),W (a.c 15)] [W (b.c 0),W (b.c 1),W (b.c 2),W (b.c 3),W (b.c 4),W (b.c 5),W (b.c 6),W (b.c 7),W (b.c 8),W (b.c 9),W (b.c 10),W (b.c 11),W (b.c 12),W (b.c 13),W (b.c 14),W (b.c 15)]=some (B (!(a.cells == b.cells))):=by
 have h:∀ s:DMach,intsOf .u16 [W (s.c 0),W (s.c 1),W (s.c 2),W (s.c 3),W (s.c 4),W (s.c 5),W (s.c 6),W (s.c 7),W (s.c 8),W (s.c 9),W (s.c 10),W (s.c 11),W (s.c 12),W (s.c 13),W (s.c 14),W (s.c 15)]=some (cells16 s):=fun _=>rfl
 unfold peqL
 rw [h a,h b,cells16_eq ha,cells16_eq hb]
 rfl
end Go.Ab
namespace Go.Ab.G7
open Go Go.Ab Go.Proofs
theorem rMSame {e e':List TV} {a b:DMach} (ha:RMach e a) (hb:RMach e' b):Runs prog 15 [.agg e,.agg e'] (B (tt (a=b))):=by
 obtain ⟨g,i,v,rfl,hg,hi,hv,ho⟩:=ha
 obtain ⟨g',i',v',rfl,hg',hi',hv',ho'⟩:=hb
 have no:¬ a=b→B false=B (tt (a=b)):=fun h=>by rw [tt_false h]
 refine Runs.of (f15_MR _ _) ?_
 unfold f15_M
 refine Goes.chk rfl (Goes.chk rfl (Goes.tv hg.len (Goes.tv hg'.len (Goes.tv rfl (Goes.ite rfl (fun h=>?_) fun h=>?_)))))
 ·exact ret_no fun h'=>by subst h'; simp at h
 have hlen:a.stack.length=b.stack.length:=by simp at h; omega
 refine Goes.tv (peq16 ho.1 ho'.1) (Goes.ite rfl (fun h=>?_) fun h=>?_)
 ·exact ret_no fun h'=>by subst h'; simp at h
 have hcells:a.cells=b.cells:=by simpa using h
 refine Goes.call (rMWords hi hi') (Goes.chk rfl (Goes.tv rfl (Goes.ite rfl (fun h=>?_) fun h=>?_)))
 ·exact ret_no fun h'=>by subst h'; simp [tt] at h
 have hin:a.inputs=b.inputs:=tt_iff.1 (by simpa using h)
 refine Goes.call (r14 hv hv') (Goes.chk rfl (Goes.tv rfl (Goes.ite rfl (fun h=>?_) fun h=>?_)))
 ·exact ret_no fun h'=>by subst h'; simp [tt] at h
 have hev:a.events=b.events:=tt_iff.1 (by simpa using h)
 refine Goes.tv rfl (Goes.ite rfl (fun h=>?_) fun h=>?_)
 ·exact ret_no fun h'=>by subst h'; simp [TV.cell,nth,machCells] at h
 have hdo:a.done=b.done:=by simpa [TV.cell,nth,machCells] using h
 refine Goes.tv rfl (Goes.ite rfl (fun h=>?_) fun h=>?_)
 ·exact ret_no fun h'=>by subst h'; simp [TV.cell,nth,machCells] at h
 have hva:a.value=b.value:=by simpa [TV.cell,nth,machCells] using h
 have hiff:a=b ↔ a.stack=b.stack:=by
  rw [mach_eq]
  simp [hcells,hin,hev,hdo,hva]
 refine f15_0_J ?_
 rw [tt_congr (hiff.trans (list_eq_iff' hlen))]
 refine allLoop' (g:=fun k=>f15_0 (I k) g (W (a.c 0)) (W (a.c 1)) (W (a.c 2)) (W (a.c 3)) (W (a.c 4)) (W (a.c 5)) (W (a.c 6)) (W (a.c 7)) (W (a.c 8)) (W (a.c 9)) (W (a.c 10)) (W (a.c 11)) (W (a.c 12)) (W (a.c 13)) (W (a.c 14)) (W (a.c 15)) i v (I a.done) (W a.value) g' (W (b.c 0)) (W (b.c 1)) (W (b.c 2)) (W (b.c 3)) (W (b.c 4)) (W (b.c 5)) (W (b.c 6)) (W (b.c 7)) (W (b.c 8)) (W (b.c 9)) (W (b.c 10)) (W (b.c 11)) (W (b.c 12)) (W (b.c 13)) (W (b.c 14)) (W (b.c 15)) i' v' (I b.done) (W b.value)) ?_ ?_
 ·unfold f15_0
  refine Goes.tv (RL.len (by assumption)) (Goes.tv rfl (Goes.ite asB_end (fun h=>nomatch h) fun _=>?_))
  exact Goes.ret
 ·intro k hk r h1 h2
  have hk':k < b.stack.length:=by omega
  have hak:a.stack[k]? = some a.stack[k]:=List.getElem?_eq_getElem hk
  have hbk:b.stack[k]? = some b.stack[k]:=List.getElem?_eq_getElem hk'
  obtain ⟨e,he,hre⟩:=hg.idx (k:=.i64) hak
  obtain ⟨e',he',hre'⟩:=hg'.idx (k:=.i64) hbk
  have hs:=rFSame hre hre'
  obtain ⟨z,rfl,_⟩:=hre
  obtain ⟨z',rfl,_⟩:=hre'
  unfold f15_0
  refine Goes.tv (RL.len (by assumption)) (Goes.tv rfl (Goes.ite (asB_lt hk) (fun _=>?_) fun h=>nomatch h))
  refine Goes.tvs he (Goes.chk rfl (Goes.tvs he' (Goes.chk rfl (Goes.call hs (Goes.chk rfl (Goes.tv rfl (Goes.ite rfl (fun h=>?_) fun h=>?_)))))))
  ·have h:¬ a.stack[k]=b.stack[k]:=tt_iff0.1 (by simpa using h)
   rw [h1 (by rw [hak,hbk]; simpa using h)]; exact Goes.ret
  ·have h:a.stack[k]=b.stack[k]:=tt_iff.1 (by simpa using h)
   refine Goes.tv (inc hk hg.bnd) (f15_0_J (h2 ?_))
   rw [hak,hbk,h]
theorem rSmall {q q':Option Bool} {e:List TV} {x:TV} {m:DMod} {l:List Int} (hm:RMod q e m) (hx:RWords q' x l):∃ b,Runs prog 12 [.agg e,x] (B b)∧(b=true→shortM m∧l.length≤30):=by
 obtain ⟨b,hr,hb⟩:=r7 hm
 obtain ⟨y,rfl,hy⟩:=hm
 cases b with
 | false =>
  refine ⟨false,?_,fun h=>nomatch h⟩
  refine Runs.of (f12_MR _ _) ?_
  unfold f12_M
  exact Goes.chk rfl (Goes.call hr (Goes.chk rfl (Goes.ite rfl (fun h=>nomatch h) fun _=>Goes.ret)))
 | true =>
  refine ⟨decide ((l.length:Int)≤30),?_,fun h=>⟨hb rfl,by simp at h; omega⟩⟩
  refine Runs.of (f12_MR _ _) ?_
  unfold f12_M
  exact Goes.chk rfl (Goes.call hr (Goes.chk rfl (Goes.ite rfl (fun _=>Goes.tv hx.len (Goes.tv rfl Goes.ret)) fun h=>nomatch h)))
end Go.Ab.G7
end
section
set_option linter.unusedVariables false
set_option linter.unusedSimpArgs false
set_option maxRecDepth 10000
namespace Go.Ab
def RMachO (e:List TV) (s:DMach):Prop:=∃ g i v,e=machCells s g i v∧RL (some true) 5 (RFrame (some true)) g s.stack∧RWords (some true) i s.inputs∧RInts (some true) v s.events∧s.ok
theorem RMachO.weak {e:List TV} {s:DMach} (h:RMachO e s):RMach e s:=by
 obtain ⟨g,i,v,rfl,hg,hi,hv,ho⟩:=h
 exact ⟨g,i,v,rfl,hg.weak fun _ _ h=>h.weak,hi.weak fun _ _ h=>h,hv.weak fun _ _ h=>h,ho⟩
theorem own_mach {s:DMach} {g i v:TV} (h1:isOwn g=true) (h2:isOwn i=true) (h3:isOwn v=true):isOwn (.agg (machCells s g i v))=true:=by
 simp [isOwn,isOwnL,machCells,h1,h2,h3]
end Go.Ab
namespace Go.Ab.G7
open Go Go.Ab Go.Proofs
end Go.Ab.G7
end
section
set_option linter.unusedVariables false
set_option linter.unusedSimpArgs false
set_option maxRecDepth 10000
namespace Go.Ab
abbrev RStack (g:TV) (l:List DFrame):Prop:=RL (some true) 5 (RFrame (some true)) g l
section
variable {g:TV} {l:List DFrame} {k:Nat} {f:DFrame}
theorem RStack.at_ (hg:RStack g l) (hk:l[k]? = some f):∃ xs gr,g=.sl true 5 xs∧xs[k]? = some [I f.f,I f.block,I f.at_,gr,W f.fly]∧F2 (RFrame (some true)) xs l∧xs.length≤9223372036854775807∧RWords (some true) gr f.regs∧f.ok:=by
 rcases hg with ⟨rfl,rfl⟩ | ⟨o,xs,rfl,hq,h,hb⟩
 ·simp at hk
 ·have:o=true:=hq true rfl
  subst this
  obtain ⟨e,he,gr,rfl,hgr,ho⟩:=h.get hk
  exact ⟨xs,gr,rfl,he,h,hb,hgr,ho⟩
theorem RStack.row (hg:RStack g l) (hk:l[k]? = some f):∃ gr,pel g k=some [I f.f,I f.block,I f.at_,gr,W f.fly]∧getP [(k,3)] g=some gr∧RWords (some true) gr f.regs∧f.ok:=by
 obtain ⟨xs,gr,rfl,hx,_,_,hgr,ho⟩:=hg.at_ hk
 exact ⟨gr,hx,getP_of_pel (x:=.sl true 5 xs) hx rfl,hgr,ho⟩
theorem RStack.all (hg:RStack g l) (hk:l[k]? = some f) {e':List TV} {f':DFrame} (h:RFrame (some true) e' f'):∃ g',setC [] g k 0 e'=some g'∧RStack g' (l.set k f'):=by
 obtain ⟨xs,gr,rfl,hx,hF,hb,hgr,ho⟩:=hg.at_ hk
 obtain ⟨gr',rfl,hgr',ho'⟩:=id h
 refine ⟨.sl true 5 (setNth xs k [I f'.f,I f'.block,I f'.at_,gr',W f'.fly]),?_,.sl (by simp) (hF.set h) (by rw [setNth_len]; exact hb)⟩
 simp only [setC,getP,setEl,hx,setP,setCells]
 rfl
theorem RStack.setAt (hg:RStack g l) (hk:l[k]? = some f) {n:Int} (hn:inI n):∃ g',setC [] g k 2 [I n]=some g'∧RStack g' (l.set k { f with at_:=n }):=by
 obtain ⟨xs,gr,rfl,hx,hF,hb,hgr,ho⟩:=hg.at_ hk
 have hR:RFrame (some true) [I f.f,I f.block,I n,gr,W f.fly] { f with at_:=n }:=⟨gr,rfl,hgr,ho.1,ho.2.1,hn,ho.2.2.2⟩
 refine ⟨.sl true 5 (setNth xs k [I f.f,I f.block,I n,gr,W f.fly]),?_,.sl (by simp) (hF.set hR) (by rw [setNth_len]; exact hb)⟩
 simp only [setC,getP,setEl,hx,setP,setCells]
 rfl
theorem RStack.setFly (hg:RStack g l) (hk:l[k]? = some f) {w:Int} (hw:inW w):∃ g',setC [] g k 4 [W w]=some g'∧RStack g' (l.set k { f with fly:=w }):=by
 obtain ⟨xs,gr,rfl,hx,hF,hb,hgr,ho⟩:=hg.at_ hk
 have hR:RFrame (some true) [I f.f,I f.block,I f.at_,gr,W w] { f with fly:=w }:=⟨gr,rfl,hgr,ho.1,ho.2.1,ho.2.2.1,hw⟩
 refine ⟨.sl true 5 (setNth xs k [I f.f,I f.block,I f.at_,gr,W w]),?_,.sl (by simp) (hF.set hR) (by rw [setNth_len]; exact hb)⟩
 simp only [setC,getP,setEl,hx,setP,setCells]
 rfl
theorem RStack.put (hg:RStack g l) (hk:l[k]? = some f) {n:Nat} {w:Int} (hn:n < f.regs.length) (hw:inW w):∃ g',setC [(k,3)] g n 0 [W w]=some g'∧RStack g' (l.set k { f with regs:=f.regs.set n w }):=by
 obtain ⟨xs,gr,rfl,hx,hF,hb,hgr,ho⟩:=hg.at_ hk
 obtain ⟨a,v',hpe,hs,hrl⟩:=RWords.put hgr hn hw
 have hR:RFrame (some true) [I f.f,I f.block,I f.at_,v',W f.fly] { f with regs:=f.regs.set n w }:=⟨v',rfl,hrl,ho⟩
 refine ⟨.sl true 5 (setNth xs k [I f.f,I f.block,I f.at_,v',W f.fly]),?_,.sl (by simp) (hF.set hR) (by rw [setNth_len]; exact hb)⟩
 have hse:setEl gr n 0 [W w]=some v':=by
  simp only [setC,getP,setP] at hs
  cases h:setEl gr n 0 [W w] with
  | none=>rw [h] at hs; cases hs
  | some u=>rw [h] at hs; simpa using hs
 have hgp:getP [(k,3)] (.sl true 5 xs)=some gr:=getP_of_pel (x:=.sl true 5 xs) hx rfl
 simp only [setC,hgp,hse]
 simp only [setP,hx]
 rfl
theorem RStack.win (hg:RStack g l) {n:Nat} (hn:n≤l.length):∃ g',winP 0 n g=some g'∧RStack g' (l.take n):=by
 rcases hg with ⟨rfl,rfl⟩ | ⟨o,xs,rfl,hq,h,hb⟩
 ·have:n=0:=by simpa using hn
  subst this
  exact ⟨_,rfl,.nil⟩
 ·have hl:=h.length
  refine ⟨.sl o 5 (xs.take n),?_,.sl hq (h.take n) (by simp; omega)⟩
  simp only [winP]
  rw [if_pos (by omega)]
  rfl
theorem RWords.win {q:Option Bool} {x:TV} {l:List Int} (hx:RWords q x l) {lo n:Nat} (hn:lo + n≤l.length):∃ y,winP lo n x=some y∧RWords q y ((l.drop lo).take n):=by
 rcases hx with ⟨rfl,rfl⟩ | ⟨o,xs,rfl,hq,h,hb⟩
 ·simp at hn
  obtain ⟨rfl,rfl⟩:=hn
  exact ⟨_,rfl,.nil⟩
 ·have hl:=h.length
  refine ⟨.sl o 1 ((xs.drop lo).take n),?_,.sl hq ((h.drop lo).take n) (by simp; omega)⟩
  simp only [winP]
  rw [if_pos (by omega)]
end
theorem set_top {α:Type} {l:List α} {a:α} (h:0 < l.length):l.set (l.length - 1) a=l.take (l.length - 1) ++ [a]:=by
 apply List.ext_getElem?
 intro i
 rw [List.getElem?_set]
 by_cases hi:i < l.length - 1
 ·rw [List.getElem?_append_left (by simp; omega),List.getElem?_take,if_pos hi,if_neg (by omega)]
 ·rw [List.getElem?_append_right (by simp; omega)]
  by_cases he:l.length - 1=i
  ·subst he
   simp; omega
  ·rw [if_neg he,List.getElem?_eq_none (by omega),List.getElem?_eq_none (by simp; omega)]
theorem set_set_top {α:Type} {l:List α} {k:Nat} {a b:α}:(l.set k a).set k b=l.set k b:=List.set_set ..
theorem at_set {α:Type} {l:List α} {k:Nat} {a b:α} (h:l[k]? = some a):(l.set k b)[k]? = some b:=by
 have:=(List.getElem?_eq_some_iff.1 h).1
 simp [List.getElem?_set,this]
end Go.Ab
end

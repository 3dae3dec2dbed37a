import Derived.Test.YtdfmiamebejhoaaHT12F4
set_option linter.all false
section
set_option maxRecDepth 10000
namespace Go.Ab
theorem RL.slice {α:Type} {q:Option Bool} {s:Nat} {R:List TV→α→Prop} {x:TV} {l:List α} (h:RL q s R x l) {t:TypeId} {lo hi:Option Nat} (h1:lo.getD 0≤hi.getD l.length) (h2:hi.getD l.length≤l.length) :
  ∃ y,pslice (.slice t) s x lo hi=some y∧RL q s R y ((l.drop (lo.getD 0)).take (hi.getD l.length - lo.getD 0)):=by
 rcases h with ⟨rfl,rfl⟩ | ⟨o,xs,rfl,hq,h,hb⟩
 ·simp at h1 h2
  refine ⟨_,?_,by simpa using RL.nil⟩
  have h3:lo.getD 0=0:=by omega
  simp only [pslice,bV,h2,h3,and_self,if_true]
 ·have hl:=h.length
  refine ⟨.sl o s ((xs.drop (lo.getD 0)).take (hi.getD xs.length - lo.getD 0)),?_,?_⟩
  ·rw [← hl] at h1 h2
   simp only [pslice,h1,h2,and_self,if_true]
  ·rw [← hl]
   exact .sl hq ((h.drop _).take _) (by simp; omega)
theorem cA {k:Nat} (h:k≤9223372036854775807):aF (I (k:Int))=some k:=by
 simp [aF]; omega
def qh (l:List Int):Prop:=∀ i,i < l.length→∀ a,l[i]? = some a→a ∉ l.take i
def uE (landing:Bool) (regs:Int) (p:DPad):Prop:=(landing=false→p.dst=0∧p.catches=[]∧p.all=false∧p.cleanup=false) ∧
 (landing=true→within p.dst regs∧p.catches.length≤8∧qh p.catches∧(p.catches≠[]∨p.all=true∨p.cleanup=true))
end Go.Ab
namespace Go.Ab.T12
open Go Go.Ab Go.Proofs
theorem r59 {q:Option Bool} {x:TV} {l:List Int} {w:Int} (hx:RWords q x l):∃ n,aG prog 90 [x,W w] (I n)∧(0≤n ↔ w ∈ l):=by
 have loop : ∀ d k, k + d = l.length → ∃ n, aa prog 90 (f90_0 x (W w) (I l.length) (I k)) (I n) ∧ (0 ≤ n ↔ ∃ i, k ≤ i ∧ l[i]? = some w) := by
  intro d
  induction d with
  | zero =>
   intro k hk
   have hk:k=l.length:=by omega
   subst hk
   refine ⟨-1,?_,?_⟩
   ·unfold f90_0
    refine aa.tv rfl (aa.ite bg (fun h=>nomatch h) fun _=>?_)
    exact aa.ret
   ·simp only [show ¬ (0:Int)≤-1 by omega,false_iff,not_exists,not_and]
    intro i hi
    rw [Di hi]; simp
  | succ d ih =>
   intro k hk
   have hk':k < l.length:=by omega
   have ha:l[k]? = some l[k]:=C7 hk'
   obtain ⟨e,he,rfl,_⟩:=hx.idx (k:=.i64) ha
   obtain ⟨n,hn,hiff⟩:=ih (k + 1) (by omega)
   by_cases hw:w=l[k]
   ·refine ⟨(k:Int),?_,?_⟩
    ·unfold f90_0
     refine aa.tv rfl (aa.ite (br hk') (fun _=>?_) fun h=>nomatch h)
     refine aa.tvs he (aa.chk rfl (aa.tv rfl (aa.ite rfl (fun h=>aa.ret) fun h=>?_)))
     simp at h; exact absurd hw h
    ·constructor
     ·intro _; exact ⟨k,Nat.le_refl _,by rw [ha,hw]⟩
     ·intro _; omega
   ·refine ⟨n,?_,?_⟩
    ·unfold f90_0
     refine aa.tv rfl (aa.ite (br hk') (fun _=>?_) fun h=>nomatch h)
     refine aa.tvs he (aa.chk rfl (aa.tv rfl (aa.ite rfl (fun h=>?_) fun h=>?_)))
     ·simp at h; exact absurd h hw
     ·refine aa.tv (inc hk' hx.bnd) (f90_0_J hn)
    ·rw [hiff]
     constructor
     ·rintro ⟨i,hi,h⟩; exact ⟨i,by omega,h⟩
     ·rintro ⟨i,hi,h⟩
      refine ⟨i,?_,h⟩
      by_cases hik:i=k
      ·subst hik; rw [ha] at h; simp at h; exact absurd h.symm hw
      ·omega
 obtain ⟨n,hn,hiff⟩:=loop l.length 0 (by omega)
 refine ⟨n,?_,?_⟩
 ·refine aG.of (f90_MR _ _) ?_
  unfold f90_M
  exact aa.tv hx.len (f90_0_J hn)
 ·rw [hiff,List.mem_iff_getElem?]
  simp
theorem r56 {q:Option Bool} {x:TV} {l:List Int} {w:Int} (hx:RWords q x l):aG prog 80 [x,W w] (B (tt (w ∈ l))):=by
 obtain ⟨n,hn,hiff⟩:=r59 (w:=w) hx
 refine aG.of (f80_MR _ _) ?_
 unfold f80_M
 repeat' (first
  | refine aa.chk rfl ?_
  | refine aa.tv rfl ?_
  | refine aa.tv (RL.len (by assumption)) ?_
  | refine aa.nat rfl ?_
  | refine aa.ite rfl (fun _=>?_) (fun _=>?_)
  | refine aa.call (by assumption) ?_
  | refine aa.tvs (by assumption) ?_)
 apply aL
 simp [hiff]
theorem r48 {q:Option Bool} {x:TV} {l:List Int} (hx:RWords q x l):aG prog 82 [x] (B (tt (qh l))):=by
 refine aG.of (f82_MR _) ?_
 unfold f82_M
 refine aa.tv hx.len (f82_0_J ?_)
 refine ia (g:=fun k=>f82_0 x x (I l.length) (I k)) ?_ ?_
 ·unfold f82_0
  refine aa.tv rfl (aa.ite bg (fun h=>nomatch h) fun _=>?_)
  exact aa.ret
 ·intro k hk r h1 h2
  have ha:l[k]? = some l[k]:=C7 hk
  obtain ⟨e,he,rfl,_⟩:=hx.idx (k:=.i64) ha
  obtain ⟨y,hy,hry⟩:=hx.slice (t:=35) (lo:=none) (hi:=some k) (by simp) (by simp; omega)
  have hry':RWords q y (l.take k):=by simpa using hry
  unfold f82_0
  refine aa.tv rfl (aa.ite (br hk) (fun _=>?_) fun h=>nomatch h)
  have hb:=hx.bnd
  refine aa.tvs he (aa.chk rfl (aa.nat (cA (by omega)) (aa.tv hy (aa.call (r56 hry') (aa.chk rfl (aa.ite rfl (fun h=>?_) fun h=>?_))))))
  ·rw [h1 (by simp [ha]; simpa [aB] using h)]; exact aa.ret
  ·refine aa.tv (inc hk hx.bnd) (f82_0_J (h2 ?_))
   simp [ha]; simpa [aw] using h
theorem r32 {q:Option Bool} {fs bs:TV} {e:List TV} {p regs:Int} {a:DPad} {landing:Bool} (he:RPad q e a):aG prog 76 [.agg [fs,I p,I regs,bs],B landing,.agg e] (B (tt (uE landing regs a))):=by
  obtain ⟨x,rfl,hx,_⟩:=he
  have h48:=r48 hx
  cases landing
  · refine aG.of (f76_MR _ _ _) ?_
    unfold f76_M
    repeat' (first
      | refine aa.chk rfl ?_
      | refine aa.tv rfl ?_
      | refine aa.tv (RL.len (by assumption)) ?_
      | refine aa.nat rfl ?_
      | refine aa.ite (v:=true) rfl (fun _=>?_) (fun h=>nomatch h)
      | refine aa.ite (v:=false) rfl (fun h=>nomatch h) (fun _=>?_)
      | refine aa.ite rfl (fun _=>?_) (fun _=>?_)
      | refine aa.call (by assumption) ?_
      | refine aa.tvs (by assumption) ?_
       )
    all_goals (apply aL; simp_all [uE])
  · refine aG.of (f76_MR _ _ _) ?_
    unfold f76_M
    repeat' (first
      | refine aa.chk rfl ?_
      | refine aa.tv rfl ?_
      | refine aa.tv (RL.len (by assumption)) ?_
      | refine aa.nat rfl ?_
      | refine aa.ite (v:=true) rfl (fun _=>?_) (fun h=>nomatch h)
      | refine aa.ite (v:=false) rfl (fun h=>nomatch h) (fun _=>?_)
      | refine aa.ite rfl (fun _=>?_) (fun _=>?_)
      | refine aa.call (by assumption) ?_
      | refine aa.tvs (by assumption) ?_
      | refine aa.call r47 ?_)
    all_goals (apply aL; simp_all [uE,aB,aw,aO,List.length_pos_iff] <;> omega)
def iZ (fs:List DFunc) (regs:Int) (bs:List DBlock) (b:DBlock):Prop:=b.ins.length≤64∧uE b.landing regs b.pad∧(∀ i,i < b.ins.length→∀ x,b.ins[i]? = some x→sO fs regs x)∧rC fs regs bs b.fin
def pn (fs:List DFunc) (f:DFunc):Prop:=(0≤f.params∧f.params≤8∧f.params≤f.regs∧f.regs≤256)∧f.blocks.length≤64∧(∃ b,f.blocks[0]? = some b∧b.landing=false)∧∀ i,i < f.blocks.length→∀ b,f.blocks[i]? = some b→iZ fs f.regs f.blocks b
def j6 (m:DMod):Prop:=m.funcs.length≤16∧(∃ f,m.funcs[0]? = some f∧f.params=0)∧∀ i,i < m.funcs.length→∀ f,m.funcs[i]? = some f→pn m.funcs f
theorem r19 {q q' q2:Option Bool} {x y:TV} {e:List TV} {fs:List DFunc} {bs:List DBlock} {p regs:Int} {b:DBlock} (hx:RL q 3 (RFunc q) x fs) (hy:RL q2 14 (RBlock q2) y bs) (he:RBlock q' e b) :
  aG prog 66 [.agg [x,I p,I regs,y],.agg e] (B (tt (iZ fs regs bs b))):=by
 obtain ⟨c,i,g,rfl,hc,hd,hi,hg,ho⟩:=he
 have h32:aG prog 76 [.agg [x,I p,I regs,y],B b.landing,.agg [I b.pad.dst,c,B b.pad.all,B b.pad.cleanup]] (B (tt (uE b.landing regs b.pad))):=r32 (q:=q') ⟨c,rfl,hc,hd⟩
 have h34:aG prog 78 [.agg [x,I p,I regs,y],.agg [I b.fin.kind,I b.fin.a,I b.fin.dst,I b.fin.f,g,I b.fin.to,I b.fin.els,I b.fin.pad]] (B (tt (rC fs regs bs b.fin))):=r34 (q':=q') hx hy ⟨g,rfl,hg,ho⟩
 refine aG.of (f66_MR _ _) ?_
 unfold f66_M
 refine aa.chk rfl (aa.chk rfl (aa.tv hi.len (aa.tv rfl (aa.ite rfl (fun h=>?_) fun h0=>?_))))
 ·simp at h
  exact aP fun h'=>by have:=h'.1; omega
 ·refine aa.call h32 (aa.chk rfl (aa.tv rfl (aa.ite rfl (fun h=>?_) fun h=>?_)))
  ·simp [aw] at h
   exact aP fun h'=>h h'.2.1
  ·simp [aB] at h h0
   refine aa.tv hi.len (f66_0_J ?_)
   rw [show tt (iZ fs regs bs b)=tt (fT 0 b.ins.length (fun i=>∀ x,b.ins[i]? = some x→sO fs regs x)∧rC fs regs bs b.fin) from bU (by
    rw [ko]
    exact ⟨fun h=>h.2.2,fun h'=>⟨by omega,h,h'⟩⟩)]
   refine yH (g:=fun k=>f66_0 i (I b.ins.length) (I k) x (I p) (I regs) y (B b.landing) (I b.pad.dst) c (B b.pad.all) (B b.pad.cleanup) i (I b.fin.kind) (I b.fin.a) (I b.fin.dst) (I b.fin.f) g (I b.fin.to) (I b.fin.els) (I b.fin.pad)) ?_ ?_ b.ins.length 0 (by omega)
   ·unfold f66_0
    refine aa.tv rfl (aa.ite bg (fun h=>nomatch h) fun _=>?_)
    refine f66_1_J ?_
    unfold f66_1
    exact aa.call h34 (aa.chk rfl aa.ret)
   ·intro k hk r h1 h2
    have ha:b.ins[k]? = some b.ins[k]:=C7 hk
    obtain ⟨e,he,hr⟩:=hi.idx (k:=.i64) ha
    have h33:aG prog 77 [.agg [x,I p,I regs,y],.agg e] (B (tt (sO fs regs b.ins[k]))):=r33 hx hr
    obtain ⟨_,rfl,_⟩:=hr
    unfold f66_0
    refine aa.tv rfl (aa.ite (br hk) (fun _=>?_) fun h=>nomatch h)
    refine aa.tvs he (aa.chk rfl (aa.call h33 (aa.chk rfl (aa.tv rfl (aa.ite rfl (fun h=>?_) fun h=>?_)))))
    ·rw [h1 (by simp [ha]; simpa [aw] using h)]; exact aa.ret
    ·refine aa.tv (inc hk hi.bnd) (f66_0_J (h2 ?_))
     simp [ha]; simpa [aB] using h
theorem r10 {q q':Option Bool} {e e':List TV} {m:DMod} {f:DFunc} (hm:RMod q e m) (hf:RFunc q' e' f):aG prog 50 [.agg e,.agg e'] (B (tt (pn m.funcs f))):=by
 obtain ⟨x,rfl,hx⟩:=hm
 obtain ⟨y,rfl,hy,_⟩:=hf
 refine aG.of (f50_MR _ _) ?_
 unfold f50_M
 refine aa.chk rfl (aa.chk rfl (aa.tv rfl (aa.ite rfl (fun h=>?_) fun g1=>?_)))
 ·simp at h; exact aP fun h'=>by have:=h'.1; omega
 refine aa.tv rfl (aa.ite rfl (fun h=>?_) fun g2=>?_)
 ·simp at h; exact aP fun h'=>by have:=h'.1; omega
 refine aa.tv rfl (aa.ite rfl (fun h=>?_) fun g3=>?_)
 ·simp at h; exact aP fun h'=>by have:=h'.1; omega
 refine aa.tv rfl (aa.ite rfl (fun h=>?_) fun g4=>?_)
 ·simp at h; exact aP fun h'=>by have:=h'.1; omega
 refine aa.tv hy.len (aa.tv rfl (aa.ite rfl (fun h=>?_) fun g5=>?_))
 ·simp at h
  refine aP ?_
  rintro ⟨_,_,⟨b,hb,_⟩,_⟩
  have:=(C6.1 hb).1
  omega
 refine aa.tv hy.len (aa.tv rfl (aa.ite rfl (fun h=>?_) fun g6=>?_))
 ·simp at h; exact aP fun h'=>by have:=h'.2.1; omega
 simp at g1 g2 g3 g4 g5 g6
 have hpos:0 < f.blocks.length:=by omega
 have hb0:f.blocks[0]? = some f.blocks[0]:=C7 hpos
 obtain ⟨e0,he0,hr0⟩:=hy.idx (k:=.i64) hb0
 obtain ⟨_,_,_,rfl,_⟩:=hr0
 refine aa.tvs he0 (aa.chk rfl (aa.ite rfl (fun h=>?_) fun g7=>?_))
 ·refine aP ?_
  rintro ⟨_,_,⟨b,hb,hl⟩,_⟩
  rw [hb0] at hb
  simp at hb
  subst hb
  rw [hl] at h
  cases h
 refine aa.tv hy.len (f50_0_J ?_)
 rw [show tt (pn m.funcs f)=tt (∀ i,i < f.blocks.length→∀ b,f.blocks[i]? = some b→iZ m.funcs f.regs f.blocks b) from bU
  ⟨fun h=>h.2.2.2,fun h=>⟨⟨by omega,by omega,by omega,by omega⟩,by omega,⟨_,hb0,g7⟩,h⟩⟩]
 refine ia (g:=fun k=>f50_0 y (I f.blocks.length) (I k) x (I f.params) (I f.regs) y) ?_ ?_
 ·unfold f50_0
  refine aa.tv rfl (aa.ite bg (fun h=>nomatch h) fun _=>?_)
  exact aa.ret
 ·intro k hk r h1 h2
  have ha:f.blocks[k]? = some f.blocks[k]:=C7 hk
  obtain ⟨e,he,hr⟩:=hy.idx (k:=.i64) ha
  have h19:aG prog 66 [.agg [x,I f.params,I f.regs,y],.agg e] (B (tt (iZ m.funcs f.regs f.blocks f.blocks[k]))):=r19 hx hy hr
  obtain ⟨_,_,_,rfl,_⟩:=hr
  unfold f50_0
  refine aa.tv rfl (aa.ite (br hk) (fun _=>?_) fun h=>nomatch h)
  refine aa.tvs he (aa.chk rfl (aa.call h19 (aa.chk rfl (aa.tv rfl (aa.ite rfl (fun h=>?_) fun h=>?_)))))
  ·rw [h1 (by simp [ha]; simpa [aw] using h)]; exact aa.ret
  ·refine aa.tv (inc hk hy.bnd) (f50_0_J (h2 ?_))
   simp [ha]; simpa [aB] using h
theorem r8 {q:Option Bool} {e:List TV} {m:DMod} (hm:RMod q e m):aG prog 30 [.agg e] (B (tt (j6 m))):=by
 have hm':=hm
 obtain ⟨x,rfl,hx⟩:=hm
 refine aG.of (f30_MR _) ?_
 unfold f30_M
 refine aa.chk rfl (aa.tv hx.len (aa.tv rfl (aa.ite rfl (fun h=>?_) fun g1=>?_)))
 ·simp at h
  refine aP ?_
  rintro ⟨_,⟨b,hb,_⟩,_⟩
  have:=(C6.1 hb).1
  omega
 refine aa.tv hx.len (aa.tv rfl (aa.ite rfl (fun h=>?_) fun g2=>?_))
 ·simp at h; exact aP fun h'=>by have:=h'.1; omega
 simp at g1 g2
 have hpos:0 < m.funcs.length:=by omega
 have hb0:m.funcs[0]? = some m.funcs[0]:=C7 hpos
 obtain ⟨e0,he0,hr0⟩:=hx.idx (k:=.i64) hb0
 obtain ⟨_,rfl,_⟩:=hr0
 refine aa.tvs he0 (aa.chk rfl (aa.tv rfl (aa.ite rfl (fun h=>?_) fun g7=>?_)))
 ·refine aP ?_
  rintro ⟨_,⟨b,hb,hl⟩,_⟩
  rw [hb0] at hb
  simp at hb
  subst hb
  rw [hl] at h
  simp at h
 simp at g7
 refine aa.tv hx.len (f30_0_J ?_)
 rw [show tt (j6 m)=tt (∀ i,i < m.funcs.length→∀ f,m.funcs[i]? = some f→pn m.funcs f) from bU ⟨fun h=>h.2.2,fun h=>⟨by omega,⟨_,hb0,g7⟩,h⟩⟩]
 refine ia (g:=fun k=>f30_0 x (I m.funcs.length) (I k) x) ?_ ?_
 ·unfold f30_0
  refine aa.tv rfl (aa.ite bg (fun h=>nomatch h) fun _=>?_)
  exact aa.ret
 ·intro k hk r h1 h2
  have ha:m.funcs[k]? = some m.funcs[k]:=C7 hk
  obtain ⟨e,he,hr⟩:=hx.idx (k:=.i64) ha
  have h10:=r10 hm' hr
  obtain ⟨_,rfl,_⟩:=hr
  unfold f30_0
  refine aa.tv rfl (aa.ite (br hk) (fun _=>?_) fun h=>nomatch h)
  refine aa.tvs he (aa.chk rfl (aa.call h10 (aa.chk rfl (aa.tv rfl (aa.ite rfl (fun h=>?_) fun h=>?_)))))
  ·rw [h1 (by simp [ha]; simpa [aw] using h)]; exact aa.ret
  ·refine aa.tv (inc hk hx.bnd) (f30_0_J (h2 ?_))
   simp [ha]; simpa [aB] using h
end Go.Ab.T12
end
section
set_option maxRecDepth 10000
namespace Go.Ab
def AQ (b:DBlock):Prop:=b.ins.length≤70∧b.pad.catches.length≤20∧b.fin.args.length≤20∧∀ i,i < b.ins.length→∀ x,b.ins[i]? = some x→x.args.length≤20
def BF (f:DFunc):Prop:=f.blocks.length≤70∧∀ i,i < f.blocks.length→∀ b,f.blocks[i]? = some b→AQ b
def rV (m:DMod):Prop:=m.funcs.length≤20∧∀ i,i < m.funcs.length→∀ f,m.funcs[i]? = some f→BF f
section
variable {α:Type} {s:Nat} {R S:Nat→List TV→α→Prop} {x:TV} {l:List α}
theorem rt {β:Type}:∀ (l:List β) (n:Nat) (b:β),(am l n b).length=l.length
 | [],_,_=>rfl
 | _ :: _,0,_=>rfl
 | a :: l,n + 1,b=>by simp [am,rt l n b]
end
theorem pz:∀ (xs:List (List TV)),(∀ e ∈ xs,iQ e=true)→lU xs=true
 | [],_=>rfl
 | e :: xs,h=>by
  simp only [lU,C9]
  exact ⟨h e Dd,pz xs fun e he=>h e (De _ he)⟩
theorem F2.memL {α β:Type} {R:α→β→Prop} {xs:List α} {l:List β} (h:F2 R xs l) {e:α} (he:e ∈ xs):∃ a,a ∈ l∧R e a:=by
 obtain ⟨i,hi,rfl⟩:=List.mem_iff_getElem.1 he
 obtain ⟨a,ha,hr⟩:=h.getL (C7 hi)
 exact ⟨a,Df ha,hr⟩
theorem RL.own {α:Type} {s:Nat} {R:List TV→α→Prop} {x:TV} {l:List α} (h:RL (some true) s R x l) (hm:∀ e a,R e a→iQ e=true):dL x=true:=by
 rcases h with ⟨rfl,rfl⟩ | ⟨o,xs,rfl,hq,h,hb⟩
 ·rfl
 ·rw [hq true rfl]
  simp only [dL,Bool.true_and]
  refine pz _ fun e he=>?_
  obtain ⟨a,_,hr⟩:=h.memL he
  exact hm _ _ hr
end Go.Ab
namespace Go.Ab.T12
open Go Go.Ab Go.Proofs
theorem r7 {q : Option Bool} {e : List TV} {m : DMod} (hm : RMod q e m) : ∃ b, aG prog 7 [.agg e] (B b) ∧ (b = true → rV m) := by
 obtain ⟨x,rfl,hx⟩:=hm
 have no:∀ {p:Prg TV},aa prog 7 p (B false)→∃ b,aa prog 7 p (B b)∧(b=true→rV m):=fun h=>⟨false,h,fun h=>nomatch h⟩
 by_cases hlen:m.funcs.length≤20
 ·have outer : ∀ d i (n : Int), i + d = m.funcs.length → 0 ≤ n → n ≤ (i : Int) * 4900 → (∀ j, j < i → ∀ f, m.funcs[j]? = some f → BF f) → ∃ b, aa prog 7 (f7_0 (I n) (I i) x) (B b) ∧ (b = true → rV m) := by
   intro d
   induction d with
   | zero =>
    intro i n hi h0 hn hs
    have hi:i=m.funcs.length:=by omega
    subst hi
    refine ⟨decide (n≤2000),?_,fun _=>⟨hlen,hs⟩⟩
    unfold f7_0
    refine aa.tv (RL.len (by assumption)) (aa.tv rfl (aa.ite bg (fun h=>nomatch h) fun _=>?_))
    exact aa.tv rfl aa.ret
   | succ d ih =>
    intro i n hi h0 hn hs
    have hk:i < m.funcs.length:=by omega
    have ha:m.funcs[i]? = some m.funcs[i]:=C7 hk
    obtain ⟨e,he,hr⟩:=hx.idx (k:=.i64) ha
    generalize m.funcs[i]=f at ha hr
    obtain ⟨y,rfl,hy,_⟩:=hr
    by_cases hbl:f.blocks.length≤70
    ·have mid : ∀ d k (n : Int), k + d = f.blocks.length → 0 ≤ n → n ≤ (i : Int) * 4900 + k * 70 → (∀ j, j < k → ∀ b, f.blocks[j]? = some b → AQ b) → ∃ b, aa prog 7 (f7_1 (I n) (I i) (I k) x) (B b) ∧ (b = true → rV m) := by
      intro d
      induction d with
      | zero =>
       intro k n hk' h0 hn hsb
       have hk':k=f.blocks.length:=by omega
       subst hk'
       obtain ⟨b,hb,himp⟩:=ih (i + 1) n (by omega) h0 (by simp; omega) (fun j hj g hg=>by
        by_cases hji:j=i
        ·subst hji; rw [ha] at hg; cases hg; exact ⟨hbl,fun j hj=>hsb j hj⟩
        ·exact hs j (by omega) g hg)
       refine ⟨b,?_,himp⟩
       unfold f7_1
       refine aa.tvs he (aa.chk rfl (aa.tv hy.len (aa.tv rfl (aa.ite bg (fun h=>nomatch h) fun _=>?_))))
       exact aa.tv (inc hk hx.bnd) (f7_0_J hb)
      | succ d ihm =>
       intro k n hk' h0 hn hsb
       have hkb:k < f.blocks.length:=by omega
       have hab:f.blocks[k]? = some f.blocks[k]:=C7 hkb
       obtain ⟨e2,he2,hr2⟩:=hy.idx (k:=.i64) hab
       generalize f.blocks[k]=b at hab hr2
       obtain ⟨c,is,g,rfl,hc,hd,his,hg,ho⟩:=hr2
       have start:∀ r,(¬ (b.ins.length≤70∧b.pad.catches.length≤20∧b.fin.args.length≤20)→r=B false)→(b.ins.length≤70∧b.pad.catches.length≤20∧b.fin.args.length≤20→aa prog 7 (f7_2 (I (n + b.ins.length)) (I i) (I k) (I (0:Nat)) x (B b.landing) (I b.pad.dst) c (B b.pad.all) (B b.pad.cleanup) is (I b.fin.kind) (I b.fin.a) (I b.fin.dst) (I b.fin.f) g (I b.fin.to) (I b.fin.els) (I b.fin.pad)) r)→aa prog 7 (f7_1 (I n) (I i) (I k) x) r:=by
        intro r h1 h2
        unfold f7_1
        refine aa.tvs he (aa.chk rfl (aa.tv hy.len (aa.tv rfl (aa.ite (br hkb) (fun _=>?_) fun h=>nomatch h))))
        refine aa.tvs he (aa.chk rfl (aa.tvs he2 (aa.chk rfl (aa.tv his.len (aa.tv rfl (aa.ite rfl (fun h=>?_) fun g1=>?_))))))
        ·rw [h1 (by simp at h; omega)]; exact aa.ret
        ·refine aa.tv hc.len (aa.tv rfl (aa.ite rfl (fun h=>?_) fun g2=>?_))
         ·rw [h1 (by simp at h; omega)]; exact aa.ret
         ·refine aa.tv hg.len (aa.tv rfl (aa.ite rfl (fun h=>?_) fun g3=>?_))
          ·rw [h1 (by simp at h; omega)]; exact aa.ret
          ·simp at g1 g2 g3
           refine aa.tv his.len (aa.tv (padd (by constructor <;> omega)) (f7_2_J (h2 ⟨by omega,by omega,by omega⟩)))
       by_cases hsz:b.ins.length≤70∧b.pad.catches.length≤20∧b.fin.args.length≤20
       ·have inner:∀ d j,j + d=b.ins.length→(∀ t,t < j→∀ x,b.ins[t]? = some x→x.args.length≤20)→∃ r,aa prog 7 (f7_2 (I (n + b.ins.length)) (I i) (I k) (I j) x (B b.landing) (I b.pad.dst) c (B b.pad.all) (B b.pad.cleanup) is (I b.fin.kind) (I b.fin.a) (I b.fin.dst) (I b.fin.f) g (I b.fin.to) (I b.fin.els) (I b.fin.pad)) (B r)∧(r=true→rV m):=by
         intro d
         induction d with
         | zero =>
          intro j hj hs2
          have hj:j=b.ins.length:=by omega
          subst hj
          obtain ⟨r,hb,himp⟩:=ihm (k + 1) (n + b.ins.length) (by omega) (by omega) (by simp; omega) (fun j hj g hg=>by
           by_cases hji:j=k
           ·subst hji; rw [hab] at hg; cases hg; exact ⟨hsz.1,hsz.2.1,hsz.2.2,hs2⟩
           ·exact hsb j (by omega) g hg)
          refine ⟨r,?_,himp⟩
          unfold f7_2
          refine aa.tv (RL.len (by assumption)) (aa.tv rfl (aa.ite bg (fun h=>nomatch h) fun _=>?_))
          exact aa.tv (inc hkb hy.bnd) (f7_1_J hb)
         | succ d ihi =>
          intro j hj hs2
          have hjb:j < b.ins.length:=by omega
          have hax:b.ins[j]? = some b.ins[j]:=C7 hjb
          obtain ⟨e3,he3,hr3⟩:=his.idx (k:=.i64) hax
          generalize b.ins[j]=u at hax hr3
          obtain ⟨v,rfl,hv,_⟩:=hr3
          by_cases hu:u.args.length≤20
          ·obtain ⟨r,hb,himp⟩:=ihi (j + 1) (by omega) (fun t ht z hz=>by
            by_cases htj:t=j
            ·subst htj; rw [hax] at hz; cases hz; exact hu
            ·exact hs2 t (by omega) z hz)
           refine ⟨r,?_,himp⟩
           unfold f7_2
           refine aa.tv (RL.len (by assumption)) (aa.tv rfl (aa.ite (br hjb) (fun _=>?_) fun h=>nomatch h))
           refine aa.tvs he3 (aa.chk rfl (aa.tv hv.len (aa.tv rfl (aa.ite rfl (fun h=>?_) fun _=>?_))))
           ·simp at h; omega
           ·exact aa.tv (inc hjb his.bnd) (f7_2_J hb)
          ·refine no ?_
           unfold f7_2
           refine aa.tv (RL.len (by assumption)) (aa.tv rfl (aa.ite (br hjb) (fun _=>?_) fun h=>nomatch h))
           refine aa.tvs he3 (aa.chk rfl (aa.tv hv.len (aa.tv rfl (aa.ite rfl (fun h=>aa.ret) fun h=>?_))))
           simp at h; omega
        obtain ⟨r,hb,himp⟩:=inner b.ins.length 0 (by omega) (fun t ht=>by omega)
        exact ⟨r,start _ (fun h=>absurd hsz h) (fun _=>hb),himp⟩
       ·exact no (start _ (fun _=>rfl) (fun h=>absurd h hsz))
     obtain ⟨b,hb,himp⟩:=mid f.blocks.length 0 n (by omega) h0 (by simp; omega) (fun j hj=>by omega)
     refine ⟨b,?_,himp⟩
     unfold f7_0
     refine aa.tv (RL.len (by assumption)) (aa.tv rfl (aa.ite (br hk) (fun _=>?_) fun h=>nomatch h))
     refine aa.tvs he (aa.chk rfl (aa.tv hy.len (aa.tv rfl (aa.ite rfl (fun h=>?_) fun _=>?_))))
     ·simp at h; omega
     ·exact f7_1_J hb
    ·refine no ?_
     unfold f7_0
     refine aa.tv (RL.len (by assumption)) (aa.tv rfl (aa.ite (br hk) (fun _=>?_) fun h=>nomatch h))
     refine aa.tvs he (aa.chk rfl (aa.tv hy.len (aa.tv rfl (aa.ite rfl (fun h=>aa.ret) fun h=>?_))))
     simp at h; omega
  obtain ⟨b,hb,himp⟩:=outer m.funcs.length 0 0 (by omega) (by omega) (by simp) (fun j hj=>by omega)
  refine ⟨b,?_,himp⟩
  refine aG.of (f7_MR _) ?_
  unfold f7_M
  refine aa.chk rfl (aa.tv hx.len (aa.tv rfl (aa.ite rfl (fun h=>?_) fun _=>f7_0_J hb)))
  simp at h; omega
 ·refine ⟨false,?_,fun h=>nomatch h⟩
  refine aG.of (f7_MR _) ?_
  unfold f7_M
  refine aa.chk rfl (aa.tv hx.len (aa.tv rfl (aa.ite rfl (fun _=>aa.ret) fun h=>?_)))
  simp at h; omega
end Go.Ab.T12
end

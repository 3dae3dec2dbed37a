import Derived.Test.YtdfmiamebejhoaaHT12F185
set_option linter.all false
section
set_option maxRecDepth 10000
namespace Go.Ab
theorem p9 {a c:Int}:asBool (.lit (.bool (a == c)))=some (decide (a=c)):=by
 by_cases h:a=c
 ·subst h; simp [asBool]
 ·have h1:(a == c)=false:=by simpa using h
  simp only [asBool,h1,decide_eq_false h]
theorem An {α:Type} {q:Option Bool} {s:Nat} {R:List TV→α→Prop} {x:TV} {l:List α} (h:RL q s R x l):x.iy=true:=by
 rcases h with ⟨rfl,rfl⟩ | ⟨o,xs,rfl,_⟩ <;> rfl
theorem o8 {p:Prop}:asBool (B (tt p))=some (tt p):=rfl
def xo (N:Nat) (u:DFunc) (b:DBlock):Prop:=(∀ x ∈ b.ins,x.op=11→0≤x.f∧x.f.toNat < N)∧(b.fin.kind=4→(0≤b.fin.f∧b.fin.f.toNat < N)∧0≤b.fin.pad∧∃ pb,u.blocks[b.fin.pad.toNat]? = some pb)
end Go.Ab
namespace Go.Ab.T12
open Go Go.Ab Go.Proofs
theorem qY {m:DMod} (h:j6 m) {n k:Nat} {u:DFunc} {b:DBlock} (hu:m.funcs[n]? = some u) (hb:u.blocks[k]? = some b):xo m.funcs.length u b:=by
 have hB:=(h.2.2 n (C6.1 hu).1 u hu).2.2.2 k (C6.1 hb).1 b hb
 refine ⟨fun x hx h11=>?_,fun h4=>?_⟩
 ·obtain ⟨i,hi,rfl⟩:=List.mem_iff_getElem.1 hx
  have:=(hB.2.2.1 i hi _ (C7 hi)).2.2.2.2.2
  rw [h11] at this
  obtain ⟨h0,g,hg,_⟩:=this.1 rfl
  exact ⟨h0,(C6.1 hg).1⟩
 ·obtain ⟨_,_,_,hc,_,_,hp⟩:=hB.2.2.2
  rw [h4] at hc hp
  obtain ⟨h0,g,hg,_⟩:=hc.1 rfl
  obtain ⟨h1,pb,hpb,_⟩:=hp.1 rfl
  exact ⟨⟨h0,(C6.1 hg).1⟩,h1,pb,hpb⟩
section
variable {q q':Option Bool} {w:TV} {F:List Bool} (hw:RBools q w F)
include hw
theorem yR {x:TV} {l:List DIns} (hx:RL q' 7 (RIns q') x l) (hn:∀ y ∈ l,y.op=11→0≤y.f∧y.f.toNat < F.length):∀ (d i:Nat),i + d=l.length →
  aa prog 20 (f20_0 x (I l.length) (I i) w) (B (tt (∃ j,i≤j∧∃ y,l[j]? = some y∧y.op=11∧F[y.f.toNat]? = some true))):=by
 have hbnd:=hx.bnd
 intro d
 induction d with
 | zero =>
  intro i hi
  have hi:i=l.length:=by omega
  subst hi
  rw [lu (by rintro ⟨j,hj,y,hy,_⟩; have:=(C6.1 hy).1; omega)]
  unfold f20_0
  exact aa.tv rfl (aa.ite bg (fun h=>nomatch h) fun _=>aa.tv rfl aa.ret)
 | succ d ih =>
  intro i hi
  have hlt:i < l.length:=by omega
  have hy:=C7 hlt
  generalize l[i]=y at hy
  obtain ⟨e,he,hR⟩:=hx.idx (k:=.i64) hy
  obtain ⟨g,rfl,hg,ho⟩:=hR
  have hnext:=ih (i + 1) (by omega)
  have split:(∃ j,i≤j∧∃ y,l[j]? = some y∧y.op=11∧F[y.f.toNat]? = some true) ↔ (y.op=11∧F[y.f.toNat]? = some true)∨∃ j,i + 1≤j∧∃ y,l[j]? = some y∧y.op=11∧F[y.f.toNat]? = some true:=by
   constructor
   ·rintro ⟨j,hj,y',hy',h⟩
    by_cases e:j=i
    ·subst e; rw [hy] at hy'; cases hy'; exact .inl h
    ·exact .inr ⟨j,by omega,y',hy',h⟩
   ·rintro (h | ⟨j,hj,h⟩)
    ·exact ⟨i,Nat.le_refl _,y,hy,h⟩
    ·exact ⟨j,by omega,h⟩
  rw [bU split]
  unfold f20_0
  refine aa.tv rfl (aa.ite (br hlt) (fun _=>?_) fun h=>nomatch h)
  refine aa.tvs he (aa.chk rfl (aa.tv rfl (aa.ite p9 (fun h=>?_) fun h=>?_)))
  ·have h11:y.op=11:=by simpa using h
   obtain ⟨h0,hlf⟩:=hn y (Df hy) h11
   have hc:=C7 hlf
   generalize F[y.f.toNat]=c at hc
   obtain ⟨e2,he2,hR2⟩:=hw.wI (k:=.i64) h0 hc
   cases hR2
   refine aa.tvs he2 (aa.chk rfl (aa.ite rfl (fun h=>?_) fun h=>?_))
   ·have hcc:c=true:=h
    subst hcc
    rw [d9 (.inl ⟨h11,hc⟩)]
    exact aa.tv (v:=B true) (by show some (TV.lit (.bool (decide ((i:Int) ≥ 0))))=_; rw [decide_eq_true (by omega)]) aa.ret
   ·have hcc:c=false:=h
    subst hcc
    rw [bU (p':=∃ j,i + 1≤j∧∃ y,l[j]? = some y∧y.op=11∧F[y.f.toNat]? = some true) ⟨fun h=>h.elim (fun h=>by rw [hc] at h; cases h.2) id,.inr⟩]
    exact aa.tv (inc hlt hbnd) (f20_0_J hnext)
  ·have h11:¬ y.op=11:=by simpa using h
   rw [bU (p':=∃ j,i + 1≤j∧∃ y,l[j]? = some y∧y.op=11∧F[y.f.toNat]? = some true) ⟨fun h=>h.elim (fun h=>absurd h.1 h11) id,.inr⟩]
   exact aa.tv (inc hlt hbnd) (f20_0_J hnext)
theorem sk {e:List TV} {u:DFunc} {b:DBlock} (he:RBlock q' e b) (hn:xo F.length u b):aG prog 20 [.agg e,w] (B (tt (kN F b))):=by
 obtain ⟨c,i,g,rfl,_,_,hi,_⟩:=he
 have h:=yR hw hi hn.1 b.ins.length 0 (by omega)
 rw [bU (p':=kN F b) ⟨fun ⟨j,_,y,hy,h⟩=>⟨y,Df hy,h⟩,fun ⟨y,hy,h⟩=>by
  obtain ⟨j,hj,rfl⟩:=List.mem_iff_getElem.1 hy
  exact ⟨j,Nat.zero_le _,_,C7 hj,h⟩⟩] at h
 refine aG.of (f20_MR _ _) ?_
 unfold f20_M
 exact aa.chk rfl (aa.chk (An hw) (aa.tv hi.len (f20_0_J h)))
theorem mw {e:List TV} {u:DFunc} {b:DBlock} (he:RBlock q' e b) (hn:xo F.length u b):aG prog 21 [.agg e,w] (B (tt (zi F b))):=by
 obtain ⟨c,i,g,rfl,_⟩:=he
 refine aG.of (f21_MR _ _) ?_
 unfold f21_M
 refine aa.chk rfl (aa.tv rfl (aa.ite p9 (fun h=>?_) fun h=>?_))
 ·have h4:b.fin.kind=4:=by simpa using h
  obtain ⟨h0,hlf⟩:=(hn.2 h4).1
  have hc:=C7 hlf
  generalize F[b.fin.f.toNat]=c at hc
  obtain ⟨e2,he2,hR2⟩:=hw.wI (k:=.i64) h0 hc
  cases hR2
  refine aa.tvs he2 (aa.chk rfl ?_)
  exact aL ⟨fun h=>⟨h4,by rw [hc,h]⟩,fun h=>by have:=h.2; rw [hc] at this; exact Option.some.inj this⟩
 ·have h4:¬ b.fin.kind=4:=by simpa using h
  exact aP fun h=>h4 h.1
end
end Go.Ab.T12
end
section
set_option maxRecDepth 10000
namespace Go.Ab
theorem geq0 {i:Nat}:pbin (.int .i64) .geq (I (i:Int)) (I 0)=some (B true):=by
 show some (TV.lit (.bool (decide ((i:Int) ≥ 0))))=_
 rw [decide_eq_true (by omega)]
theorem repF {n:Nat} (hn:n≤4294967296):RBools (some true) (.sl true 1 (List.replicate n [B false])) (List.replicate n false):=by
 refine .sl (by simp) ?_ (by simp; omega)
 clear hn
 induction n with
 | zero=>exact .nil
 | succ n ih=>exact .cons rfl ih
theorem rn {X:Nat→Prop} {n:Nat}:uS X (List.replicate n false):=fun k h=>by
 have:=List.eq_of_mem_replicate (Df h)
 cases this
end Go.Ab
namespace Go.Ab.T12
open Go Go.Ab Go.Proofs
section
variable {q:Option Bool} {b w:TV} {m:DMod} (hb:RL q 3 (RFunc q) b m.funcs) (hM:j6 m) {F:List Bool} (hl:F.length=m.funcs.length) (hw:RBools (some true) w F)
include hb hM hl hw
theorem outBlk {n:Nat} {u:DFunc} {bl:TV} {g:Bool} {y:TV} (hu:m.funcs[n]? = some u) (hbl:RL q 14 (RBlock q) bl u.blocks) (hF:F[n]? = some false)
  (miss:¬ l6 xk F u→aa prog 8 (f8_1 (B g) b (I m.funcs.length) (I (n + 1:Nat)) b w) y)
  (hit:∀ w',eT [] w n 0 [B true]=some w'→l6 xk F u→aa prog 8 (f8_1 (B true) b (I m.funcs.length) (I (n + 1:Nat)) b w') y) :
  ∀ (d i:Nat),i + d=u.blocks.length→(∀ j,j < i→∀ c,u.blocks[j]? = some c→¬ xk F u c) →
   aa prog 8 (f8_2 bl (I u.blocks.length) (I i) (I u.params) (I u.regs) bl b w (B g) (I n) b (I m.funcs.length) (I n) (B true)) y:=by
 have hN:=hM.1
 have hbnd:=hbl.bnd
 have hlt:=(C6.1 hF).1
 obtain ⟨e0,he0,hR0⟩:=hw.pel hF
 cases hR0
 obtain ⟨w1,hs1,hw1⟩:=hw.sH he0 (d:=0) (ys:=[B true]) (a:=true) rfl
 have ann:aF (I (n:Int))=some n:=cA (by omega)
 have hchk:(slSize w 1 && Nat.blt n F.length)=true:=by rw [hw.slSize]; simpa using hlt
 have hinc:pbin (.int .i64) .add (I (n:Int)) (I (1:Int))=some (I ((n + 1:Nat):Int)):=inc hlt (by omega)
 intro d
 induction d with
 | zero =>
  intro i hi hno
  have hi:i=u.blocks.length:=by omega
  subst hi
  unfold f8_2
  refine aa.tv rfl (aa.ite bg (fun h=>nomatch h) fun _=>aa.tv (v:=B false) rfl (aa.ite (v:=true) rfl (fun _=>aa.ite (v:=false) rfl (fun h=>nomatch h) fun _=>?_) fun h=>nomatch h))
  refine aa.tv hinc (f8_1_J (miss ?_))
  rintro ⟨c,hc,h⟩
  obtain ⟨j,hj,rfl⟩:=List.mem_iff_getElem.1 hc
  exact hno j hj _ (C7 hj) h
 | succ d ih =>
  intro i hi hno
  have hil:i < u.blocks.length:=by omega
  have hc:=C7 hil
  generalize u.blocks[i]=c at hc
  have hnm:=qY hM hu hc
  rw [← hl] at hnm
  obtain ⟨e,he,hR⟩:=hbl.idx (k:=.i64) hc
  have hR':=hR
  obtain ⟨c2,c5,c10,rfl,h2,hd,h5,h10,hok⟩:=hR'
  have hwz:=hw.frz (S:=RB1) fun _ _ h=>h.frz
  have hcl:=sk hwz hR hnm
  have hiv:=mw hwz hR hnm
  have yes:xk F u c→aa prog 8 (f8_1 (B true) b (I m.funcs.length) (I (n + 1:Nat)) b w1) y:=fun h=>hit w1 hs1 ⟨c,Df hc,h⟩
  have no:¬ xk F u c→aa prog 8 (f8_2 bl (I u.blocks.length) (I (i + 1:Nat)) (I u.params) (I u.regs) bl b w (B g) (I n) b (I m.funcs.length) (I n) (B true)) y:=fun h =>
   ih (i + 1) (by omega) fun j hj c' hc' h'=>by
    by_cases e:j=i
    ·subst e; rw [hc] at hc'; cases hc'; exact h h'
    ·exact hno j (by omega) c' hc' h'
  have three : ∀ z : Bool, (z = true ↔ c.fin.kind = 5 ∨ c.fin.kind = 6) →
    aa prog 8 (f8_3 (B z) w (I u.params) (I u.regs) bl (B c.landing) (I c.pad.dst) c2 (B c.pad.all) (B c.pad.cleanup) c5 (I c.fin.kind) (I c.fin.a) (I c.fin.dst) (I c.fin.f) c10 (I c.fin.to) (I c.fin.els) (I c.fin.pad) b (I u.params) (I u.regs) bl (B g) (I n) b (I m.funcs.length) (I n) (B true) bl (I i) (I u.blocks.length) (I i)) y:=by
   intro z hz
   unfold f8_3
   refine aa.ite rfl (fun h=>?_) fun h=>?_
   ·have hz1:z=true:=h
    refine aa.tv geq0 (aa.ite (v:=true) rfl (fun _=>aa.ite (v:=true) rfl (fun _=>?_) fun h=>nomatch h) fun h=>nomatch h)
    exact aa.nat hw.slLen (aa.nat ann (aa.chk hchk (aa.tvs he0 (aa.chk rfl (aa.tv hs1 (aa.tv hinc (f8_1_J (yes (.inl (hz.1 hz1))))))))))
   ·have hz0:¬ (c.fin.kind=5∨c.fin.kind=6):=fun h'=>by rw [hz.2 h'] at h; cases h
    refine aa.call hcl (aa.chk rfl (aa.ite o8 (fun h=>?_) fun h=>?_))
    ·refine aa.tv geq0 (aa.ite (v:=true) rfl (fun _=>aa.ite (v:=true) rfl (fun _=>?_) fun h=>nomatch h) fun h=>nomatch h)
     exact aa.nat hw.slLen (aa.nat ann (aa.chk hchk (aa.tvs he0 (aa.chk rfl (aa.tv hs1 (aa.tv hinc (f8_1_J (yes (.inr (.inl (aB.1 h)))))))))))
    ·have hc0:¬ kN F c:=fun h'=>by rw [d9 h'] at h; cases h
     refine aa.call hiv (aa.chk rfl (aa.ite o8 (fun h=>?_) fun h=>?_))
     ·have hi1:=aB.1 h
      obtain ⟨_,h0,pb,hpb⟩:=hnm.2 hi1.1
      obtain ⟨e2,he2,hR2⟩:=hbl.wI (k:=.i64) h0 hpb
      obtain ⟨p2,p5,p10,rfl,_⟩:=hR2
      refine aa.tvs he2 (aa.chk rfl (aa.tv rfl (aa.ite rfl (fun h=>?_) fun h=>?_)))
      ·have ha:pb.pad.all=false:=by simpa using h
       refine aa.tv geq0 (aa.ite (v:=true) rfl (fun _=>aa.ite (v:=true) rfl (fun _=>?_) fun h=>nomatch h) fun h=>nomatch h)
       exact aa.nat hw.slLen (aa.nat ann (aa.chk hchk (aa.tvs he0 (aa.chk rfl (aa.tv hs1 (aa.tv hinc (f8_1_J (yes (.inr (.inr ⟨hi1,pb,hpb,ha⟩))))))))))
      ·have ha:pb.pad.all=true:=by simpa using h
       refine aa.tv (inc hil hbnd) (f8_2_J (no ?_))
       rintro (h | h | ⟨_,pb',hp',ha'⟩)
       ·exact hz0 h
       ·exact hc0 h
       ·rw [hpb] at hp'; cases hp'; rw [ha] at ha'; cases ha'
     ·have hi0:¬ zi F c:=fun h'=>by rw [d9 h'] at h; cases h
      refine aa.tv (inc hil hbnd) (f8_2_J (no ?_))
      rintro (h | h | ⟨h,_⟩)
      ·exact hz0 h
      ·exact hc0 h
      ·exact hi0 h
  unfold f8_2
  refine aa.tv rfl (aa.ite (br hil) (fun _=>?_) fun h=>nomatch h)
  refine aa.tvs he (aa.chk rfl (aa.tv rfl (aa.ite p9 (fun h=>?_) fun h=>?_)))
  ·have h5':c.fin.kind=5:=by simpa using h
   exact f8_3_J (three true ⟨fun _=>.inl h5',fun _=>rfl⟩)
  ·have h5':¬ c.fin.kind=5:=by simpa using h
   exact aa.tv (v:=B (c.fin.kind == 6)) rfl (f8_3_J (three _ ⟨fun h=>.inr (by simpa using h),fun h=>by simpa using h.resolve_left h5'⟩))
end
theorem rOut {q:Option Bool} {e:List TV} {m:DMod} (he:RMod q e m) (hM:j6 m):∃ y F,aG prog 8 [.agg e] y∧RBools (some true) y F∧F.length=m.funcs.length∧∀ k:Nat,F[k]? = some true ↔ Thr m k:=by
 have hsh:=r8 he
 obtain ⟨b,rfl,hb⟩:=he
 have hN:=hM.1
 obtain ⟨y,F',h1,h2,h3,h4⟩:=mu (zK m) (A:=prog) (f:=8) (P0:=fun g w=>f8_0 (B g) b w) (P1:=fun g n w=>f8_1 (B g) b (I m.funcs.length) (I n) b w)
  (fun w y h => by
   unfold f8_0
   exact aa.ite (v:=true) rfl (fun _=>aa.tv hb.len (f8_1_J h)) fun h=>nomatch h)
  (fun w F h => by
   unfold f8_0
   exact aa.ite (v:=false) rfl (fun h=>nomatch h) fun _=>aa.chk (h.own fun _ _ h=>by cases h; rfl) aa.ret)
  (fun g w y h => by
   unfold f8_1
   exact aa.tv rfl (aa.ite bg (fun h=>nomatch h) fun _=>f8_0_J h))
  (fun g n w F c u y hl hw hc hu miss hit => by
   have hlt:=(C6.1 hu).1
   obtain ⟨e1,he1,hR1⟩:=hb.idx (k:=.i64) hu
   obtain ⟨bl,rfl,hbl,_⟩:=hR1
   obtain ⟨e2,he2,hR2⟩:=hw.pel hc
   cases hR2
   unfold f8_1
   refine aa.tv rfl (aa.ite (br hlt) (fun _=>?_) fun h=>nomatch h)
   refine aa.tvs he1 (aa.chk rfl (aa.nat hw.slLen (aa.nat (cA (by omega)) (aa.chk (by rw [hw.slSize]; simpa [hl] using hlt) (aa.tvs he2 (aa.chk rfl (aa.tv rfl ?_)))))))
   cases c with
   | true=>exact aa.ite (v:=false) rfl (fun h=>nomatch h) fun _=>aa.tv (inc hlt (by omega)) (f8_1_J (miss (.inl rfl)))
   | false=>exact aa.ite (v:=true) rfl (fun _=>aa.tv hbl.len (f8_2_J (outBlk hb hM hl hw hu hbl hc (fun h=>miss (.inr h)) (fun w' hs h=>hit w' hs rfl h) u.blocks.length 0 (by omega) fun j hj=>by omega))) fun h=>nomatch h)
  m.funcs.length _ _ (by simp) (by simp) rn (repF (n:=m.funcs.length) (by omega))
 refine ⟨y,F',?_,h2,h3,h4⟩
 have han:aF (I (m.funcs.length:Int))=some m.funcs.length:=cA (by omega)
 refine aG.of (f8_MR _) ?_
 unfold f8_M
 refine aa.chk rfl (aa.chk rfl (aa.call hsh (aa.chk rfl (aa.tv rfl (aa.ite rfl (fun h=>?_) fun h=>?_)))))
 ·rw [d9 hM] at h; cases h
 ·exact aa.tv hb.len (aa.nat han (aa.nat han (aa.chk (by simp; omega) (f8_0_J h1))))
end Go.Ab.T12
end
section
set_option maxRecDepth 10000
namespace Go.Ab
section
variable {s:Nat} {α:Type} {R:List TV→α→Prop} {y:TV} {l:List α}
end
end Go.Ab
namespace Go.Ab.T12
open Go Go.Ab Go.Proofs
theorem nQ {v:TV} (h:v.isSl=true):ac zSl [v] 0=true:=by
 show (v.isSl && true)=true
 rw [h]; rfl
end Go.Ab.T12
end
section
set_option maxRecDepth 10000
namespace Go.Ab
theorem BK {α:Type} {l:List α} {j:Nat} {a:α} (h:l[j]? = some a):l.take (j + 1)=l.take j ++ [a]:=by
 rw [List.take_add_one,h]; rfl
end Go.Ab
namespace Go.Ab.T12
open Go Go.Ab Go.Proofs
section
variable {q:Option Bool} {b:TV} {bs:List DBlock} (hb:RL q 14 (RBlock q) b bs)
include hb
end
theorem r73 {q:Option Bool} {x:TV} {l:List Int} (hx:RInts q x l) (n:Int):∃ k:Int,aG prog 53 [x,I n] (I k)∧(0≤k ↔ n ∈ l):=by
 have hbn:=hx.bnd
 have loop:∀ (d j:Nat),j + d=l.length→n ∉ l.take j→∃ k:Int,aa prog 53 (f53_0 x (I n) (I l.length) (I j)) (I k)∧(0≤k ↔ n ∈ l):=by
  intro d
  induction d with
  | zero =>
   intro j hj hn
   have hj:j=l.length:=by omega
   subst hj
   rw [List.take_length] at hn
   refine ⟨-1,?_,⟨fun h=>by omega,fun h=>absurd h hn⟩⟩
   unfold f53_0
   exact aa.tv rfl (aa.ite bg (fun h=>nomatch h) fun _=>aa.ret)
  | succ d ih =>
   intro j hj hn
   have hjl:j < l.length:=by omega
   obtain ⟨a,haa⟩:∃ a,a=l[j]:=⟨_,rfl⟩
   have hla:l[j]? = some a:=by rw [haa]; exact C7 hjl
   obtain ⟨e,he,rfl,hea⟩:=hx.idx (k:=.i64) hla
   by_cases ha:n=a
   ·refine ⟨(j:Int),?_,⟨fun _=>by rw [ha]; exact Df hla,fun _=>by omega⟩⟩
    unfold f53_0
    exact aa.tv rfl (aa.ite (br hjl) (fun _=>aa.tvs he (aa.chk rfl (aa.tv rfl (aa.ite (v:=true) (by simp [asBool,ha]) (fun _=>aa.ret) fun h=>nomatch h)))) fun h=>nomatch h)
   ·obtain ⟨k,hk,hr⟩:=ih (j + 1) (by omega) (by rw [BK hla]; simp [hn,ha])
    refine ⟨k,?_,hr⟩
    unfold f53_0
    exact aa.tv rfl (aa.ite (br hjl) (fun _=>aa.tvs he (aa.chk rfl (aa.tv rfl (aa.ite (v:=false) (by simp [asBool,ha]) (fun h=>nomatch h) fun _=>aa.tv (inc hjl hbn) (f53_0_J hk))))) fun h=>nomatch h)
 obtain ⟨k,hk,hr⟩:=loop l.length 0 (by omega) (by simp)
 refine ⟨k,?_,hr⟩
 refine aG.of (f53_MR _ _) ?_
 unfold f53_M
 exact aa.tv hx.len (f53_0_J hk)
theorem r74 {q:Option Bool} {x:TV} {l:List Int} (hx:RInts q x l) (n:Int):aG prog 37 [x,I n] (B (decide (n ∈ l))):=by
 obtain ⟨k,hk,hr⟩:=r73 hx n
 refine aG.of (f37_MR _ _) ?_
 unfold f37_M
 refine aa.call hk (aa.chk rfl (aa.tv rfl (nP.2 ?_)))
 simp [← hr]
end Go.Ab.T12
end
section
set_option maxRecDepth 10000
namespace Go.Ab.T12
open Go Go.Ab Go.Proofs
section
variable {q:Option Bool} {b w:TV} {m:DMod} (hb:RL q 3 (RFunc q) b m.funcs) (hM:j6 m) {F:List Bool} (hl:F.length=m.funcs.length) (hw:RBools (some true) w F)
include hb hM hl hw
theorem AR {n:Nat} {u:DFunc} {bl:TV} {g:Bool} {y:TV} (hu:m.funcs[n]? = some u) (hbl:RL q 14 (RBlock q) bl u.blocks) (hF:F[n]? = some false)
  (miss:¬ l6 (sB fun o=>o ∈ ([12,13]:List Int)) F u→aa prog 9 (f9_1 (B g) b (I m.funcs.length) (I (n + 1:Nat)) b w (.sl true 1 [[I 12],[I 13]])) y)
  (hit:∀ w',eT [] w n 0 [B true]=some w'→l6 (sB fun o=>o ∈ ([12,13]:List Int)) F u→aa prog 9 (f9_1 (B true) b (I m.funcs.length) (I (n + 1:Nat)) b w' (.sl true 1 [[I 12],[I 13]])) y) :
  ∀ (d i:Nat),i + d=u.blocks.length→(∀ j,j < i→∀ c,u.blocks[j]? = some c→¬ sB (fun o=>o ∈ ([12,13]:List Int)) F u c) →
   aa prog 9 (f9_2 bl (I u.blocks.length) (I i) (I u.params) (I u.regs) bl b w (.sl true 1 [[I 12],[I 13]]) (B g) (I n) b (I m.funcs.length) (I n) (B true)) y:=by
 have hN:=hM.1
 have hbnd:=hbl.bnd
 have hlt:=(C6.1 hF).1
 obtain ⟨e0,he0,hR0⟩:=hw.pel hF
 cases hR0
 obtain ⟨w1,hs1,hw1⟩:=hw.sH he0 (d:=0) (ys:=[B true]) (a:=true) rfl
 have ann:aF (I (n:Int))=some n:=cA (by omega)
 have hchk:(slSize w 1 && Nat.blt n F.length)=true:=by rw [hw.slSize]; simpa using hlt
 have hinc:pbin (.int .i64) .add (I (n:Int)) (I (1:Int))=some (I ((n + 1:Nat):Int)):=inc hlt (by omega)
 intro d
 induction d with
 | zero =>
  intro i hi hno
  have hi:i=u.blocks.length:=by omega
  subst hi
  unfold f9_2
  refine aa.tv rfl (aa.ite bg (fun h=>nomatch h) fun _=>aa.tv (v:=B false) rfl (aa.ite (v:=true) rfl (fun _=>aa.ite (v:=false) rfl (fun h=>nomatch h) fun _=>?_) fun h=>nomatch h))
  refine aa.tv hinc (f9_1_J (miss ?_))
  rintro ⟨c,hc,h⟩
  obtain ⟨j,hj,rfl⟩:=List.mem_iff_getElem.1 hc
  exact hno j hj _ (C7 hj) h
 | succ d ih =>
  intro i hi hno
  have hil:i < u.blocks.length:=by omega
  have hc:=C7 hil
  generalize u.blocks[i]=c at hc
  have hnm:=qY hM hu hc
  rw [← hl] at hnm
  obtain ⟨e,he,hR⟩:=hbl.idx (k:=.i64) hc
  have hR':=hR
  obtain ⟨c2,c5,c10,rfl,h2,hd,h5,h10,hok⟩:=hR'
  have hbi:=h5.bnd
  have hwz:=hw.frz (S:=RB1) fun _ _ h=>h.frz
  have hcl:=sk hwz hR hnm
  have hiv:=mw hwz hR hnm
  have yes:sB (fun o=>o ∈ ([12,13]:List Int)) F u c→aa prog 9 (f9_1 (B true) b (I m.funcs.length) (I (n + 1:Nat)) b w1 (.sl true 1 [[I 12],[I 13]])) y:=fun h=>hit w1 hs1 ⟨c,Df hc,h⟩
  have no:¬ sB (fun o=>o ∈ ([12,13]:List Int)) F u c→aa prog 9 (f9_2 bl (I u.blocks.length) (I (i + 1:Nat)) (I u.params) (I u.regs) bl b w (.sl true 1 [[I 12],[I 13]]) (B g) (I n) b (I m.funcs.length) (I n) (B true)) y:=fun h =>
   ih (i + 1) (by omega) fun j hj c' hc' h'=>by
    by_cases e:j=i
    ·subst e; rw [hc] at hc'; cases hc'; exact h h'
    ·exact hno j (by omega) c' hc' h'
  have three:∀ (d k:Nat),k + d=c.ins.length→(∀ j,j < k→∀ x,c.ins[j]? = some x→¬ x.op ∈ ([12,13]:List Int)) →
    aa prog 9 (f9_3 c5 (I c.ins.length) (I k) b (I u.params) (I u.regs) bl w (B c.landing) (I c.pad.dst) c2 (B c.pad.all) (B c.pad.cleanup) c5 (I c.fin.kind) (I c.fin.a) (I c.fin.dst) (I c.fin.f) c10 (I c.fin.to) (I c.fin.els) (I c.fin.pad) (.sl true 1 [[I 12],[I 13]]) (B g) (I n) b (I m.funcs.length) (I n) (B true) bl (I i) (I u.blocks.length) (I i)) y:=by
   intro d
   induction d with
   | zero =>
    intro k hk hnone
    have hk:k=c.ins.length:=by omega
    subst hk
    have hi0:¬ ∃ x ∈ c.ins,x.op ∈ ([12,13]:List Int):=by
     rintro ⟨x,hx,h⟩
     obtain ⟨j,hj,rfl⟩:=List.mem_iff_getElem.1 hx
     exact hnone j hj _ (C7 hj) h
    unfold f9_3
    refine aa.tv rfl (aa.ite bg (fun h=>nomatch h) fun _=>aa.tv (v:=B false) rfl (aa.ite (v:=false) rfl (fun h=>nomatch h) fun _=>?_))
    refine aa.call hcl (aa.chk rfl (aa.ite o8 (fun h=>?_) fun h=>?_))
    ·refine aa.tv geq0 (aa.ite (v:=true) rfl (fun _=>aa.ite (v:=true) rfl (fun _=>?_) fun h=>nomatch h) fun h=>nomatch h)
     exact aa.nat hw.slLen (aa.nat ann (aa.chk hchk (aa.tvs he0 (aa.chk rfl (aa.tv hs1 (aa.tv hinc (f9_1_J (yes (.inr (.inl (aB.1 h)))))))))))
    ·have hc0:¬ kN F c:=fun h'=>by rw [d9 h'] at h; cases h
     refine aa.call hiv (aa.chk rfl (aa.ite o8 (fun h=>?_) fun h=>?_))
     ·refine aa.tv geq0 (aa.ite (v:=true) rfl (fun _=>aa.ite (v:=true) rfl (fun _=>?_) fun h=>nomatch h) fun h=>nomatch h)
      exact aa.nat hw.slLen (aa.nat ann (aa.chk hchk (aa.tvs he0 (aa.chk rfl (aa.tv hs1 (aa.tv hinc (f9_1_J (yes (.inr (.inr (aB.1 h)))))))))))
     ·have hv0:¬ zi F c:=fun h'=>by rw [d9 h'] at h; cases h
      refine aa.tv (inc hil hbnd) (f9_2_J (no ?_))
      rintro (h | h | h)
      ·exact hi0 h
      ·exact hc0 h
      ·exact hv0 h
   | succ d ih2 =>
    intro k hk hnone
    have hkl:k < c.ins.length:=by omega
    have hx:=C7 hkl
    generalize c.ins[k]=x at hx
    obtain ⟨e2,he2,hR2⟩:=h5.idx (k:=.i64) hx
    obtain ⟨g2,rfl,_⟩:=hR2
    have hcon:=r74 (q:=some false) (x:=frz (.sl true 1 [[I 12],[I 13]])) (l:=([12,13]:List Int)) (.sl (fun _ h=>Option.some.inj h) (.cons ⟨rfl,by constructor <;> decide⟩ (.cons ⟨rfl,by constructor <;> decide⟩ .nil)) (by decide)) x.op
    unfold f9_3
    refine aa.tv rfl (aa.ite (br hkl) (fun _=>?_) fun h=>nomatch h)
    refine aa.tvs he2 (aa.chk rfl (aa.call hcon (aa.chk rfl (aa.ite rfl (fun h=>?_) fun h=>?_))))
    ·have hm:x.op ∈ ([12,13]:List Int):=of_decide_eq_true h
     refine aa.tv geq0 (aa.ite (v:=true) rfl (fun _=>?_) fun h=>nomatch h)
     refine aa.tv geq0 (aa.ite (v:=true) rfl (fun _=>aa.ite (v:=true) rfl (fun _=>?_) fun h=>nomatch h) fun h=>nomatch h)
     exact aa.nat hw.slLen (aa.nat ann (aa.chk hchk (aa.tvs he0 (aa.chk rfl (aa.tv hs1 (aa.tv hinc (f9_1_J (yes (.inl ⟨x,Df hx,hm⟩)))))))))
    ·have hm:¬ x.op ∈ ([12,13]:List Int):=of_decide_eq_false h
     exact aa.tv (inc hkl hbi) (f9_3_J (ih2 (k + 1) (by omega) fun j hj x' hx' h'=>by
      by_cases e:j=k
      ·subst e; rw [hx] at hx'; cases hx'; exact hm h'
      ·exact hnone j (by omega) x' hx' h'))
  unfold f9_2
  refine aa.tv rfl (aa.ite (br hil) (fun _=>?_) fun h=>nomatch h)
  exact aa.tvs he (aa.chk rfl (aa.tv h5.len (f9_3_J (three c.ins.length 0 (by omega) fun j hj=>by omega))))
end
theorem rTells {q:Option Bool} {e:List TV} {m:DMod} (he:RMod q e m) (hM:j6 m):∃ y F,aG prog 9 [.agg e] y∧RBools (some true) y F∧F.length=m.funcs.length∧∀ k:Nat,F[k]? = some true ↔ Doe m (fun o=>o ∈ ([12,13]:List Int)) k:=by
 have hsh:=r8 he
 obtain ⟨b,rfl,hb⟩:=he
 have hN:=hM.1
 obtain ⟨y,F',h1,h2,h3,h4⟩:=mu (tI m fun o=>o ∈ ([12,13]:List Int)) (A:=prog) (f:=9) (P0:=fun g w=>f9_0 (B g) b w (.sl true 1 [[I 12],[I 13]])) (P1:=fun g n w=>f9_1 (B g) b (I m.funcs.length) (I n) b w (.sl true 1 [[I 12],[I 13]]))
  (fun w y h => by
   unfold f9_0
   exact aa.ite (v:=true) rfl (fun _=>aa.tv hb.len (f9_1_J h)) fun h=>nomatch h)
  (fun w F h => by
   unfold f9_0
   exact aa.ite (v:=false) rfl (fun h=>nomatch h) fun _=>aa.chk (h.own fun _ _ h=>by cases h; rfl) aa.ret)
  (fun g w y h => by
   unfold f9_1
   exact aa.tv rfl (aa.ite bg (fun h=>nomatch h) fun _=>f9_0_J h))
  (fun g n w F c u y hl hw hc hu miss hit => by
   have hlt:=(C6.1 hu).1
   obtain ⟨e1,he1,hR1⟩:=hb.idx (k:=.i64) hu
   obtain ⟨bl,rfl,hbl,_⟩:=hR1
   obtain ⟨e2,he2,hR2⟩:=hw.pel hc
   cases hR2
   unfold f9_1
   refine aa.tv rfl (aa.ite (br hlt) (fun _=>?_) fun h=>nomatch h)
   refine aa.tvs he1 (aa.chk rfl (aa.nat hw.slLen (aa.nat (cA (by omega)) (aa.chk (by rw [hw.slSize]; simpa [hl] using hlt) (aa.tvs he2 (aa.chk rfl (aa.tv rfl ?_)))))))
   cases c with
   | true=>exact aa.ite (v:=false) rfl (fun h=>nomatch h) fun _=>aa.tv (inc hlt (by omega)) (f9_1_J (miss (.inl rfl)))
   | false=>exact aa.ite (v:=true) rfl (fun _=>aa.tv hbl.len (f9_2_J (AR hb hM hl hw hu hbl hc (fun h=>miss (.inr h)) (fun w' hs h=>hit w' hs rfl h) u.blocks.length 0 (by omega) fun j hj=>by omega))) fun h=>nomatch h)
  m.funcs.length _ _ (by simp) (by simp) rn (repF (n:=m.funcs.length) (by omega))
 refine ⟨y,F',?_,h2,h3,h4⟩
 have han:aF (I (m.funcs.length:Int))=some m.funcs.length:=cA (by omega)
 refine aG.of (f9_MR _) ?_
 unfold f9_M
 refine aa.chk rfl (aa.chk (by rw [tY]; rfl) (aa.call hsh (aa.chk rfl (aa.tv rfl (aa.ite rfl (fun h=>?_) fun h=>?_)))))
 ·rw [d9 hM] at h; cases h
 ·exact aa.tv hb.len (aa.nat han (aa.nat han (aa.chk (by simp; omega) (f9_0_J h1))))
section
variable {q:Option Bool} {b w:TV} {m:DMod} (hb:RL q 3 (RFunc q) b m.funcs) (hM:j6 m) {F:List Bool} (hl:F.length=m.funcs.length) (hw:RBools (some true) w F)
include hb hM hl hw
theorem yX {n:Nat} {u:DFunc} {bl:TV} {g:Bool} {y:TV} (hu:m.funcs[n]? = some u) (hbl:RL q 14 (RBlock q) bl u.blocks) (hF:F[n]? = some false)
  (miss:¬ l6 (sB fun o=>o ∈ ([10]:List Int)) F u→aa prog 10 (f10_1 (B g) b (I m.funcs.length) (I (n + 1:Nat)) b w (.sl true 1 [[I 10]])) y)
  (hit:∀ w',eT [] w n 0 [B true]=some w'→l6 (sB fun o=>o ∈ ([10]:List Int)) F u→aa prog 10 (f10_1 (B true) b (I m.funcs.length) (I (n + 1:Nat)) b w' (.sl true 1 [[I 10]])) y) :
  ∀ (d i:Nat),i + d=u.blocks.length→(∀ j,j < i→∀ c,u.blocks[j]? = some c→¬ sB (fun o=>o ∈ ([10]:List Int)) F u c) →
   aa prog 10 (f10_2 bl (I u.blocks.length) (I i) (I u.params) (I u.regs) bl b w (.sl true 1 [[I 10]]) (B g) (I n) b (I m.funcs.length) (I n) (B true)) y:=by
 have hN:=hM.1
 have hbnd:=hbl.bnd
 have hlt:=(C6.1 hF).1
 obtain ⟨e0,he0,hR0⟩:=hw.pel hF
 cases hR0
 obtain ⟨w1,hs1,hw1⟩:=hw.sH he0 (d:=0) (ys:=[B true]) (a:=true) rfl
 have ann:aF (I (n:Int))=some n:=cA (by omega)
 have hchk:(slSize w 1 && Nat.blt n F.length)=true:=by rw [hw.slSize]; simpa using hlt
 have hinc:pbin (.int .i64) .add (I (n:Int)) (I (1:Int))=some (I ((n + 1:Nat):Int)):=inc hlt (by omega)
 intro d
 induction d with
 | zero =>
  intro i hi hno
  have hi:i=u.blocks.length:=by omega
  subst hi
  unfold f10_2
  refine aa.tv rfl (aa.ite bg (fun h=>nomatch h) fun _=>aa.tv (v:=B false) rfl (aa.ite (v:=true) rfl (fun _=>aa.ite (v:=false) rfl (fun h=>nomatch h) fun _=>?_) fun h=>nomatch h))
  refine aa.tv hinc (f10_1_J (miss ?_))
  rintro ⟨c,hc,h⟩
  obtain ⟨j,hj,rfl⟩:=List.mem_iff_getElem.1 hc
  exact hno j hj _ (C7 hj) h
 | succ d ih =>
  intro i hi hno
  have hil:i < u.blocks.length:=by omega
  have hc:=C7 hil
  generalize u.blocks[i]=c at hc
  have hnm:=qY hM hu hc
  rw [← hl] at hnm
  obtain ⟨e,he,hR⟩:=hbl.idx (k:=.i64) hc
  have hR':=hR
  obtain ⟨c2,c5,c10,rfl,h2,hd,h5,h10,hok⟩:=hR'
  have hbi:=h5.bnd
  have hwz:=hw.frz (S:=RB1) fun _ _ h=>h.frz
  have hcl:=sk hwz hR hnm
  have hiv:=mw hwz hR hnm
  have yes:sB (fun o=>o ∈ ([10]:List Int)) F u c→aa prog 10 (f10_1 (B true) b (I m.funcs.length) (I (n + 1:Nat)) b w1 (.sl true 1 [[I 10]])) y:=fun h=>hit w1 hs1 ⟨c,Df hc,h⟩
  have no:¬ sB (fun o=>o ∈ ([10]:List Int)) F u c→aa prog 10 (f10_2 bl (I u.blocks.length) (I (i + 1:Nat)) (I u.params) (I u.regs) bl b w (.sl true 1 [[I 10]]) (B g) (I n) b (I m.funcs.length) (I n) (B true)) y:=fun h =>
   ih (i + 1) (by omega) fun j hj c' hc' h'=>by
    by_cases e:j=i
    ·subst e; rw [hc] at hc'; cases hc'; exact h h'
    ·exact hno j (by omega) c' hc' h'
  have three:∀ (d k:Nat),k + d=c.ins.length→(∀ j,j < k→∀ x,c.ins[j]? = some x→¬ x.op ∈ ([10]:List Int)) →
    aa prog 10 (f10_3 c5 (I c.ins.length) (I k) b (I u.params) (I u.regs) bl w (B c.landing) (I c.pad.dst) c2 (B c.pad.all) (B c.pad.cleanup) c5 (I c.fin.kind) (I c.fin.a) (I c.fin.dst) (I c.fin.f) c10 (I c.fin.to) (I c.fin.els) (I c.fin.pad) (.sl true 1 [[I 10]]) (B g) (I n) b (I m.funcs.length) (I n) (B true) bl (I i) (I u.blocks.length) (I i)) y:=by
   intro d
   induction d with
   | zero =>
    intro k hk hnone
    have hk:k=c.ins.length:=by omega
    subst hk
    have hi0:¬ ∃ x ∈ c.ins,x.op ∈ ([10]:List Int):=by
     rintro ⟨x,hx,h⟩
     obtain ⟨j,hj,rfl⟩:=List.mem_iff_getElem.1 hx
     exact hnone j hj _ (C7 hj) h
    unfold f10_3
    refine aa.tv rfl (aa.ite bg (fun h=>nomatch h) fun _=>aa.tv (v:=B false) rfl (aa.ite (v:=false) rfl (fun h=>nomatch h) fun _=>?_))
    refine aa.call hcl (aa.chk rfl (aa.ite o8 (fun h=>?_) fun h=>?_))
    ·refine aa.tv geq0 (aa.ite (v:=true) rfl (fun _=>aa.ite (v:=true) rfl (fun _=>?_) fun h=>nomatch h) fun h=>nomatch h)
     exact aa.nat hw.slLen (aa.nat ann (aa.chk hchk (aa.tvs he0 (aa.chk rfl (aa.tv hs1 (aa.tv hinc (f10_1_J (yes (.inr (.inl (aB.1 h)))))))))))
    ·have hc0:¬ kN F c:=fun h'=>by rw [d9 h'] at h; cases h
     refine aa.call hiv (aa.chk rfl (aa.ite o8 (fun h=>?_) fun h=>?_))
     ·refine aa.tv geq0 (aa.ite (v:=true) rfl (fun _=>aa.ite (v:=true) rfl (fun _=>?_) fun h=>nomatch h) fun h=>nomatch h)
      exact aa.nat hw.slLen (aa.nat ann (aa.chk hchk (aa.tvs he0 (aa.chk rfl (aa.tv hs1 (aa.tv hinc (f10_1_J (yes (.inr (.inr (aB.1 h)))))))))))
     ·have hv0:¬ zi F c:=fun h'=>by rw [d9 h'] at h; cases h
      refine aa.tv (inc hil hbnd) (f10_2_J (no ?_))
      rintro (h | h | h)
      ·exact hi0 h
      ·exact hc0 h
      ·exact hv0 h
   | succ d ih2 =>
    intro k hk hnone
    have hkl:k < c.ins.length:=by omega
    have hx:=C7 hkl
    generalize c.ins[k]=x at hx
    obtain ⟨e2,he2,hR2⟩:=h5.idx (k:=.i64) hx
    obtain ⟨g2,rfl,_⟩:=hR2
    have hcon:=r74 (q:=some false) (x:=frz (.sl true 1 [[I 10]])) (l:=([10]:List Int)) (.sl (fun _ h=>Option.some.inj h) (.cons ⟨rfl,by constructor <;> decide⟩ .nil) (by decide)) x.op
    unfold f10_3
    refine aa.tv rfl (aa.ite (br hkl) (fun _=>?_) fun h=>nomatch h)
    refine aa.tvs he2 (aa.chk rfl (aa.call hcon (aa.chk rfl (aa.ite rfl (fun h=>?_) fun h=>?_))))
    ·have hm:x.op ∈ ([10]:List Int):=of_decide_eq_true h
     refine aa.tv geq0 (aa.ite (v:=true) rfl (fun _=>?_) fun h=>nomatch h)
     refine aa.tv geq0 (aa.ite (v:=true) rfl (fun _=>aa.ite (v:=true) rfl (fun _=>?_) fun h=>nomatch h) fun h=>nomatch h)
     exact aa.nat hw.slLen (aa.nat ann (aa.chk hchk (aa.tvs he0 (aa.chk rfl (aa.tv hs1 (aa.tv hinc (f10_1_J (yes (.inl ⟨x,Df hx,hm⟩)))))))))
    ·have hm:¬ x.op ∈ ([10]:List Int):=of_decide_eq_false h
     exact aa.tv (inc hkl hbi) (f10_3_J (ih2 (k + 1) (by omega) fun j hj x' hx' h'=>by
      by_cases e:j=k
      ·subst e; rw [hx] at hx'; cases hx'; exact hm h'
      ·exact hnone j (by omega) x' hx' h'))
  unfold f10_2
  refine aa.tv rfl (aa.ite (br hil) (fun _=>?_) fun h=>nomatch h)
  exact aa.tvs he (aa.chk rfl (aa.tv h5.len (f10_3_J (three c.ins.length 0 (by omega) fun j hj=>by omega))))
end
theorem Cn {q:Option Bool} {e:List TV} {m:DMod} (he:RMod q e m) (hM:j6 m):∃ y F,aG prog 10 [.agg e] y∧RBools (some true) y F∧F.length=m.funcs.length∧∀ k:Nat,F[k]? = some true ↔ Doe m (fun o=>o ∈ ([10]:List Int)) k:=by
 have hsh:=r8 he
 obtain ⟨b,rfl,hb⟩:=he
 have hN:=hM.1
 obtain ⟨y,F',h1,h2,h3,h4⟩:=mu (tI m fun o=>o ∈ ([10]:List Int)) (A:=prog) (f:=10) (P0:=fun g w=>f10_0 (B g) b w (.sl true 1 [[I 10]])) (P1:=fun g n w=>f10_1 (B g) b (I m.funcs.length) (I n) b w (.sl true 1 [[I 10]]))
  (fun w y h => by
   unfold f10_0
   exact aa.ite (v:=true) rfl (fun _=>aa.tv hb.len (f10_1_J h)) fun h=>nomatch h)
  (fun w F h => by
   unfold f10_0
   exact aa.ite (v:=false) rfl (fun h=>nomatch h) fun _=>aa.chk (h.own fun _ _ h=>by cases h; rfl) aa.ret)
  (fun g w y h => by
   unfold f10_1
   exact aa.tv rfl (aa.ite bg (fun h=>nomatch h) fun _=>f10_0_J h))
  (fun g n w F c u y hl hw hc hu miss hit => by
   have hlt:=(C6.1 hu).1
   obtain ⟨e1,he1,hR1⟩:=hb.idx (k:=.i64) hu
   obtain ⟨bl,rfl,hbl,_⟩:=hR1
   obtain ⟨e2,he2,hR2⟩:=hw.pel hc
   cases hR2
   unfold f10_1
   refine aa.tv rfl (aa.ite (br hlt) (fun _=>?_) fun h=>nomatch h)
   refine aa.tvs he1 (aa.chk rfl (aa.nat hw.slLen (aa.nat (cA (by omega)) (aa.chk (by rw [hw.slSize]; simpa [hl] using hlt) (aa.tvs he2 (aa.chk rfl (aa.tv rfl ?_)))))))
   cases c with
   | true=>exact aa.ite (v:=false) rfl (fun h=>nomatch h) fun _=>aa.tv (inc hlt (by omega)) (f10_1_J (miss (.inl rfl)))
   | false=>exact aa.ite (v:=true) rfl (fun _=>aa.tv hbl.len (f10_2_J (yX hb hM hl hw hu hbl hc (fun h=>miss (.inr h)) (fun w' hs h=>hit w' hs rfl h) u.blocks.length 0 (by omega) fun j hj=>by omega))) fun h=>nomatch h)
  m.funcs.length _ _ (by simp) (by simp) rn (repF (n:=m.funcs.length) (by omega))
 refine ⟨y,F',?_,h2,h3,h4⟩
 have han:aF (I (m.funcs.length:Int))=some m.funcs.length:=cA (by omega)
 refine aG.of (f10_MR _) ?_
 unfold f10_M
 refine aa.chk rfl (aa.chk (by rw [tY]; rfl) (aa.call hsh (aa.chk rfl (aa.tv rfl (aa.ite rfl (fun h=>?_) fun h=>?_)))))
 ·rw [d9 hM] at h; cases h
 ·exact aa.tv hb.len (aa.nat han (aa.nat han (aa.chk (by simp; omega) (f10_0_J h1))))
end Go.Ab.T12
end
section
set_option maxRecDepth 10000
namespace Go.Ab
theorem wU {a b:Nat} (h:a < b):Nat.blt a b=true:=Nat.ble_eq_true_of_le h
end Go.Ab
namespace Go.Ab.T12
open Go Go.Ab Go.Proofs
section
variable {q:Option Bool} {b:TV} {m:DMod} (hb:RL q 3 (RFunc q) b m.funcs) (hM:j6 m) {F0:List Bool} {n r:Nat} {u:DFunc} {bl:TV} (hu:m.funcs[n]? = some u) (hbl:RL q 14 (RBlock q) bl u.blocks)
 (K:∀ F' w',RBools (some true) w' F'→GI m (Thr m) F0 F' (ZnL m xk (n + 1))→∃ y,aa prog 13 (f13_1 (I r) (I (n + 1:Nat)) b w') y∧IsX m (Thr m) y)
include hb hM hu hbl K
end
end Go.Ab.T12
end
section
set_option maxRecDepth 100000
namespace Go.Ab
end Go.Ab
namespace Go.Ab.T12
open Go Go.Ab Go.Proofs
theorem A5:aG prog 6 [] (B true):=⟨100,by kernel_rfl⟩
end Go.Ab.T12
end
section
set_option maxRecDepth 10000
namespace Go.Ab
theorem RL.mono12 {α:Type} {q:Option Bool} {s:Nat} {R S:List TV→α→Prop} {x:TV} {l:List α} (h:RL q s R x l) (hm:∀ e a,R e a→S e a):RL q s S x l:=by
 rcases h with ⟨rfl,rfl⟩ | ⟨o,xs,rfl,hq,h,hb⟩
 ·exact .nil
 ·exact .sl hq (h.mono hm) hb
theorem byte12 {a:Int} (h0:0≤a) (h:a≤255):pconv (.int .i64) (.lit (.int .u8 a))=some (I a):=by
 show some (TV.lit (.int .i64 (IntKind.i64.wrap a)))=_
 rw [IntKind.wrap_i64]
 congr 4
 omega
theorem rem12 {p:Int} (hp:0≤p) {L:Nat} (hL:0 < L):∃ N:Nat,N < L∧pbin (.int .i64) .rem (I p) (I (L:Int))=some (I (N:Int)):=by
 have h1:0≤p.tmod L:=Int.tmod_nonneg _ hp
 have h2:p.tmod L < L:=Int.tmod_lt_of_pos _ (by omega)
 refine ⟨(p.tmod L).toNat,by omega,?_⟩
 have h3:(((p.tmod L).toNat:Nat):Int)=p.tmod L:=by omega
 rw [h3]
 show (if (L:Int)=0 then none else some (I (p.tmod L)))=_
 rw [if_neg (by omega)]
theorem app12 {α:Type} {s:Nat} {R:List TV→α→Prop} {m:List α} {rows:List (List TV)} (hr:F2 R rows m) (hl:m.length≤4294967296):∃ y',papp s (.sl true s []) rows=some y'∧RL (some true) s R y' m:=by
 have hlen:=hr.length
 refine ⟨.sl true s rows,?_,.sl (by simp) hr (by omega)⟩
 simp [papp,room]; omega
def endT:DEnd:=⟨5,0,0,0,[],0,0,0⟩
def vj:DBlock:=⟨false,⟨0,[],false,false⟩,[],⟨1,0,0,0,[],0,0,0⟩⟩
def fQ (b:DBlock):DBlock:={ b with fin:=endT }
def pC (u:DFunc) (b:DBlock):DFunc:={ u with blocks:=u.blocks.set 0 (fQ b) }
def pI (u:DFunc):DFunc:={ u with blocks:=[vj] }
def jZ (m:DMod) (n:Nat) (v:DFunc):DMod:=⟨m.funcs.set n v⟩
theorem RBlock.throws {q:Option Bool} {e:List TV} {b:DBlock} (h:RBlock q e b):RBlock q (bK e 6 [I 5,I 0,I 0,I 0,.lit bV,I 0,I 0,I 0]) (fQ b):=by
 obtain ⟨c,i,g0,rfl,hc,hd,hi,_,_⟩:=h
 exact ⟨c,i,_,rfl,hc,hd,hi,RL.nil,by simp [DEnd.ok,fQ,endT,inI]⟩
theorem RBlock.fit12 {q:Option Bool} {e:List TV} {b:DBlock} (h:RBlock q e b):dg [.int .i64 0,.int .i64 0,.int .i64 0,.int .i64 0,.slice none 0 0,.int .i64 0,.int .i64 0,.int .i64 0] e 6=true:=by
 refine sX ?_
 obtain ⟨c,i,g,rfl,hc,hd,hi,hg,hx⟩:=h
 have:=hg.isSl
 simp [ac,aY,this,TV.isSc,scV]
section
variable {m:DMod} {n:Nat} {u:DFunc} {b:DBlock} (hu:m.funcs[n]? = some u) (hb:u.blocks[0]? = some b)
include hu
theorem ql {v:DFunc} {k:Nat} {x:DFunc} (h:(jZ m n v).funcs[k]? = some x):(k=n∧x=v)∨(k≠n∧m.funcs[k]? = some x):=by
 have hn:=(C6.1 hu).1
 unfold jZ at h
 by_cases e:k=n
 ·subst e
  rw [List.getElem?_set_self hn] at h
  cases h
  exact .inl ⟨rfl,rfl⟩
 ·rw [List.getElem?_set_ne (Ne.symm e)] at h
  exact .inr ⟨e,h⟩
theorem lX {v:DFunc}:(jZ m n v).funcs[n]? = some v:=List.getElem?_set_self (C6.1 hu).1
theorem nH {v:DFunc} {k:Nat} (h:k≠n):(jZ m n v).funcs[k]? = m.funcs[k]? := List.getElem?_set_ne (Ne.symm h)
theorem sq {i:Nat} {c:DBlock} (h:(pI u).blocks[i]? = some c):c=vj:=by
 have h:[vj][i]? = some c:=h
 have:=Df h
 exact List.mem_singleton.1 this
theorem yM:¬ Thr (jZ m n (pI u)) n∧∀ P:Int→Prop,¬ Doe (jZ m n (pI u)) P n:=by
 have key:∀ {v:DFunc} {i:Nat} {c:DBlock},(jZ m n (pI u)).funcs[n]? = some v→v.blocks[i]? = some c→c=vj:=by
  intro v i c hv hc
  rw [lX hu] at hv
  cases hv
  exact sq hu hc
 refine ⟨fun h=>?_,fun P h=>?_⟩
 ·cases h with
  | thr h1 h2 h3=>rw [key h1 h2] at h3; revert h3; show ¬ ((1:Int)=5∨(1:Int)=6); decide
  | inv h1 h2 h3 _ _ _=>rw [key h1 h2] at h3; revert h3; show ¬ ((1:Int)=4); decide
  | call h1 h2 h3 _ _=>rw [key h1 h2] at h3; cases h3
 ·cases h with
  | own h1 h2 h3 _=>rw [key h1 h2] at h3; cases h3
  | inv h1 h2 h3 _=>rw [key h1 h2] at h3; revert h3; show ¬ ((1:Int)=4); decide
  | call h1 h2 h3 _ _=>rw [key h1 h2] at h3; cases h3
theorem Bz {k:Nat} (h:Thr (jZ m n (pI u)) k):Thr m k:=by
 have hno:=(yM hu).1
 induction h with
 | @thr k i v c h1 h2 h3 =>
  rcases ql hu h1 with ⟨rfl,_⟩ | ⟨_,h4⟩
  ·exact absurd (.thr h1 h2 h3) hno
  ·exact .thr h4 h2 h3
 | @inv k i v c pb h1 h2 h3 h4 h5 h6 ih =>
  rcases ql hu h1 with ⟨rfl,_⟩ | ⟨_,h7⟩
  ·exact absurd (.inv h1 h2 h3 h4 h5 h6) hno
  ·exact .inv h7 h2 h3 h4 h5 ih
 | @call k i j v c x h1 h2 h3 h4 h5 ih =>
  rcases ql hu h1 with ⟨rfl,_⟩ | ⟨_,h7⟩
  ·exact absurd (.call h1 h2 h3 h4 h5) hno
  ·exact .call h7 h2 h3 h4 ih
include hb
theorem lZ:Thr (jZ m n (pC u b)) n:=by
 refine .thr (i:=0) (lX hu) (b:=fQ b) ?_ (.inl rfl)
 show (u.blocks.set 0 (fQ b))[0]? = _
 exact List.getElem?_set_self (C6.1 hb).1
theorem Af {k:Nat} (h:Thr m k):Thr (jZ m n (pC u b)) k:=by
 induction h with
 | @thr k i v c h1 h2 h3 =>
  by_cases e:k=n
  ·subst e; exact lZ hu hb
  ·exact .thr ((nH hu e).trans h1) h2 h3
 | @inv k i v c pb h1 h2 h3 h4 h5 h6 ih =>
  by_cases e:k=n
  ·subst e; exact lZ hu hb
  ·exact .inv ((nH hu e).trans h1) h2 h3 h4 h5 ih
 | @call k i j v c x h1 h2 h3 h4 h5 ih =>
  by_cases e:k=n
  ·subst e; exact lZ hu hb
  ·exact .call ((nH hu e).trans h1) h2 h3 h4 ih
end
end Go.Ab
namespace Go.Ab.T12
open Go Go.Ab Go.Proofs
section
variable {m:DMod} {n:Nat} {u:DFunc} (hu:m.funcs[n]? = some u)
include hu
theorem vG {v:DFunc} (hp:v.params=u.params) {r:Bool} {regs a:Int} {l:List Int} (h:i9 r m.funcs regs a l):i9 r (jZ m n v).funcs regs a l:=by
 refine ⟨fun hr=>?_,h.2⟩
 obtain ⟨h0,g,hg,hl,hw⟩:=h.1 hr
 by_cases e:a.toNat=n
 ·rw [e,hu] at hg
  cases hg
  exact ⟨h0,v,by rw [e]; exact lX hu,by rw [hp]; exact hl,hw⟩
 ·exact ⟨h0,g,(nH hu e).trans hg,hl,hw⟩
theorem o5 {v:DFunc} (hp:v.params=u.params) {regs:Int} {bs:List DBlock} {c:DBlock} (h:iZ m.funcs regs bs c):iZ (jZ m n v).funcs regs bs c:=by
 obtain ⟨h1,h2,h3,h4,h5,h6,h7,h8⟩:=h
 refine ⟨h1,h2,fun i hi x hx=>?_,h4,h5,h6,vG hu hp h7,h8⟩
 obtain ⟨g1,g2,g3,g4,g5,g6⟩:=h3 i hi x hx
 exact ⟨g1,g2,g3,g4,g5,vG hu hp g6⟩
theorem yd (hM:j6 m) {v:DFunc} (hp:v.params=u.params) (hv:pn (jZ m n v).funcs v):j6 (jZ m n v):=by
 obtain ⟨h1,⟨f0,h2,h3⟩,h4⟩:=hM
 refine ⟨by show (m.funcs.set n v).length≤16; rw [List.length_set]; exact h1,?_,fun i hi f hf=>?_⟩
 ·by_cases e:(0:Nat)=n
  ·subst e
   rw [hu] at h2
   cases h2
   exact ⟨v,lX hu,by rw [hp]; exact h3⟩
  ·exact ⟨f0,(nH hu e).trans h2,h3⟩
 ·rcases ql hu hf with ⟨rfl,rfl⟩ | ⟨hne,hf'⟩
  ·exact hv
  ·obtain ⟨g1,g2,g3,g4⟩:=h4 i (C6.1 hf').1 f hf'
   exact ⟨g1,g2,g3,fun j hj c hc=>o5 hu hp (g4 j hj c hc)⟩
end
end Go.Ab.T12
end

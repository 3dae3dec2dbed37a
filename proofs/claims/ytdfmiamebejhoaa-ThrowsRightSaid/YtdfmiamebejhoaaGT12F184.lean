import Derived.Test.YtdfmiamebejhoaaGT12F181
set_option linter.all false
section
set_option maxRecDepth 10000
namespace Go.Ab
structure GI (m:DMod) (X:Nat→Prop) (F0 F:List Bool) (Z:List Bool→Prop):Prop where
 len:F.length=m.funcs.length
 snd:pT X F
 two:(F.count false < F0.count false∧∃ k:Nat,F0[k]? = some false∧X k)∨(F=F0∧Z F0)
def ZnL (m:DMod) (D:List Bool→DFunc→DBlock→Prop) (n:Nat) (F:List Bool):Prop:=∀ (k:Nat) u,k < n→m.funcs[k]? = some u→l7 D F u→F[k]? = some true
def ZiL (m:DMod) (D:List Bool→DFunc→DBlock→Prop) (n:Nat) (u:DFunc) (i:Nat) (F:List Bool):Prop:=ZnL m D n F∧∀ (j:Nat) c,j < i→u.blocks[j]? = some c→D F u c→F[n]? = some true
def ZkL (m:DMod) (D:List Bool→DFunc→DBlock→Prop) (E:List Bool→DFunc→DBlock→Prop) (Q:List Bool→DIns→Prop) (n:Nat) (u:DFunc) (i:Nat) (c:DBlock) (k:Nat) (F:List Bool):Prop :=
 ZiL m D n u i F∧(E F u c→F[n]? = some true)∧∀ (j:Nat) x,j < k→c.ins[j]? = some x→Q F x→F[n]? = some true
section
variable {m:DMod} {D E:List Bool→DFunc→DBlock→Prop} {Q:List Bool→DIns→Prop} {X:Nat→Prop} {F0 F:List Bool} {Z Z':List Bool→Prop}
theorem GI.set {n:Nat} (h:GI m X F0 F Z) (hn:n < m.funcs.length) (hx:X n) (hz:∀ G,Z G→G[n]? = some true→Z' G):GI m X F0 (F.set n true) Z':=by
 have hnF:n < F.length:=by rw [h.len]; exact hn
 have hc:=C3 hnF
 generalize F[n]=c at hc
 refine ⟨by rw [List.length_set]; exact h.len,fun k hk=>?_,?_⟩
 ·by_cases e:k=n
  ·subst e; exact hx
  ·rw [List.getElem?_set_ne (Ne.symm e)] at hk
   exact h.snd k hk
 ·cases c with
  | true =>
   have e:F.set n true=F:=by
    apply List.ext_getElem?
    intro k
    by_cases e:k=n
    ·subst e; rw [List.getElem?_set_self hnF,hc]
    ·rw [List.getElem?_set_ne (Ne.symm e)]
   rw [e]
   rcases h.two with h2 | ⟨rfl,h2⟩
   ·exact .inl h2
   ·exact .inr ⟨rfl,hz _ h2 hc⟩
  | false =>
   have hcnt:=yg hc
   rcases h.two with ⟨h2,h3⟩ | ⟨rfl,h2⟩
   ·exact .inl ⟨by omega,h3⟩
   ·exact .inl ⟨by omega,n,hc,hx⟩
theorem GI.keep (h:GI m X F0 F Z) (hz:Z F→Z' F):GI m X F0 F Z':=by
 refine ⟨h.len,h.snd,?_⟩
 rcases h.two with h2 | ⟨rfl,h2⟩
 ·exact .inl h2
 ·exact .inr ⟨rfl,hz h2⟩
theorem ZiL.zero {n:Nat} {u:DFunc} (h:ZnL m D n F):ZiL m D n u 0 F:=⟨h,fun j c hj=>absurd hj (Nat.not_lt_zero _)⟩
theorem ZiL.all {n:Nat} {u:DFunc} (hu:m.funcs[n]? = some u) (h:ZiL m D n u u.blocks.length F):ZnL m D (n + 1) F:=by
 intro k v hk hv hh
 by_cases e:k=n
 ·subst e
  rw [hu] at hv
  cases hv
  obtain ⟨c,hc,hd⟩:=hh
  obtain ⟨j,hj,rfl⟩:=List.mem_iff_getElem.1 hc
  exact h.2 j _ hj (C3 hj) hd
 ·exact h.1 k v (by omega) hv hh
theorem ZkL.all {n i:Nat} {u:DFunc} {c:DBlock} (hD:D F u c→E F u c∨∃ x ∈ c.ins,Q F x) (hc:u.blocks[i]? = some c) (h:ZkL m D E Q n u i c c.ins.length F):ZiL m D n u (i + 1) F:=by
 refine ⟨h.1.1,fun j c' hj hc' hd=>?_⟩
 by_cases e:j=i
 ·subst e
  rw [hc] at hc'
  cases hc'
  rcases hD hd with he | ⟨x,hx,hq⟩
  ·exact h.2.1 he
  ·obtain ⟨k,hk,rfl⟩:=List.mem_iff_getElem.1 hx
   exact h.2.2 k _ hk (C3 hk) hq
 ·exact h.1.2 j c' (by omega) hc' hd
theorem ZkL.one {n i k:Nat} {u:DFunc} {c:DBlock} {x:DIns} (hx:c.ins[k]? = some x) (h:ZkL m D E Q n u i c k F) (hq:Q F x→F[n]? = some true):ZkL m D E Q n u i c (k + 1) F:=by
 refine ⟨h.1,h.2.1,fun j y hj hy hqy=>?_⟩
 by_cases e:j=k
 ·subst e; rw [hx] at hy; cases hy; exact hq hqy
 ·exact h.2.2 j y (by omega) hy hqy
theorem ZkL.begin {n i:Nat} {u:DFunc} {c:DBlock} (h:ZiL m D n u i F) (he:E F u c→F[n]? = some true):ZkL m D E Q n u i c 0 F:=⟨h,he,fun j x hj=>absurd hj (Nat.not_lt_zero _)⟩
end
def IsX (m:DMod) (X:Nat→Prop) (y:TV):Prop:=∃ F:List Bool,RBools (some true) y F∧F.length=m.funcs.length∧∀ k:Nat,F[k]? = some true ↔ X k
theorem o8 {A:AProg} {f:FuncId} {m:DMod} {D:List Bool→DFunc→DBlock→Prop} {X:Nat→Prop} (hX:rz m D X) {P0:Nat→TV→Prg TV} {P1:Nat→Nat→TV→Prg TV}
  (h0s:∀ r w y,r≤m.funcs.length→aa A f (P1 r 0 w) y→aa A f (P0 r w) y)
  (h0e:∀ w F,RBools (some true) w F→aa A f (P0 (m.funcs.length + 1) w) w)
  (h1e:∀ r w y,r≤m.funcs.length→aa A f (P0 (r + 1) w) y→aa A f (P1 r m.funcs.length w) y)
  (h1s : ∀ r n w F0 F u, r ≤ m.funcs.length → RBools (some true) w F → m.funcs[n]? = some u → GI m X F0 F (ZnL m D n) →
   (∀ F' w',RBools (some true) w' F'→GI m X F0 F' (ZnL m D (n + 1))→∃ y,aa A f (P1 r (n + 1) w') y∧IsX m X y)→∃ y,aa A f (P1 r n w) y∧IsX m X y) :
  ∀ (d r:Nat) (F:List Bool) (w:TV),r + d=m.funcs.length + 1→RBools (some true) w F→F.length=m.funcs.length→pT X F→(Am m D F∨F.count false + r≤m.funcs.length)→∃ y,aa A f (P0 r w) y∧IsX m X y:=by
 intro d
 induction d with
 | zero =>
  intro r F w hr hw hl hs hc
  have hr:r=m.funcs.length + 1:=by omega
  subst hr
  have hc:Am m D F:=hc.resolve_right (by omega)
  exact ⟨w,h0e w F hw,F,hw,hl,fun k=>⟨hs k,hX.dn _ hc k⟩⟩
 | succ d ih =>
  intro r F0 w hr hw hl hs hc
  have row : ∀ (e n : Nat) (F : List Bool) (w : TV), n + e = m.funcs.length → RBools (some true) w F → GI m X F0 F (ZnL m D n) → ∃ y, aa A f (P1 r n w) y ∧ IsX m X y := by
   intro e
   induction e with
   | zero =>
    intro n F w hn hw hG
    have hn:n=m.funcs.length:=by omega
    subst hn
    have key:Am m D F∨F.count false + (r + 1)≤m.funcs.length:=by
     rcases hG.two with ⟨h1,k,h2,h3⟩ | ⟨rfl,h1⟩
     ·rcases hc with hc | hc
      ·have:=hX.dn _ hc k h3
       rw [h2] at this
       cases this
      ·exact .inr (by omega)
     ·exact .inl fun k u hu hh=>h1 k u (C2.1 hu).1 hu hh
    obtain ⟨y,g1,g2⟩:=ih (r + 1) F w (by omega) hw hG.len hG.snd key
    exact ⟨y,h1e r w y (by omega) g1,g2⟩
   | succ e ihe =>
    intro n F w hn hw hG
    have hu:=C3 (show n < m.funcs.length by omega)
    exact h1s r n w F0 F _ (by omega) hw hu hG fun F' w' hw' hG'=>ihe (n + 1) F' w' (by omega) hw' hG'
  obtain ⟨y,g1,g2⟩:=row m.funcs.length 0 F0 w (by omega) hw ⟨hl,hs,.inr ⟨rfl,fun k u hk=>absurd hk (Nat.not_lt_zero _)⟩⟩
  exact ⟨y,h0s r w y (by omega) g1,g2⟩
end Go.Ab
end
section
set_option maxRecDepth 10000
namespace Go.Ab
theorem cC {a c:Int}:asBool (.lit (.bool (a == c)))=some (decide (a=c)):=by
 by_cases h:a=c
 ·subst h; simp [asBool]
 ·have h1:(a == c)=false:=by simpa using h
  simp only [asBool,h1,decide_eq_false h]
theorem A0 {α:Type} {q:Option Bool} {s:Nat} {R:List TV→α→Prop} {x:TV} {l:List α} (h:RL q s R x l):x.ix=true:=by
 rcases h with ⟨rfl,rfl⟩ | ⟨o,xs,rfl,_⟩ <;> rfl
theorem oM {p:Prop}:asBool (B (tt p))=some (tt p):=rfl
def xD (N:Nat) (u:DFunc) (b:DBlock):Prop:=(∀ x ∈ b.ins,x.op=11→0≤x.f∧x.f.toNat < N)∧(b.fin.kind=4→(0≤b.fin.f∧b.fin.f.toNat < N)∧0≤b.fin.pad∧∃ pb,u.blocks[b.fin.pad.toNat]? = some pb)
end Go.Ab
namespace Go.Ab.T12
open Go Go.Ab Go.Proofs
theorem lv {m:DMod} (h:kn m) {n k:Nat} {u:DFunc} {b:DBlock} (hu:m.funcs[n]? = some u) (hb:u.blocks[k]? = some b):xD m.funcs.length u b:=by
 have hB:=(h.2.2 n (C2.1 hu).1 u hu).2.2.2 k (C2.1 hb).1 b hb
 refine ⟨fun x hx h11=>?_,fun h4=>?_⟩
 ·obtain ⟨i,hi,rfl⟩:=List.mem_iff_getElem.1 hx
  have:=(hB.2.2.1 i hi _ (C3 hi)).2.2.2.2.2
  rw [h11] at this
  obtain ⟨h0,g,hg,_⟩:=this.1 rfl
  exact ⟨h0,(C2.1 hg).1⟩
 ·obtain ⟨_,_,_,hc,_,_,hp⟩:=hB.2.2.2
  rw [h4] at hc hp
  obtain ⟨h0,g,hg,_⟩:=hc.1 rfl
  obtain ⟨h1,pb,hpb,_⟩:=hp.1 rfl
  exact ⟨⟨h0,(C2.1 hg).1⟩,h1,pb,hpb⟩
section
variable {q q':Option Bool} {w:TV} {F:List Bool} (hw:RBools q w F)
include hw
theorem zn {x:TV} {l:List DIns} (hx:RL q' 7 (RIns q') x l) (hn:∀ y ∈ l,y.op=11→0≤y.f∧y.f.toNat < F.length):∀ (d i:Nat),i + d=l.length →
  aa prog 20 (f20_0 x (I l.length) (I i) w) (B (tt (∃ j,i≤j∧∃ y,l[j]? = some y∧y.op=11∧F[y.f.toNat]? = some true))):=by
 have hbnd:=hx.bnd
 intro d
 induction d with
 | zero =>
  intro i hi
  have hi:i=l.length:=by omega
  subst hi
  rw [fV (by rintro ⟨j,hj,y,hy,_⟩; have:=(C2.1 hy).1; omega)]
  unfold f20_0
  exact aa.tv rfl (aa.ite aP (fun h=>nomatch h) fun _=>aa.tv rfl aa.ret)
 | succ d ih =>
  intro i hi
  have hlt:i < l.length:=by omega
  have hy:=C3 hlt
  generalize l[i]=y at hy
  obtain ⟨e,he,hR⟩:=hx.idx (k:=.i64) hy
  obtain ⟨g,rfl,hg,ho⟩:=hR
  have hnext:=ih (i + 1) (by omega)
  have split:(∃ j,i≤j∧∃ y,l[j]? = some y∧y.op=11∧F[y.f.toNat]? = some true) ↔ (y.op=11∧F[y.f.toNat]? = some true)∨∃ j,i + 1≤j∧∃ y,l[j]? = some y∧y.op=11∧F[y.f.toNat]? = some true:=by
   constructor
   ·rintro ⟨j,hj,y',hy',h⟩
    by_cases e:j=i
    ·subst e; rw [hy] at hy'; cases hy'; exact .inl h
    ·exact .inr ⟨j,by omega,y',hy',h⟩
   ·rintro (h | ⟨j,hj,h⟩)
    ·exact ⟨i,Nat.le_refl _,y,hy,h⟩
    ·exact ⟨j,by omega,h⟩
  rw [bL split]
  unfold f20_0
  refine aa.tv rfl (aa.ite (aH hlt) (fun _=>?_) fun h=>nomatch h)
  refine aa.tvs he (aa.chk rfl (aa.tv rfl (aa.ite cC (fun h=>?_) fun h=>?_)))
  ·have h11:y.op=11:=by simpa using h
   obtain ⟨h0,hlf⟩:=hn y (Db hy) h11
   have hc:=C3 hlf
   generalize F[y.f.toNat]=c at hc
   obtain ⟨e2,he2,hR2⟩:=hw.u7 (k:=.i64) h0 hc
   cases hR2
   refine aa.tvs he2 (aa.chk rfl (aa.ite rfl (fun h=>?_) fun h=>?_))
   ·have hcc:c=true:=h
    subst hcc
    rw [cK (.inl ⟨h11,hc⟩)]
    exact aa.tv (v:=B true) (by show some (TV.lit (.bool (decide ((i:Int) ≥ 0))))=_; rw [decide_eq_true (by omega)]) aa.ret
   ·have hcc:c=false:=h
    subst hcc
    rw [bL (p':=∃ j,i + 1≤j∧∃ y,l[j]? = some y∧y.op=11∧F[y.f.toNat]? = some true) ⟨fun h=>h.elim (fun h=>by rw [hc] at h; cases h.2) id,.inr⟩]
    exact aa.tv (inc hlt hbnd) (f20_0_J hnext)
  ·have h11:¬ y.op=11:=by simpa using h
   rw [bL (p':=∃ j,i + 1≤j∧∃ y,l[j]? = some y∧y.op=11∧F[y.f.toNat]? = some true) ⟨fun h=>h.elim (fun h=>absurd h.1 h11) id,.inr⟩]
   exact aa.tv (inc hlt hbnd) (f20_0_J hnext)
theorem qA {e:List TV} {u:DFunc} {b:DBlock} (he:RBlock q' e b) (hn:xD F.length u b):aC prog 20 [.agg e,w] (B (tt (iQ F b))):=by
 obtain ⟨c,i,g,rfl,_,_,hi,_⟩:=he
 have h:=zn hw hi hn.1 b.ins.length 0 (by omega)
 rw [bL (p':=iQ F b) ⟨fun ⟨j,_,y,hy,h⟩=>⟨y,Db hy,h⟩,fun ⟨y,hy,h⟩=>by
  obtain ⟨j,hj,rfl⟩:=List.mem_iff_getElem.1 hy
  exact ⟨j,Nat.zero_le _,_,C3 hj,h⟩⟩] at h
 refine aC.of (f20_MR _ _) ?_
 unfold f20_M
 exact aa.chk rfl (aa.chk (A0 hw) (aa.tv hi.len (f20_0_J h)))
theorem mK {e:List TV} {u:DFunc} {b:DBlock} (he:RBlock q' e b) (hn:xD F.length u b):aC prog 21 [.agg e,w] (B (tt (vz F b))):=by
 obtain ⟨c,i,g,rfl,_⟩:=he
 refine aC.of (f21_MR _ _) ?_
 unfold f21_M
 refine aa.chk rfl (aa.tv rfl (aa.ite cC (fun h=>?_) fun h=>?_))
 ·have h4:b.fin.kind=4:=by simpa using h
  obtain ⟨h0,hlf⟩:=(hn.2 h4).1
  have hc:=C3 hlf
  generalize F[b.fin.f.toNat]=c at hc
  obtain ⟨e2,he2,hR2⟩:=hw.u7 (k:=.i64) h0 hc
  cases hR2
  refine aa.tvs he2 (aa.chk rfl ?_)
  exact aM ⟨fun h=>⟨h4,by rw [hc,h]⟩,fun h=>by have:=h.2; rw [hc] at this; exact Option.some.inj this⟩
 ·have h4:¬ b.fin.kind=4:=by simpa using h
  exact aQ fun h=>h4 h.1
end
end Go.Ab.T12
end
section
set_option maxRecDepth 10000
namespace Go.Ab
theorem geq0 {i:Nat}:pbin (.int .i64) .geq (I (i:Int)) (I 0)=some (B true):=by
 show some (TV.lit (.bool (decide ((i:Int) ≥ 0))))=_
 rw [decide_eq_true (by omega)]
theorem BE {n:Nat} (hn:n≤4294967296):RBools (some true) (.sl true 1 (List.replicate n [B false])) (List.replicate n false):=by
 refine .sl (by simp) ?_ (by simp; omega)
 clear hn
 induction n with
 | zero=>exact .nil
 | succ n ih=>exact .cons rfl ih
theorem kI {X:Nat→Prop} {n:Nat}:pT X (List.replicate n false):=fun k h=>by
 have:=List.eq_of_mem_replicate (Db h)
 cases this
end Go.Ab
namespace Go.Ab.T12
open Go Go.Ab Go.Proofs
section
variable {q:Option Bool} {b w:TV} {m:DMod} (hb:RL q 3 (RFunc q) b m.funcs) (hM:kn m) {F:List Bool} (hl:F.length=m.funcs.length) (hw:RBools (some true) w F)
include hb hM hl hw
theorem outBlk {n:Nat} {u:DFunc} {bl:TV} {g:Bool} {y:TV} (hu:m.funcs[n]? = some u) (hbl:RL q 14 (RBlock q) bl u.blocks) (hF:F[n]? = some false)
  (miss:¬ l7 pS F u→aa prog 8 (f8_1 (B g) b (I m.funcs.length) (I (n + 1:Nat)) b w) y)
  (hit:∀ w',ef [] w n 0 [B true]=some w'→l7 pS F u→aa prog 8 (f8_1 (B true) b (I m.funcs.length) (I (n + 1:Nat)) b w') y) :
  ∀ (d i:Nat),i + d=u.blocks.length→(∀ j,j < i→∀ c,u.blocks[j]? = some c→¬ pS F u c) →
   aa prog 8 (f8_2 bl (I u.blocks.length) (I i) (I u.params) (I u.regs) bl b w (B g) (I n) b (I m.funcs.length) (I n) (B true)) y:=by
 have hN:=hM.1
 have hbnd:=hbl.bnd
 have hlt:=(C2.1 hF).1
 obtain ⟨e0,he0,hR0⟩:=hw.pel hF
 cases hR0
 obtain ⟨w1,hs1,hw1⟩:=hw.ud he0 (d:=0) (ys:=[B true]) (a:=true) rfl
 have ann:aD (I (n:Int))=some n:=bO (by omega)
 have hchk:(slSize w 1 && Nat.blt n F.length)=true:=by rw [hw.slSize]; simpa using hlt
 have hinc:pbin (.int .i64) .add (I (n:Int)) (I (1:Int))=some (I ((n + 1:Nat):Int)):=inc hlt (by omega)
 intro d
 induction d with
 | zero =>
  intro i hi hno
  have hi:i=u.blocks.length:=by omega
  subst hi
  unfold f8_2
  refine aa.tv rfl (aa.ite aP (fun h=>nomatch h) fun _=>aa.tv (v:=B false) rfl (aa.ite (v:=true) rfl (fun _=>aa.ite (v:=false) rfl (fun h=>nomatch h) fun _=>?_) fun h=>nomatch h))
  refine aa.tv hinc (f8_1_J (miss ?_))
  rintro ⟨c,hc,h⟩
  obtain ⟨j,hj,rfl⟩:=List.mem_iff_getElem.1 hc
  exact hno j hj _ (C3 hj) h
 | succ d ih =>
  intro i hi hno
  have hil:i < u.blocks.length:=by omega
  have hc:=C3 hil
  generalize u.blocks[i]=c at hc
  have hnm:=lv hM hu hc
  rw [← hl] at hnm
  obtain ⟨e,he,hR⟩:=hbl.idx (k:=.i64) hc
  have hR':=hR
  obtain ⟨c2,c5,c10,rfl,h2,hd,h5,h10,hok⟩:=hR'
  have hwz:=hw.frz (S:=RB1) fun _ _ h=>h.frz
  have hcl:=qA hwz hR hnm
  have hiv:=mK hwz hR hnm
  have yes:pS F u c→aa prog 8 (f8_1 (B true) b (I m.funcs.length) (I (n + 1:Nat)) b w1) y:=fun h=>hit w1 hs1 ⟨c,Db hc,h⟩
  have no:¬ pS F u c→aa prog 8 (f8_2 bl (I u.blocks.length) (I (i + 1:Nat)) (I u.params) (I u.regs) bl b w (B g) (I n) b (I m.funcs.length) (I n) (B true)) y:=fun h =>
   ih (i + 1) (by omega) fun j hj c' hc' h'=>by
    by_cases e:j=i
    ·subst e; rw [hc] at hc'; cases hc'; exact h h'
    ·exact hno j (by omega) c' hc' h'
  have three : ∀ z : Bool, (z = true ↔ c.fin.kind = 5 ∨ c.fin.kind = 6) →
    aa prog 8 (f8_3 (B z) w (I u.params) (I u.regs) bl (B c.landing) (I c.pad.dst) c2 (B c.pad.all) (B c.pad.cleanup) c5 (I c.fin.kind) (I c.fin.a) (I c.fin.dst) (I c.fin.f) c10 (I c.fin.to) (I c.fin.els) (I c.fin.pad) b (I u.params) (I u.regs) bl (B g) (I n) b (I m.funcs.length) (I n) (B true) bl (I i) (I u.blocks.length) (I i)) y:=by
   intro z hz
   unfold f8_3
   refine aa.ite rfl (fun h=>?_) fun h=>?_
   ·have hz1:z=true:=h
    refine aa.tv geq0 (aa.ite (v:=true) rfl (fun _=>aa.ite (v:=true) rfl (fun _=>?_) fun h=>nomatch h) fun h=>nomatch h)
    exact aa.nat hw.slLen (aa.nat ann (aa.chk hchk (aa.tvs he0 (aa.chk rfl (aa.tv hs1 (aa.tv hinc (f8_1_J (yes (.inl (hz.1 hz1))))))))))
   ·have hz0:¬ (c.fin.kind=5∨c.fin.kind=6):=fun h'=>by rw [hz.2 h'] at h; cases h
    refine aa.call hcl (aa.chk rfl (aa.ite oM (fun h=>?_) fun h=>?_))
    ·refine aa.tv geq0 (aa.ite (v:=true) rfl (fun _=>aa.ite (v:=true) rfl (fun _=>?_) fun h=>nomatch h) fun h=>nomatch h)
     exact aa.nat hw.slLen (aa.nat ann (aa.chk hchk (aa.tvs he0 (aa.chk rfl (aa.tv hs1 (aa.tv hinc (f8_1_J (yes (.inr (.inl (aB.1 h)))))))))))
    ·have hc0:¬ iQ F c:=fun h'=>by rw [cK h'] at h; cases h
     refine aa.call hiv (aa.chk rfl (aa.ite oM (fun h=>?_) fun h=>?_))
     ·have hi1:=aB.1 h
      obtain ⟨_,h0,pb,hpb⟩:=hnm.2 hi1.1
      obtain ⟨e2,he2,hR2⟩:=hbl.u7 (k:=.i64) h0 hpb
      obtain ⟨p2,p5,p10,rfl,_⟩:=hR2
      refine aa.tvs he2 (aa.chk rfl (aa.tv rfl (aa.ite rfl (fun h=>?_) fun h=>?_)))
      ·have ha:pb.pad.all=false:=by simpa using h
       refine aa.tv geq0 (aa.ite (v:=true) rfl (fun _=>aa.ite (v:=true) rfl (fun _=>?_) fun h=>nomatch h) fun h=>nomatch h)
       exact aa.nat hw.slLen (aa.nat ann (aa.chk hchk (aa.tvs he0 (aa.chk rfl (aa.tv hs1 (aa.tv hinc (f8_1_J (yes (.inr (.inr ⟨hi1,pb,hpb,ha⟩))))))))))
      ·have ha:pb.pad.all=true:=by simpa using h
       refine aa.tv (inc hil hbnd) (f8_2_J (no ?_))
       rintro (h | h | ⟨_,pb',hp',ha'⟩)
       ·exact hz0 h
       ·exact hc0 h
       ·rw [hpb] at hp'; cases hp'; rw [ha] at ha'; cases ha'
     ·have hi0:¬ vz F c:=fun h'=>by rw [cK h'] at h; cases h
      refine aa.tv (inc hil hbnd) (f8_2_J (no ?_))
      rintro (h | h | ⟨h,_⟩)
      ·exact hz0 h
      ·exact hc0 h
      ·exact hi0 h
  unfold f8_2
  refine aa.tv rfl (aa.ite (aH hil) (fun _=>?_) fun h=>nomatch h)
  refine aa.tvs he (aa.chk rfl (aa.tv rfl (aa.ite cC (fun h=>?_) fun h=>?_)))
  ·have h5':c.fin.kind=5:=by simpa using h
   exact f8_3_J (three true ⟨fun _=>.inl h5',fun _=>rfl⟩)
  ·have h5':¬ c.fin.kind=5:=by simpa using h
   exact aa.tv (v:=B (c.fin.kind == 6)) rfl (f8_3_J (three _ ⟨fun h=>.inr (by simpa using h),fun h=>by simpa using h.resolve_left h5'⟩))
end
theorem rOut {q:Option Bool} {e:List TV} {m:DMod} (he:RMod q e m) (hM:kn m):∃ y F,aC prog 8 [.agg e] y∧RBools (some true) y F∧F.length=m.funcs.length∧∀ k:Nat,F[k]? = some true ↔ Thr m k:=by
 have hsh:=r8 he
 obtain ⟨b,rfl,hb⟩:=he
 have hN:=hM.1
 obtain ⟨y,F',h1,h2,h3,h4⟩:=mD (o0 m) (A:=prog) (f:=8) (P0:=fun g w=>f8_0 (B g) b w) (P1:=fun g n w=>f8_1 (B g) b (I m.funcs.length) (I n) b w)
  (fun w y h => by
   unfold f8_0
   exact aa.ite (v:=true) rfl (fun _=>aa.tv hb.len (f8_1_J h)) fun h=>nomatch h)
  (fun w F h => by
   unfold f8_0
   exact aa.ite (v:=false) rfl (fun h=>nomatch h) fun _=>aa.chk (h.own fun _ _ h=>by cases h; rfl) aa.ret)
  (fun g w y h => by
   unfold f8_1
   exact aa.tv rfl (aa.ite aP (fun h=>nomatch h) fun _=>f8_0_J h))
  (fun g n w F c u y hl hw hc hu miss hit => by
   have hlt:=(C2.1 hu).1
   obtain ⟨e1,he1,hR1⟩:=hb.idx (k:=.i64) hu
   obtain ⟨bl,rfl,hbl,_⟩:=hR1
   obtain ⟨e2,he2,hR2⟩:=hw.pel hc
   cases hR2
   unfold f8_1
   refine aa.tv rfl (aa.ite (aH hlt) (fun _=>?_) fun h=>nomatch h)
   refine aa.tvs he1 (aa.chk rfl (aa.nat hw.slLen (aa.nat (bO (by omega)) (aa.chk (by rw [hw.slSize]; simpa [hl] using hlt) (aa.tvs he2 (aa.chk rfl (aa.tv rfl ?_)))))))
   cases c with
   | true=>exact aa.ite (v:=false) rfl (fun h=>nomatch h) fun _=>aa.tv (inc hlt (by omega)) (f8_1_J (miss (.inl rfl)))
   | false=>exact aa.ite (v:=true) rfl (fun _=>aa.tv hbl.len (f8_2_J (outBlk hb hM hl hw hu hbl hc (fun h=>miss (.inr h)) (fun w' hs h=>hit w' hs rfl h) u.blocks.length 0 (by omega) fun j hj=>by omega))) fun h=>nomatch h)
  m.funcs.length _ _ (by simp) (by simp) kI (BE (n:=m.funcs.length) (by omega))
 refine ⟨y,F',?_,h2,h3,h4⟩
 have han:aD (I (m.funcs.length:Int))=some m.funcs.length:=bO (by omega)
 refine aC.of (f8_MR _) ?_
 unfold f8_M
 refine aa.chk rfl (aa.chk rfl (aa.call hsh (aa.chk rfl (aa.tv rfl (aa.ite rfl (fun h=>?_) fun h=>?_)))))
 ·rw [cK hM] at h; cases h
 ·exact aa.tv hb.len (aa.nat han (aa.nat han (aa.chk (by simp; omega) (f8_0_J h1))))
theorem rOutNo {q:Option Bool} {e:List TV} {m:DMod} (he:RMod q e m) (hM:¬ kn m):aC prog 8 [.agg e] (.lit cV):=by
 have hsh:=r8 he
 obtain ⟨b,rfl,hb⟩:=he
 refine aC.of (f8_MR _) ?_
 unfold f8_M
 refine aa.chk rfl (aa.chk rfl (aa.call hsh (aa.chk rfl (aa.tv rfl (aa.ite rfl (fun h=>aa.chk rfl aa.ret) fun h=>?_)))))
 rw [fV hM] at h; cases h
end Go.Ab.T12
end
section
set_option maxRecDepth 10000
namespace Go.Ab
section
variable {s:Nat} {α:Type} {R:List TV→α→Prop} {y:TV} {l:List α}
end
end Go.Ab
namespace Go.Ab.T12
open Go Go.Ab Go.Proofs
theorem lJ {v:TV} (h:v.isSl=true):ac zSl [v] 0=true:=by
 show (v.isSl && true)=true
 rw [h]; rfl
end Go.Ab.T12
end
section
set_option maxRecDepth 10000
namespace Go.Ab
theorem vF {α:Type} {l:List α} {j:Nat} {a:α} (h:l[j]? = some a):l.take (j + 1)=l.take j ++ [a]:=by
 rw [List.take_add_one,h]; rfl
end Go.Ab
namespace Go.Ab.T12
open Go Go.Ab Go.Proofs
section
variable {q:Option Bool} {b:TV} {bs:List DBlock} (hb:RL q 14 (RBlock q) b bs)
include hb
end
theorem r73 {q:Option Bool} {x:TV} {l:List Int} (hx:RInts q x l) (n:Int):∃ k:Int,aC prog 53 [x,I n] (I k)∧(0≤k ↔ n ∈ l):=by
 have hbn:=hx.bnd
 have loop:∀ (d j:Nat),j + d=l.length→n ∉ l.take j→∃ k:Int,aa prog 53 (f53_0 x (I n) (I l.length) (I j)) (I k)∧(0≤k ↔ n ∈ l):=by
  intro d
  induction d with
  | zero =>
   intro j hj hn
   have hj:j=l.length:=by omega
   subst hj
   rw [List.take_length] at hn
   refine ⟨-1,?_,⟨fun h=>by omega,fun h=>absurd h hn⟩⟩
   unfold f53_0
   exact aa.tv rfl (aa.ite aP (fun h=>nomatch h) fun _=>aa.ret)
  | succ d ih =>
   intro j hj hn
   have hjl:j < l.length:=by omega
   obtain ⟨a,haa⟩:∃ a,a=l[j]:=⟨_,rfl⟩
   have hla:l[j]? = some a:=by rw [haa]; exact C3 hjl
   obtain ⟨e,he,rfl,hea⟩:=hx.idx (k:=.i64) hla
   by_cases ha:n=a
   ·refine ⟨(j:Int),?_,⟨fun _=>by rw [ha]; exact Db hla,fun _=>by omega⟩⟩
    unfold f53_0
    exact aa.tv rfl (aa.ite (aH hjl) (fun _=>aa.tvs he (aa.chk rfl (aa.tv rfl (aa.ite (v:=true) (by simp [asBool,ha]) (fun _=>aa.ret) fun h=>nomatch h)))) fun h=>nomatch h)
   ·obtain ⟨k,hk,hr⟩:=ih (j + 1) (by omega) (by rw [vF hla]; simp [hn,ha])
    refine ⟨k,?_,hr⟩
    unfold f53_0
    exact aa.tv rfl (aa.ite (aH hjl) (fun _=>aa.tvs he (aa.chk rfl (aa.tv rfl (aa.ite (v:=false) (by simp [asBool,ha]) (fun h=>nomatch h) fun _=>aa.tv (inc hjl hbn) (f53_0_J hk))))) fun h=>nomatch h)
 obtain ⟨k,hk,hr⟩:=loop l.length 0 (by omega) (by simp)
 refine ⟨k,?_,hr⟩
 refine aC.of (f53_MR _ _) ?_
 unfold f53_M
 exact aa.tv hx.len (f53_0_J hk)
theorem r74 {q:Option Bool} {x:TV} {l:List Int} (hx:RInts q x l) (n:Int):aC prog 37 [x,I n] (B (decide (n ∈ l))):=by
 obtain ⟨k,hk,hr⟩:=r73 hx n
 refine aC.of (f37_MR _ _) ?_
 unfold f37_M
 refine aa.call hk (aa.chk rfl (aa.tv rfl (ji.2 ?_)))
 simp [← hr]
theorem r75 {q:Option Bool} {x:TV} {l:List Int} (hx:RInts q x l) (n:Int):aC prog 24 [x,I n] (B (decide (n ∈ l))):=by
 have hbn:=hx.bnd
 have loop:∀ (d j:Nat),j + d=l.length→n ∉ l.take j→aa prog 24 (f24_0 x (I n) (I j)) (B (decide (n ∈ l))):=by
  intro d
  induction d with
  | zero =>
   intro j hj hn
   have hj:j=l.length:=by omega
   subst hj
   rw [List.take_length] at hn
   unfold f24_0
   exact aa.tv hx.len (aa.tv rfl (aa.ite aP (fun h=>nomatch h) fun _=>ji.2 (by simp [hn])))
  | succ d ih =>
   intro j hj hn
   have hjl:j < l.length:=by omega
   obtain ⟨a,haa⟩:∃ a,a=l[j]:=⟨_,rfl⟩
   have hla:l[j]? = some a:=by rw [haa]; exact C3 hjl
   obtain ⟨e,he,rfl,hea⟩:=hx.idx (k:=.i64) hla
   unfold f24_0
   refine aa.tv hx.len (aa.tv rfl (aa.ite (aH hjl) (fun _=>aa.tvs he (aa.chk rfl (aa.tv rfl (aa.ite rfl (fun h=>?_) fun h=>?_)))) fun h=>nomatch h))
   ·have ha:a=n:=by simpa using h
    have:n ∈ l:=by rw [← ha]; exact Db hla
    exact ji.2 (by simp [this])
   ·have ha:¬ a=n:=by simpa using h
    exact aa.tv (inc hjl hbn) (f24_0_J (ih (j + 1) (by omega) (by rw [vF hla]; simp [hn]; exact fun h=>ha h.symm)))
 refine aC.of (f24_MR _ _) ?_
 unfold f24_M
 exact f24_0_J (loop l.length 0 (by omega) (by simp))
end Go.Ab.T12
end
section
set_option maxRecDepth 10000
namespace Go.Ab.T12
open Go Go.Ab Go.Proofs
section
variable {q:Option Bool} {b w:TV} {m:DMod} (hb:RL q 3 (RFunc q) b m.funcs) (hM:kn m) {F:List Bool} (hl:F.length=m.funcs.length) (hw:RBools (some true) w F)
include hb hM hl hw
theorem Be {n:Nat} {u:DFunc} {bl:TV} {g:Bool} {y:TV} (hu:m.funcs[n]? = some u) (hbl:RL q 14 (RBlock q) bl u.blocks) (hF:F[n]? = some false)
  (miss:¬ l7 (kA fun o=>o ∈ ([12,13]:List Int)) F u→aa prog 9 (f9_1 (B g) b (I m.funcs.length) (I (n + 1:Nat)) b w (.sl true 1 [[I 12],[I 13]])) y)
  (hit:∀ w',ef [] w n 0 [B true]=some w'→l7 (kA fun o=>o ∈ ([12,13]:List Int)) F u→aa prog 9 (f9_1 (B true) b (I m.funcs.length) (I (n + 1:Nat)) b w' (.sl true 1 [[I 12],[I 13]])) y) :
  ∀ (d i:Nat),i + d=u.blocks.length→(∀ j,j < i→∀ c,u.blocks[j]? = some c→¬ kA (fun o=>o ∈ ([12,13]:List Int)) F u c) →
   aa prog 9 (f9_2 bl (I u.blocks.length) (I i) (I u.params) (I u.regs) bl b w (.sl true 1 [[I 12],[I 13]]) (B g) (I n) b (I m.funcs.length) (I n) (B true)) y:=by
 have hN:=hM.1
 have hbnd:=hbl.bnd
 have hlt:=(C2.1 hF).1
 obtain ⟨e0,he0,hR0⟩:=hw.pel hF
 cases hR0
 obtain ⟨w1,hs1,hw1⟩:=hw.ud he0 (d:=0) (ys:=[B true]) (a:=true) rfl
 have ann:aD (I (n:Int))=some n:=bO (by omega)
 have hchk:(slSize w 1 && Nat.blt n F.length)=true:=by rw [hw.slSize]; simpa using hlt
 have hinc:pbin (.int .i64) .add (I (n:Int)) (I (1:Int))=some (I ((n + 1:Nat):Int)):=inc hlt (by omega)
 intro d
 induction d with
 | zero =>
  intro i hi hno
  have hi:i=u.blocks.length:=by omega
  subst hi
  unfold f9_2
  refine aa.tv rfl (aa.ite aP (fun h=>nomatch h) fun _=>aa.tv (v:=B false) rfl (aa.ite (v:=true) rfl (fun _=>aa.ite (v:=false) rfl (fun h=>nomatch h) fun _=>?_) fun h=>nomatch h))
  refine aa.tv hinc (f9_1_J (miss ?_))
  rintro ⟨c,hc,h⟩
  obtain ⟨j,hj,rfl⟩:=List.mem_iff_getElem.1 hc
  exact hno j hj _ (C3 hj) h
 | succ d ih =>
  intro i hi hno
  have hil:i < u.blocks.length:=by omega
  have hc:=C3 hil
  generalize u.blocks[i]=c at hc
  have hnm:=lv hM hu hc
  rw [← hl] at hnm
  obtain ⟨e,he,hR⟩:=hbl.idx (k:=.i64) hc
  have hR':=hR
  obtain ⟨c2,c5,c10,rfl,h2,hd,h5,h10,hok⟩:=hR'
  have hbi:=h5.bnd
  have hwz:=hw.frz (S:=RB1) fun _ _ h=>h.frz
  have hcl:=qA hwz hR hnm
  have hiv:=mK hwz hR hnm
  have yes:kA (fun o=>o ∈ ([12,13]:List Int)) F u c→aa prog 9 (f9_1 (B true) b (I m.funcs.length) (I (n + 1:Nat)) b w1 (.sl true 1 [[I 12],[I 13]])) y:=fun h=>hit w1 hs1 ⟨c,Db hc,h⟩
  have no:¬ kA (fun o=>o ∈ ([12,13]:List Int)) F u c→aa prog 9 (f9_2 bl (I u.blocks.length) (I (i + 1:Nat)) (I u.params) (I u.regs) bl b w (.sl true 1 [[I 12],[I 13]]) (B g) (I n) b (I m.funcs.length) (I n) (B true)) y:=fun h =>
   ih (i + 1) (by omega) fun j hj c' hc' h'=>by
    by_cases e:j=i
    ·subst e; rw [hc] at hc'; cases hc'; exact h h'
    ·exact hno j (by omega) c' hc' h'
  have three:∀ (d k:Nat),k + d=c.ins.length→(∀ j,j < k→∀ x,c.ins[j]? = some x→¬ x.op ∈ ([12,13]:List Int)) →
    aa prog 9 (f9_3 c5 (I c.ins.length) (I k) b (I u.params) (I u.regs) bl w (B c.landing) (I c.pad.dst) c2 (B c.pad.all) (B c.pad.cleanup) c5 (I c.fin.kind) (I c.fin.a) (I c.fin.dst) (I c.fin.f) c10 (I c.fin.to) (I c.fin.els) (I c.fin.pad) (.sl true 1 [[I 12],[I 13]]) (B g) (I n) b (I m.funcs.length) (I n) (B true) bl (I i) (I u.blocks.length) (I i)) y:=by
   intro d
   induction d with
   | zero =>
    intro k hk hnone
    have hk:k=c.ins.length:=by omega
    subst hk
    have hi0:¬ ∃ x ∈ c.ins,x.op ∈ ([12,13]:List Int):=by
     rintro ⟨x,hx,h⟩
     obtain ⟨j,hj,rfl⟩:=List.mem_iff_getElem.1 hx
     exact hnone j hj _ (C3 hj) h
    unfold f9_3
    refine aa.tv rfl (aa.ite aP (fun h=>nomatch h) fun _=>aa.tv (v:=B false) rfl (aa.ite (v:=false) rfl (fun h=>nomatch h) fun _=>?_))
    refine aa.call hcl (aa.chk rfl (aa.ite oM (fun h=>?_) fun h=>?_))
    ·refine aa.tv geq0 (aa.ite (v:=true) rfl (fun _=>aa.ite (v:=true) rfl (fun _=>?_) fun h=>nomatch h) fun h=>nomatch h)
     exact aa.nat hw.slLen (aa.nat ann (aa.chk hchk (aa.tvs he0 (aa.chk rfl (aa.tv hs1 (aa.tv hinc (f9_1_J (yes (.inr (.inl (aB.1 h)))))))))))
    ·have hc0:¬ iQ F c:=fun h'=>by rw [cK h'] at h; cases h
     refine aa.call hiv (aa.chk rfl (aa.ite oM (fun h=>?_) fun h=>?_))
     ·refine aa.tv geq0 (aa.ite (v:=true) rfl (fun _=>aa.ite (v:=true) rfl (fun _=>?_) fun h=>nomatch h) fun h=>nomatch h)
      exact aa.nat hw.slLen (aa.nat ann (aa.chk hchk (aa.tvs he0 (aa.chk rfl (aa.tv hs1 (aa.tv hinc (f9_1_J (yes (.inr (.inr (aB.1 h)))))))))))
     ·have hv0:¬ vz F c:=fun h'=>by rw [cK h'] at h; cases h
      refine aa.tv (inc hil hbnd) (f9_2_J (no ?_))
      rintro (h | h | h)
      ·exact hi0 h
      ·exact hc0 h
      ·exact hv0 h
   | succ d ih2 =>
    intro k hk hnone
    have hkl:k < c.ins.length:=by omega
    have hx:=C3 hkl
    generalize c.ins[k]=x at hx
    obtain ⟨e2,he2,hR2⟩:=h5.idx (k:=.i64) hx
    obtain ⟨g2,rfl,_⟩:=hR2
    have hcon:=r74 (q:=some false) (x:=frz (.sl true 1 [[I 12],[I 13]])) (l:=([12,13]:List Int)) (.sl (fun _ h=>Option.some.inj h) (.cons ⟨rfl,by constructor <;> decide⟩ (.cons ⟨rfl,by constructor <;> decide⟩ .nil)) (by decide)) x.op
    unfold f9_3
    refine aa.tv rfl (aa.ite (aH hkl) (fun _=>?_) fun h=>nomatch h)
    refine aa.tvs he2 (aa.chk rfl (aa.call hcon (aa.chk rfl (aa.ite rfl (fun h=>?_) fun h=>?_))))
    ·have hm:x.op ∈ ([12,13]:List Int):=of_decide_eq_true h
     refine aa.tv geq0 (aa.ite (v:=true) rfl (fun _=>?_) fun h=>nomatch h)
     refine aa.tv geq0 (aa.ite (v:=true) rfl (fun _=>aa.ite (v:=true) rfl (fun _=>?_) fun h=>nomatch h) fun h=>nomatch h)
     exact aa.nat hw.slLen (aa.nat ann (aa.chk hchk (aa.tvs he0 (aa.chk rfl (aa.tv hs1 (aa.tv hinc (f9_1_J (yes (.inl ⟨x,Db hx,hm⟩)))))))))
    ·have hm:¬ x.op ∈ ([12,13]:List Int):=of_decide_eq_false h
     exact aa.tv (inc hkl hbi) (f9_3_J (ih2 (k + 1) (by omega) fun j hj x' hx' h'=>by
      by_cases e:j=k
      ·subst e; rw [hx] at hx'; cases hx'; exact hm h'
      ·exact hnone j (by omega) x' hx' h'))
  unfold f9_2
  refine aa.tv rfl (aa.ite (aH hil) (fun _=>?_) fun h=>nomatch h)
  exact aa.tvs he (aa.chk rfl (aa.tv h5.len (f9_3_J (three c.ins.length 0 (by omega) fun j hj=>by omega))))
end
theorem rTells {q:Option Bool} {e:List TV} {m:DMod} (he:RMod q e m) (hM:kn m):∃ y F,aC prog 9 [.agg e] y∧RBools (some true) y F∧F.length=m.funcs.length∧∀ k:Nat,F[k]? = some true ↔ Doe m (fun o=>o ∈ ([12,13]:List Int)) k:=by
 have hsh:=r8 he
 obtain ⟨b,rfl,hb⟩:=he
 have hN:=hM.1
 obtain ⟨y,F',h1,h2,h3,h4⟩:=mD (lL m fun o=>o ∈ ([12,13]:List Int)) (A:=prog) (f:=9) (P0:=fun g w=>f9_0 (B g) b w (.sl true 1 [[I 12],[I 13]])) (P1:=fun g n w=>f9_1 (B g) b (I m.funcs.length) (I n) b w (.sl true 1 [[I 12],[I 13]]))
  (fun w y h => by
   unfold f9_0
   exact aa.ite (v:=true) rfl (fun _=>aa.tv hb.len (f9_1_J h)) fun h=>nomatch h)
  (fun w F h => by
   unfold f9_0
   exact aa.ite (v:=false) rfl (fun h=>nomatch h) fun _=>aa.chk (h.own fun _ _ h=>by cases h; rfl) aa.ret)
  (fun g w y h => by
   unfold f9_1
   exact aa.tv rfl (aa.ite aP (fun h=>nomatch h) fun _=>f9_0_J h))
  (fun g n w F c u y hl hw hc hu miss hit => by
   have hlt:=(C2.1 hu).1
   obtain ⟨e1,he1,hR1⟩:=hb.idx (k:=.i64) hu
   obtain ⟨bl,rfl,hbl,_⟩:=hR1
   obtain ⟨e2,he2,hR2⟩:=hw.pel hc
   cases hR2
   unfold f9_1
   refine aa.tv rfl (aa.ite (aH hlt) (fun _=>?_) fun h=>nomatch h)
   refine aa.tvs he1 (aa.chk rfl (aa.nat hw.slLen (aa.nat (bO (by omega)) (aa.chk (by rw [hw.slSize]; simpa [hl] using hlt) (aa.tvs he2 (aa.chk rfl (aa.tv rfl ?_)))))))
   cases c with
   | true=>exact aa.ite (v:=false) rfl (fun h=>nomatch h) fun _=>aa.tv (inc hlt (by omega)) (f9_1_J (miss (.inl rfl)))
   | false=>exact aa.ite (v:=true) rfl (fun _=>aa.tv hbl.len (f9_2_J (Be hb hM hl hw hu hbl hc (fun h=>miss (.inr h)) (fun w' hs h=>hit w' hs rfl h) u.blocks.length 0 (by omega) fun j hj=>by omega))) fun h=>nomatch h)
  m.funcs.length _ _ (by simp) (by simp) kI (BE (n:=m.funcs.length) (by omega))
 refine ⟨y,F',?_,h2,h3,h4⟩
 have han:aD (I (m.funcs.length:Int))=some m.funcs.length:=bO (by omega)
 refine aC.of (f9_MR _) ?_
 unfold f9_M
 refine aa.chk rfl (aa.chk (by rw [lV]; rfl) (aa.call hsh (aa.chk rfl (aa.tv rfl (aa.ite rfl (fun h=>?_) fun h=>?_)))))
 ·rw [cK hM] at h; cases h
 ·exact aa.tv hb.len (aa.nat han (aa.nat han (aa.chk (by simp; omega) (f9_0_J h1))))
theorem AL {q:Option Bool} {e:List TV} {m:DMod} (he:RMod q e m) (hM:¬ kn m):aC prog 9 [.agg e] (.lit cV):=by
 have hsh:=r8 he
 obtain ⟨b,rfl,hb⟩:=he
 refine aC.of (f9_MR _) ?_
 unfold f9_M
 refine aa.chk rfl (aa.chk (by rw [lV]; rfl) (aa.call hsh (aa.chk rfl (aa.tv rfl (aa.ite rfl (fun h=>aa.chk rfl aa.ret) fun h=>?_)))))
 rw [fV hM] at h; cases h
section
variable {q:Option Bool} {b w:TV} {m:DMod} (hb:RL q 3 (RFunc q) b m.funcs) (hM:kn m) {F:List Bool} (hl:F.length=m.funcs.length) (hw:RBools (some true) w F)
include hb hM hl hw
theorem yM {n:Nat} {u:DFunc} {bl:TV} {g:Bool} {y:TV} (hu:m.funcs[n]? = some u) (hbl:RL q 14 (RBlock q) bl u.blocks) (hF:F[n]? = some false)
  (miss:¬ l7 (kA fun o=>o ∈ ([10]:List Int)) F u→aa prog 10 (f10_1 (B g) b (I m.funcs.length) (I (n + 1:Nat)) b w (.sl true 1 [[I 10]])) y)
  (hit:∀ w',ef [] w n 0 [B true]=some w'→l7 (kA fun o=>o ∈ ([10]:List Int)) F u→aa prog 10 (f10_1 (B true) b (I m.funcs.length) (I (n + 1:Nat)) b w' (.sl true 1 [[I 10]])) y) :
  ∀ (d i:Nat),i + d=u.blocks.length→(∀ j,j < i→∀ c,u.blocks[j]? = some c→¬ kA (fun o=>o ∈ ([10]:List Int)) F u c) →
   aa prog 10 (f10_2 bl (I u.blocks.length) (I i) (I u.params) (I u.regs) bl b w (.sl true 1 [[I 10]]) (B g) (I n) b (I m.funcs.length) (I n) (B true)) y:=by
 have hN:=hM.1
 have hbnd:=hbl.bnd
 have hlt:=(C2.1 hF).1
 obtain ⟨e0,he0,hR0⟩:=hw.pel hF
 cases hR0
 obtain ⟨w1,hs1,hw1⟩:=hw.ud he0 (d:=0) (ys:=[B true]) (a:=true) rfl
 have ann:aD (I (n:Int))=some n:=bO (by omega)
 have hchk:(slSize w 1 && Nat.blt n F.length)=true:=by rw [hw.slSize]; simpa using hlt
 have hinc:pbin (.int .i64) .add (I (n:Int)) (I (1:Int))=some (I ((n + 1:Nat):Int)):=inc hlt (by omega)
 intro d
 induction d with
 | zero =>
  intro i hi hno
  have hi:i=u.blocks.length:=by omega
  subst hi
  unfold f10_2
  refine aa.tv rfl (aa.ite aP (fun h=>nomatch h) fun _=>aa.tv (v:=B false) rfl (aa.ite (v:=true) rfl (fun _=>aa.ite (v:=false) rfl (fun h=>nomatch h) fun _=>?_) fun h=>nomatch h))
  refine aa.tv hinc (f10_1_J (miss ?_))
  rintro ⟨c,hc,h⟩
  obtain ⟨j,hj,rfl⟩:=List.mem_iff_getElem.1 hc
  exact hno j hj _ (C3 hj) h
 | succ d ih =>
  intro i hi hno
  have hil:i < u.blocks.length:=by omega
  have hc:=C3 hil
  generalize u.blocks[i]=c at hc
  have hnm:=lv hM hu hc
  rw [← hl] at hnm
  obtain ⟨e,he,hR⟩:=hbl.idx (k:=.i64) hc
  have hR':=hR
  obtain ⟨c2,c5,c10,rfl,h2,hd,h5,h10,hok⟩:=hR'
  have hbi:=h5.bnd
  have hwz:=hw.frz (S:=RB1) fun _ _ h=>h.frz
  have hcl:=qA hwz hR hnm
  have hiv:=mK hwz hR hnm
  have yes:kA (fun o=>o ∈ ([10]:List Int)) F u c→aa prog 10 (f10_1 (B true) b (I m.funcs.length) (I (n + 1:Nat)) b w1 (.sl true 1 [[I 10]])) y:=fun h=>hit w1 hs1 ⟨c,Db hc,h⟩
  have no:¬ kA (fun o=>o ∈ ([10]:List Int)) F u c→aa prog 10 (f10_2 bl (I u.blocks.length) (I (i + 1:Nat)) (I u.params) (I u.regs) bl b w (.sl true 1 [[I 10]]) (B g) (I n) b (I m.funcs.length) (I n) (B true)) y:=fun h =>
   ih (i + 1) (by omega) fun j hj c' hc' h'=>by
    by_cases e:j=i
    ·subst e; rw [hc] at hc'; cases hc'; exact h h'
    ·exact hno j (by omega) c' hc' h'
  have three:∀ (d k:Nat),k + d=c.ins.length→(∀ j,j < k→∀ x,c.ins[j]? = some x→¬ x.op ∈ ([10]:List Int)) →
    aa prog 10 (f10_3 c5 (I c.ins.length) (I k) b (I u.params) (I u.regs) bl w (B c.landing) (I c.pad.dst) c2 (B c.pad.all) (B c.pad.cleanup) c5 (I c.fin.kind) (I c.fin.a) (I c.fin.dst) (I c.fin.f) c10 (I c.fin.to) (I c.fin.els) (I c.fin.pad) (.sl true 1 [[I 10]]) (B g) (I n) b (I m.funcs.length) (I n) (B true) bl (I i) (I u.blocks.length) (I i)) y:=by
   intro d
   induction d with
   | zero =>
    intro k hk hnone
    have hk:k=c.ins.length:=by omega
    subst hk
    have hi0:¬ ∃ x ∈ c.ins,x.op ∈ ([10]:List Int):=by
     rintro ⟨x,hx,h⟩
     obtain ⟨j,hj,rfl⟩:=List.mem_iff_getElem.1 hx
     exact hnone j hj _ (C3 hj) h
    unfold f10_3
    refine aa.tv rfl (aa.ite aP (fun h=>nomatch h) fun _=>aa.tv (v:=B false) rfl (aa.ite (v:=false) rfl (fun h=>nomatch h) fun _=>?_))
    refine aa.call hcl (aa.chk rfl (aa.ite oM (fun h=>?_) fun h=>?_))
    ·refine aa.tv geq0 (aa.ite (v:=true) rfl (fun _=>aa.ite (v:=true) rfl (fun _=>?_) fun h=>nomatch h) fun h=>nomatch h)
     exact aa.nat hw.slLen (aa.nat ann (aa.chk hchk (aa.tvs he0 (aa.chk rfl (aa.tv hs1 (aa.tv hinc (f10_1_J (yes (.inr (.inl (aB.1 h)))))))))))
    ·have hc0:¬ iQ F c:=fun h'=>by rw [cK h'] at h; cases h
     refine aa.call hiv (aa.chk rfl (aa.ite oM (fun h=>?_) fun h=>?_))
     ·refine aa.tv geq0 (aa.ite (v:=true) rfl (fun _=>aa.ite (v:=true) rfl (fun _=>?_) fun h=>nomatch h) fun h=>nomatch h)
      exact aa.nat hw.slLen (aa.nat ann (aa.chk hchk (aa.tvs he0 (aa.chk rfl (aa.tv hs1 (aa.tv hinc (f10_1_J (yes (.inr (.inr (aB.1 h)))))))))))
     ·have hv0:¬ vz F c:=fun h'=>by rw [cK h'] at h; cases h
      refine aa.tv (inc hil hbnd) (f10_2_J (no ?_))
      rintro (h | h | h)
      ·exact hi0 h
      ·exact hc0 h
      ·exact hv0 h
   | succ d ih2 =>
    intro k hk hnone
    have hkl:k < c.ins.length:=by omega
    have hx:=C3 hkl
    generalize c.ins[k]=x at hx
    obtain ⟨e2,he2,hR2⟩:=h5.idx (k:=.i64) hx
    obtain ⟨g2,rfl,_⟩:=hR2
    have hcon:=r74 (q:=some false) (x:=frz (.sl true 1 [[I 10]])) (l:=([10]:List Int)) (.sl (fun _ h=>Option.some.inj h) (.cons ⟨rfl,by constructor <;> decide⟩ .nil) (by decide)) x.op
    unfold f10_3
    refine aa.tv rfl (aa.ite (aH hkl) (fun _=>?_) fun h=>nomatch h)
    refine aa.tvs he2 (aa.chk rfl (aa.call hcon (aa.chk rfl (aa.ite rfl (fun h=>?_) fun h=>?_))))
    ·have hm:x.op ∈ ([10]:List Int):=of_decide_eq_true h
     refine aa.tv geq0 (aa.ite (v:=true) rfl (fun _=>?_) fun h=>nomatch h)
     refine aa.tv geq0 (aa.ite (v:=true) rfl (fun _=>aa.ite (v:=true) rfl (fun _=>?_) fun h=>nomatch h) fun h=>nomatch h)
     exact aa.nat hw.slLen (aa.nat ann (aa.chk hchk (aa.tvs he0 (aa.chk rfl (aa.tv hs1 (aa.tv hinc (f10_1_J (yes (.inl ⟨x,Db hx,hm⟩)))))))))
    ·have hm:¬ x.op ∈ ([10]:List Int):=of_decide_eq_false h
     exact aa.tv (inc hkl hbi) (f10_3_J (ih2 (k + 1) (by omega) fun j hj x' hx' h'=>by
      by_cases e:j=k
      ·subst e; rw [hx] at hx'; cases hx'; exact hm h'
      ·exact hnone j (by omega) x' hx' h'))
  unfold f10_2
  refine aa.tv rfl (aa.ite (aH hil) (fun _=>?_) fun h=>nomatch h)
  exact aa.tvs he (aa.chk rfl (aa.tv h5.len (f10_3_J (three c.ins.length 0 (by omega) fun j hj=>by omega))))
end
theorem B4 {q:Option Bool} {e:List TV} {m:DMod} (he:RMod q e m) (hM:kn m):∃ y F,aC prog 10 [.agg e] y∧RBools (some true) y F∧F.length=m.funcs.length∧∀ k:Nat,F[k]? = some true ↔ Doe m (fun o=>o ∈ ([10]:List Int)) k:=by
 have hsh:=r8 he
 obtain ⟨b,rfl,hb⟩:=he
 have hN:=hM.1
 obtain ⟨y,F',h1,h2,h3,h4⟩:=mD (lL m fun o=>o ∈ ([10]:List Int)) (A:=prog) (f:=10) (P0:=fun g w=>f10_0 (B g) b w (.sl true 1 [[I 10]])) (P1:=fun g n w=>f10_1 (B g) b (I m.funcs.length) (I n) b w (.sl true 1 [[I 10]]))
  (fun w y h => by
   unfold f10_0
   exact aa.ite (v:=true) rfl (fun _=>aa.tv hb.len (f10_1_J h)) fun h=>nomatch h)
  (fun w F h => by
   unfold f10_0
   exact aa.ite (v:=false) rfl (fun h=>nomatch h) fun _=>aa.chk (h.own fun _ _ h=>by cases h; rfl) aa.ret)
  (fun g w y h => by
   unfold f10_1
   exact aa.tv rfl (aa.ite aP (fun h=>nomatch h) fun _=>f10_0_J h))
  (fun g n w F c u y hl hw hc hu miss hit => by
   have hlt:=(C2.1 hu).1
   obtain ⟨e1,he1,hR1⟩:=hb.idx (k:=.i64) hu
   obtain ⟨bl,rfl,hbl,_⟩:=hR1
   obtain ⟨e2,he2,hR2⟩:=hw.pel hc
   cases hR2
   unfold f10_1
   refine aa.tv rfl (aa.ite (aH hlt) (fun _=>?_) fun h=>nomatch h)
   refine aa.tvs he1 (aa.chk rfl (aa.nat hw.slLen (aa.nat (bO (by omega)) (aa.chk (by rw [hw.slSize]; simpa [hl] using hlt) (aa.tvs he2 (aa.chk rfl (aa.tv rfl ?_)))))))
   cases c with
   | true=>exact aa.ite (v:=false) rfl (fun h=>nomatch h) fun _=>aa.tv (inc hlt (by omega)) (f10_1_J (miss (.inl rfl)))
   | false=>exact aa.ite (v:=true) rfl (fun _=>aa.tv hbl.len (f10_2_J (yM hb hM hl hw hu hbl hc (fun h=>miss (.inr h)) (fun w' hs h=>hit w' hs rfl h) u.blocks.length 0 (by omega) fun j hj=>by omega))) fun h=>nomatch h)
  m.funcs.length _ _ (by simp) (by simp) kI (BE (n:=m.funcs.length) (by omega))
 refine ⟨y,F',?_,h2,h3,h4⟩
 have han:aD (I (m.funcs.length:Int))=some m.funcs.length:=bO (by omega)
 refine aC.of (f10_MR _) ?_
 unfold f10_M
 refine aa.chk rfl (aa.chk (by rw [lV]; rfl) (aa.call hsh (aa.chk rfl (aa.tv rfl (aa.ite rfl (fun h=>?_) fun h=>?_)))))
 ·rw [cK hM] at h; cases h
 ·exact aa.tv hb.len (aa.nat han (aa.nat han (aa.chk (by simp; omega) (f10_0_J h1))))
theorem zv {q:Option Bool} {e:List TV} {m:DMod} (he:RMod q e m) (hM:¬ kn m):aC prog 10 [.agg e] (.lit cV):=by
 have hsh:=r8 he
 obtain ⟨b,rfl,hb⟩:=he
 refine aC.of (f10_MR _) ?_
 unfold f10_M
 refine aa.chk rfl (aa.chk (by rw [lV]; rfl) (aa.call hsh (aa.chk rfl (aa.tv rfl (aa.ite rfl (fun h=>aa.chk rfl aa.ret) fun h=>?_)))))
 rw [fV hM] at h; cases h
end Go.Ab.T12
end

import Derived.Test.YtdfmiamebejhoaaGT12F184
import Derived.Test.YtdfmiamebejhoaaGM0
import Derived.Below
import Derived.Orders
import Derived.Laws.Cells
import Derived.Laws.OwnMore
import Derived.Laws.CopyOwn
import Derived.Maps.AppendAt
import Derived.Lib.FrozenHead
set_option linter.all false
section
set_option maxRecDepth 10000
namespace Go.Ab
def Cm (F:List Bool) (u:DFunc) (b:DBlock):Prop:=(b.fin.kind=5∨b.fin.kind=6)∨(vz F b∧∃ pb,u.blocks[b.fin.pad.toNat]? = some pb∧pb.pad.all=false)
def yN (F:List Bool) (x:DIns):Prop:=x.op=11∧F[x.f.toNat]? = some true
def BQ (F:List Bool) (u:DFunc) (b:DBlock):Prop:=vz F b
def Bx (P:Int→Prop) (F:List Bool) (x:DIns):Prop:=P x.op∨yN F x
theorem qP {F:List Bool} {u:DFunc} {b:DBlock}:pS F u b ↔ Cm F u b∨∃ x ∈ b.ins,yN F x:=by
 unfold pS Cm iQ yN
 constructor
 ·rintro (h | h | h)
  ·exact .inl (.inl h)
  ·exact .inr h
  ·exact .inl (.inr h)
 ·rintro ((h | h) | h)
  ·exact .inl h
  ·exact .inr (.inr h)
  ·exact .inr (.inl h)
theorem sq {P:Int→Prop} {F:List Bool} {u:DFunc} {b:DBlock}:kA P F u b ↔ BQ F u b∨∃ x ∈ b.ins,Bx P F x:=by
 unfold kA BQ iQ Bx yN
 constructor
 ·rintro (⟨x,hx,h⟩ | ⟨x,hx,h⟩ | h)
  ·exact .inr ⟨x,hx,.inl h⟩
  ·exact .inr ⟨x,hx,.inr h⟩
  ·exact .inl h
 ·rintro (h | ⟨x,hx,h | h⟩)
  ·exact .inr (.inr h)
  ·exact .inl ⟨x,hx,h⟩
  ·exact .inr (.inl ⟨x,hx,h⟩)
theorem uI {a:Int} (h0:0≤a) (h:a.toNat≤9223372036854775807):aD (I a)=some a.toNat:=by
 have:=bO h
 rwa [show ((a.toNat:Nat):Int)=a by omega] at this
theorem zq {a b:Nat} (h:a < b):Nat.blt a b=true:=Nat.ble_eq_true_of_le h
theorem BU {a b:Nat}:pbin (.int .i64) .leq (I (a:Int)) (I (b:Int))=some (B (decide (a≤b))):=by
 show some (TV.lit (.bool (decide ((a:Int)≤(b:Int)))))=_
 congr 3
 exact decide_eq_decide.2 (by omega)
end Go.Ab
namespace Go.Ab.T12
open Go Go.Ab Go.Proofs
section
variable {q:Option Bool} {b:TV} {m:DMod} (hb:RL q 3 (RFunc q) b m.funcs) (hM:kn m) {F0:List Bool} {n r:Nat} {u:DFunc} {bl:TV} (hu:m.funcs[n]? = some u) (hbl:RL q 14 (RBlock q) bl u.blocks)
 (K:∀ F' w',RBools (some true) w' F'→GI m (Thr m) F0 F' (ZnL m pS (n + 1))→∃ y,aa prog 13 (f13_1 (I r) (I (n + 1:Nat)) b w') y∧IsX m (Thr m) y)
include hb hM hu hbl K
theorem yO:∀ (d i:Nat) (F:List Bool) (w:TV),i + d=u.blocks.length→RBools (some true) w F→GI m (Thr m) F0 F (ZiL m pS n u i) →
  ∃ y,aa prog 13 (f13_2 (I r) (I n) (I i) b w (I u.params) (I u.regs) bl) y∧IsX m (Thr m) y:=by
 have hX:=o0 m
 have hN:=hM.1
 have hbnd:=hbl.bnd
 have hn:=(C2.1 hu).1
 have ann:aD (I (n:Int))=some n:=bO (by omega)
 intro d
 induction d with
 | zero =>
  intro i F w hi hw hG
  have hi:i=u.blocks.length:=by omega
  subst hi
  obtain ⟨y,g1,g2⟩:=K F w hw (hG.keep (ZiL.all hu))
  refine ⟨y,?_,g2⟩
  unfold f13_2
  exact aa.tv hbl.len (aa.tv rfl (aa.ite aP (fun h=>nomatch h) fun _=>aa.tv (inc hn (by omega)) (f13_1_J g1)))
 | succ d ih =>
  intro i F w hi hw hG
  have hil:i < u.blocks.length:=by omega
  have hc:=C3 hil
  generalize u.blocks[i]=c at hc
  have hcm:=Db hc
  have hnm:=lv hM hu hc
  obtain ⟨e,he,hR⟩:=hbl.idx (k:=.i64) hc
  obtain ⟨c2,c5,c10,rfl,h2,hd,h5,h10,hok⟩:=hR
  have hbi:=h5.bnd
  have up:∀ {G:List Bool},pT (Thr m) G→pS G u c→Thr m n:=fun hs h=>hX.up _ hs n u hu ⟨c,hcm,h⟩
  have store:∀ {G:List Bool} {v:TV},RBools (some true) v G→G.length=m.funcs.length→∃ e v',Go.Ab.pel v n=some e∧ac aj e 0=true∧ef [] v n 0 [B true]=some v'∧RBools (some true) v' (G.set n true):=by
   intro G v hv hlG
   have hcc:=C3 (show n < G.length by omega)
   obtain ⟨e0,he0,hR0⟩:=hv.pel hcc
   cases hR0
   obtain ⟨v1,hs1,hv1⟩:=hv.ud he0 (d:=0) (ys:=[B true]) (a:=true) rfl
   exact ⟨_,v1,he0,rfl,hs1,hv1⟩
  have five:∀ (d k:Nat) (G:List Bool) (v:TV),k + d=c.ins.length→RBools (some true) v G→GI m (Thr m) F0 G (ZkL m pS Cm yN n u i c k) →
    ∃ y,aa prog 13 (f13_5 (I r) (I n) (I i) (I k) b v (I u.params) (I u.regs) bl (B c.landing) (I c.pad.dst) c2 (B c.pad.all) (B c.pad.cleanup) c5 (I c.fin.kind) (I c.fin.a) (I c.fin.dst) (I c.fin.f) c10 (I c.fin.to) (I c.fin.els) (I c.fin.pad)) y∧IsX m (Thr m) y:=by
   intro d
   induction d with
   | zero =>
    intro k G v hk hv hG
    have hk:k=c.ins.length:=by omega
    subst hk
    obtain ⟨y,g1,g2⟩:=ih (i + 1) G v (by omega) hv (hG.keep (ZkL.all (fun h=>qP.1 h) hc))
    refine ⟨y,?_,g2⟩
    unfold f13_5
    exact aa.tv h5.len (aa.tv rfl (aa.ite aP (fun h=>nomatch h) fun _=>aa.tv (inc hil hbnd) (f13_2_J g1)))
   | succ d ih2 =>
    intro k G v hk hv hG
    have hkl:k < c.ins.length:=by omega
    have hx:=C3 hkl
    generalize c.ins[k]=x at hx
    obtain ⟨e2,he2,hR2⟩:=h5.idx (k:=.i64) hx
    obtain ⟨g2,rfl,hg2,hxo⟩:=hR2
    by_cases h11:x.op=11
    ·obtain ⟨h0,hlx⟩:=hnm.1 x (Db hx) h11
     have hcc:=C3 (show x.f.toNat < G.length by rw [hG.len]; exact hlx)
     generalize G[x.f.toNat]'(by rw [hG.len]; exact hlx)=z at hcc
     obtain ⟨e3,he3,hR3⟩:=hv.pel hcc
     rw [show e3=[B z] from hR3] at he3
     have anx:aD (I x.f)=some x.f.toNat:=uI h0 (by omega)
     have hb3:(slSize v 1 && Nat.blt x.f.toNat G.length)=true:=by rw [hv.slSize,hG.len,zq hlx]; rfl
     cases z with
     | true =>
      have hq:yN G x:=⟨h11,hcc⟩
      have ht:=up hG.snd (qP.2 (.inr ⟨x,Db hx,hq⟩))
      obtain ⟨e4,v',a1,a2,a3,a4⟩:=store hv hG.len
      obtain ⟨y,g1,g2⟩:=ih2 (k + 1) (G.set n true) v' (by omega) a4 (hG.set hn ht fun G' hz hc'=>hz.one hx fun _=>hc')
      refine ⟨y,?_,g2⟩
      unfold f13_5
      refine aa.tv h5.len (aa.tv rfl (aa.ite (aH hkl) (fun _=>aa.tvs he2 (aa.chk rfl (aa.tv rfl (aa.ite cC (fun _=>?_) fun h=>absurd h11 (of_decide_eq_false h))))) fun h=>nomatch h))
      refine aa.tvs he2 (aa.chk rfl (aa.nat hv.slLen (aa.nat anx (aa.chk hb3 (aa.tvs he3 (aa.chk rfl (aa.ite (v:=true) rfl (fun _=>?_) fun h=>nomatch h)))))))
      exact aa.nat hv.slLen (aa.nat ann (aa.chk (by rw [hv.slSize,hG.len]; simpa using hn) (aa.tvs a1 (aa.chk a2 (aa.tv a3 (aa.tv (inc hkl hbi) (f13_5_J g1)))))))
     | false =>
      obtain ⟨y,g1,g2⟩:=ih2 (k + 1) G v (by omega) hv (hG.keep fun hz=>hz.one hx fun h=>by have h2:=h.2; rw [hcc] at h2; cases h2)
      refine ⟨y,?_,g2⟩
      unfold f13_5
      refine aa.tv h5.len (aa.tv rfl (aa.ite (aH hkl) (fun _=>aa.tvs he2 (aa.chk rfl (aa.tv rfl (aa.ite cC (fun _=>?_) fun h=>absurd h11 (of_decide_eq_false h))))) fun h=>nomatch h))
      refine aa.tvs he2 (aa.chk rfl (aa.nat hv.slLen (aa.nat anx (aa.chk hb3 (aa.tvs he3 (aa.chk rfl (aa.ite (v:=false) rfl (fun h=>nomatch h) fun _=>?_)))))))
      exact aa.tv (inc hkl hbi) (f13_5_J g1)
    ·obtain ⟨y,g1,g2⟩:=ih2 (k + 1) G v (by omega) hv (hG.keep fun hz=>hz.one hx fun h=>absurd h.1 h11)
     refine ⟨y,?_,g2⟩
     unfold f13_5
     refine aa.tv h5.len (aa.tv rfl (aa.ite (aH hkl) (fun _=>aa.tvs he2 (aa.chk rfl (aa.tv rfl (aa.ite cC (fun h=>absurd (of_decide_eq_true h) h11) fun _=>?_)))) fun h=>nomatch h))
     exact aa.tv (inc hkl hbi) (f13_5_J g1)
  have three:∀ z:Bool,(z=true ↔ Cm F u c)→∃ y,aa prog 13 (f13_3 (I r) (I n) (I i) (B z) b w (I u.params) (I u.regs) bl (B c.landing) (I c.pad.dst) c2 (B c.pad.all) (B c.pad.cleanup) c5 (I c.fin.kind) (I c.fin.a) (I c.fin.dst) (I c.fin.f) c10 (I c.fin.to) (I c.fin.els) (I c.fin.pad)) y∧IsX m (Thr m) y:=by
   intro z hz
   cases z with
   | true =>
    have ht:=up hG.snd (qP.2 (.inl (hz.1 rfl)))
    obtain ⟨e4,v',a1,a2,a3,a4⟩:=store hw hG.len
    obtain ⟨y,g1,g2⟩:=five c.ins.length 0 (F.set n true) v' (by omega) a4 (hG.set hn ht fun G' hz hc'=>.begin hz fun _=>hc')
    refine ⟨y,?_,g2⟩
    unfold f13_3
    refine aa.ite (v:=true) rfl (fun _=>?_) fun h=>nomatch h
    refine aa.nat hw.slLen (aa.nat ann (aa.chk (by rw [hw.slSize,hG.len]; simpa using hn) (aa.tvs a1 (aa.chk a2 (aa.tv a3 (f13_4_J ?_))))))
    unfold f13_4
    exact f13_5_J g1
   | false =>
    obtain ⟨y,g1,g2⟩:=five c.ins.length 0 F w (by omega) hw (hG.keep fun hzi=>.begin hzi fun h=>by have:=hz.2 h; cases this)
    refine ⟨y,?_,g2⟩
    unfold f13_3
    refine aa.ite (v:=false) rfl (fun h=>nomatch h) fun _=>f13_4_J ?_
    unfold f13_4
    exact f13_5_J g1
  by_cases k5:c.fin.kind=5
  ·obtain ⟨y,g1,g2⟩:=three true ⟨fun _=>.inl (.inl k5),fun _=>rfl⟩
   refine ⟨y,?_,g2⟩
   unfold f13_2
   exact aa.tv hbl.len (aa.tv rfl (aa.ite (aH hil) (fun _=>aa.tvs he (aa.chk rfl (aa.tv rfl (aa.ite cC (fun _=>f13_3_J g1) fun h=>absurd k5 (of_decide_eq_false h))))) fun h=>nomatch h))
  by_cases k6:c.fin.kind=6
  ·obtain ⟨y,g1,g2⟩:=three true ⟨fun _=>.inl (.inr k6),fun _=>rfl⟩
   refine ⟨y,?_,g2⟩
   unfold f13_2
   exact aa.tv hbl.len (aa.tv rfl (aa.ite (aH hil) (fun _=>aa.tvs he (aa.chk rfl (aa.tv rfl (aa.ite cC (fun h=>absurd (of_decide_eq_true h) k5) fun _=>aa.tv rfl (aa.ite cC (fun _=>f13_3_J g1) fun h=>absurd k6 (of_decide_eq_false h)))))) fun h=>nomatch h))
  have start:∀ {y:TV},(c.fin.kind=4→aa prog 13 (Prg.nat (slLen w) fun n15=>Prg.nat (aD (I c.fin.f)) fun n16=>Prg.chk (Bool.and (slSize w 1) (Nat.blt n16 n15)) (Prg.tvs (Go.Ab.pel w n16) fun e17=>Prg.chk (ac aj e17 0) (Prg.ite (asBool (nth TV.hole e17 0)) (Prg.tvs (pidx 14 bl (I c.fin.pad)) fun e18=>Prg.chk (Nat.blt 3 (List.length e18)) (Prg.tv (pun UnOp.not (nth TV.hole e18 3)) fun v19=>.jmp [1,0,1,0,0,1,0,0,1,1,0,0,1,0,0,1,0,0,1,0,0,1,0,1,1] (f13_3_S (I r) (I n) (I i) v19 b w (I u.params) (I u.regs) bl (B c.landing) (I c.pad.dst) c2 (B c.pad.all) (B c.pad.cleanup) c5 (I c.fin.kind) (I c.fin.a) (I c.fin.dst) (I c.fin.f) c10 (I c.fin.to) (I c.fin.els) (I c.fin.pad)))) (.jmp [1,0,1,0,0,1,0,0,1,1,0,0,1,0,0,1,0,0,1,0,0,1,0,1,1] (f13_3_S (I r) (I n) (I i) (B false) b w (I u.params) (I u.regs) bl (B c.landing) (I c.pad.dst) c2 (B c.pad.all) (B c.pad.cleanup) c5 (I c.fin.kind) (I c.fin.a) (I c.fin.dst) (I c.fin.f) c10 (I c.fin.to) (I c.fin.els) (I c.fin.pad)))))) y) →
    (¬ c.fin.kind=4→aa prog 13 (f13_3 (I r) (I n) (I i) (B false) b w (I u.params) (I u.regs) bl (B c.landing) (I c.pad.dst) c2 (B c.pad.all) (B c.pad.cleanup) c5 (I c.fin.kind) (I c.fin.a) (I c.fin.dst) (I c.fin.f) c10 (I c.fin.to) (I c.fin.els) (I c.fin.pad)) y) →
    aa prog 13 (f13_2 (I r) (I n) (I i) b w (I u.params) (I u.regs) bl) y:=by
   intro y a1 a2
   unfold f13_2
   refine aa.tv hbl.len (aa.tv rfl (aa.ite (aH hil) (fun _=>aa.tvs he (aa.chk rfl (aa.tv rfl (aa.ite cC (fun h=>absurd (of_decide_eq_true h) k5) fun _=>aa.tv rfl (aa.ite cC (fun h=>absurd (of_decide_eq_true h) k6) fun _=>aa.tv rfl (aa.ite cC (fun h=>a1 (of_decide_eq_true h)) fun h=>f13_3_J (a2 (of_decide_eq_false h)))))))) fun h=>nomatch h))
  by_cases k4:c.fin.kind=4
  ·obtain ⟨⟨h0,hlf⟩,hp0,pb,hpb⟩:=hnm.2 k4
   have hcc:=C3 (show c.fin.f.toNat < F.length by rw [hG.len]; exact hlf)
   generalize F[c.fin.f.toNat]'(by rw [hG.len]; exact hlf)=z at hcc
   obtain ⟨e3,he3,hR3⟩:=hw.pel hcc
   rw [show e3=[B z] from hR3] at he3
   have anx:aD (I c.fin.f)=some c.fin.f.toNat:=uI h0 (by omega)
   have hb3:(slSize w 1 && Nat.blt c.fin.f.toNat F.length)=true:=by rw [hw.slSize,hG.len,zq hlf]; rfl
   cases z with
   | true =>
    obtain ⟨e5,he5,hR5⟩:=hbl.u7 (k:=.i64) hp0 hpb
    obtain ⟨p2,p5,p10,rfl,_⟩:=hR5
    obtain ⟨y,g1,g2⟩:=three (!pb.pad.all) ⟨fun h=>.inr ⟨⟨k4,hcc⟩,pb,hpb,by simpa using h⟩,fun h=>by
     rcases h with (h | h) | ⟨_,pb',hp',ha'⟩
     ·exact absurd h k5
     ·exact absurd h k6
     ·rw [hpb] at hp'; cases hp'; simp [ha']⟩
    refine ⟨y,start (fun _=>?_) fun h=>absurd k4 h,g2⟩
    exact aa.nat hw.slLen (aa.nat anx (aa.chk hb3 (aa.tvs he3 (aa.chk rfl (aa.ite (v:=true) rfl (fun _=>aa.tvs he5 (aa.chk rfl (aa.tv rfl (f13_3_J g1)))) fun h=>nomatch h)))))
   | false =>
    obtain ⟨y,g1,g2⟩:=three false ⟨(fun h=>nomatch h),fun h=>by
     rcases h with (h | h) | ⟨h,_⟩
     ·exact absurd h k5
     ·exact absurd h k6
     ·have:=h.2; rw [hcc] at this; cases this⟩
    refine ⟨y,start (fun _=>?_) fun h=>absurd k4 h,g2⟩
    exact aa.nat hw.slLen (aa.nat anx (aa.chk hb3 (aa.tvs he3 (aa.chk rfl (aa.ite (v:=false) rfl (fun h=>nomatch h) fun _=>f13_3_J g1)))))
  ·obtain ⟨y,g1,g2⟩:=three false ⟨(fun h=>nomatch h),fun h=>by
     rcases h with (h | h) | ⟨h,_⟩
     ·exact absurd h k5
     ·exact absurd h k6
     ·exact absurd h.1 k4⟩
   exact ⟨y,start (fun h=>absurd h k4) fun _=>g1,g2⟩
end
theorem Cn {q:Option Bool} {e:List TV} {m:DMod} (he:RMod q e m) (hM:kn m):∃ y,aC prog 13 [.agg e] y∧IsX m (Thr m) y:=by
 obtain ⟨b,rfl,hb⟩:=he
 have hN:=hM.1
 obtain ⟨y,h1,h2⟩:=o8 (o0 m) (A:=prog) (f:=13) (P0:=fun r w=>f13_0 (I r) b w) (P1:=fun r n w=>f13_1 (I r) (I n) b w)
  (fun r w y hr h => by
   unfold f13_0
   exact aa.tv hb.len (aa.tv BU (aa.ite (v:=true) (by simp [asBool]; omega) (fun _=>f13_1_J h) fun h=>nomatch h)))
  (fun w F h => by
   unfold f13_0
   exact aa.tv hb.len (aa.tv BU (aa.ite (v:=false) (by simp [asBool]) (fun h=>nomatch h) fun _=>aa.chk (h.own fun _ _ h=>by cases h; rfl) aa.ret)))
  (fun r w y hr h => by
   unfold f13_1
   exact aa.tv hb.len (aa.tv rfl (aa.ite aP (fun h=>nomatch h) fun _=>aa.tv (inc (n:=m.funcs.length + 1) (by omega) (by omega)) (f13_0_J h))))
  (fun r n w F0 F u hr hw hu hG K => by
   have hlt:=(C2.1 hu).1
   obtain ⟨e1,he1,hR1⟩:=hb.idx (k:=.i64) hu
   obtain ⟨bl,rfl,hbl,_⟩:=hR1
   obtain ⟨y,g1,g2⟩:=yO hb hM hu hbl K u.blocks.length 0 F w (by omega) hw (hG.keep .zero)
   refine ⟨y,?_,g2⟩
   show aa prog 13 (f13_1 (I r) (I n) b w) y
   unfold f13_1
   exact aa.tv hb.len (aa.tv rfl (aa.ite (aH hlt) (fun _=>aa.tvs he1 (aa.chk rfl (f13_2_J g1))) fun h=>nomatch h)))
  (m.funcs.length + 1) 0 _ _ (by omega) (BE (n:=m.funcs.length) (by omega)) (by simp) kI (.inr (by simp))
 refine ⟨y,?_,h2⟩
 have han:aD (I (m.funcs.length:Int))=some m.funcs.length:=bO (by omega)
 refine aC.of (f13_MR _) ?_
 unfold f13_M
 exact aa.chk rfl (aa.tv hb.len (aa.nat han (aa.nat han (aa.chk (by simp; omega) (f13_0_J h1)))))
end Go.Ab.T12
end
section
set_option maxRecDepth 10000
namespace Go.Ab.T12
open Go Go.Ab Go.Proofs
section
variable {q q':Option Bool} {b o:TV} {ops:List Int} {m:DMod} (ho:RInts q' o ops) (hb:RL q 3 (RFunc q) b m.funcs) (hM:kn m) {F0:List Bool} {n r:Nat} {u:DFunc} {bl:TV} (hu:m.funcs[n]? = some u) (hbl:RL q 14 (RBlock q) bl u.blocks)
 (K:∀ F' w',RBools (some true) w' F'→GI m (Doe m fun a=>a ∈ ops) F0 F' (ZnL m (kA fun a=>a ∈ ops) (n + 1))→∃ y,aa prog 14 (f14_1 o (I r) (I (n + 1:Nat)) b w') y∧IsX m (Doe m fun a=>a ∈ ops) y)
include ho hb hM hu hbl K
theorem xu:∀ (d i:Nat) (F:List Bool) (w:TV),i + d=u.blocks.length→RBools (some true) w F→GI m (Doe m fun a=>a ∈ ops) F0 F (ZiL m (kA fun a=>a ∈ ops) n u i) →
  ∃ y,aa prog 14 (f14_2 o (I r) (I n) (I i) b w (I u.params) (I u.regs) bl) y∧IsX m (Doe m fun a=>a ∈ ops) y:=by
 have hX:=lL m fun a=>a ∈ ops
 have hN:=hM.1
 have hbnd:=hbl.bnd
 have hn:=(C2.1 hu).1
 have ann:aD (I (n:Int))=some n:=bO (by omega)
 intro d
 induction d with
 | zero =>
  intro i F w hi hw hG
  have hi:i=u.blocks.length:=by omega
  subst hi
  obtain ⟨y,g1,g2⟩:=K F w hw (hG.keep (ZiL.all hu))
  refine ⟨y,?_,g2⟩
  unfold f14_2
  exact aa.tv hbl.len (aa.tv rfl (aa.ite aP (fun h=>nomatch h) fun _=>aa.tv (inc hn (by omega)) (f14_1_J g1)))
 | succ d ih =>
  intro i F w hi hw hG
  have hil:i < u.blocks.length:=by omega
  have hc:=C3 hil
  generalize u.blocks[i]=c at hc
  have hcm:=Db hc
  have hnm:=lv hM hu hc
  obtain ⟨e,he,hR⟩:=hbl.idx (k:=.i64) hc
  obtain ⟨c2,c5,c10,rfl,h2,hd,h5,h10,hok⟩:=hR
  have hbi:=h5.bnd
  have up:∀ {G:List Bool},pT (Doe m fun a=>a ∈ ops) G→kA (fun a=>a ∈ ops) G u c→Doe m (fun a=>a ∈ ops) n:=fun hs h=>hX.up _ hs n u hu ⟨c,hcm,h⟩
  have store:∀ {G:List Bool} {v:TV},RBools (some true) v G→G.length=m.funcs.length→∃ e v',Go.Ab.pel v n=some e∧ac aj e 0=true∧ef [] v n 0 [B true]=some v'∧RBools (some true) v' (G.set n true):=by
   intro G v hv hlG
   have hcc:=C3 (show n < G.length by omega)
   obtain ⟨e0,he0,hR0⟩:=hv.pel hcc
   cases hR0
   obtain ⟨v1,hs1,hv1⟩:=hv.ud he0 (d:=0) (ys:=[B true]) (a:=true) rfl
   exact ⟨_,v1,he0,rfl,hs1,hv1⟩
  have four : ∀ (d k : Nat) (G : List Bool) (v : TV), k + d = c.ins.length → RBools (some true) v G → GI m (Doe m fun a => a ∈ ops) F0 G (ZkL m (kA fun a => a ∈ ops) BQ (Bx fun a => a ∈ ops) n u i c k) →
    ∃ y,aa prog 14 (f14_4 o (I r) (I n) (I i) (I k) b v (I u.params) (I u.regs) bl (B c.landing) (I c.pad.dst) c2 (B c.pad.all) (B c.pad.cleanup) c5 (I c.fin.kind) (I c.fin.a) (I c.fin.dst) (I c.fin.f) c10 (I c.fin.to) (I c.fin.els) (I c.fin.pad)) y∧IsX m (Doe m fun a=>a ∈ ops) y:=by
   intro d
   induction d with
   | zero =>
    intro k G v hk hv hG
    have hk:k=c.ins.length:=by omega
    subst hk
    obtain ⟨y,g1,g2⟩:=ih (i + 1) G v (by omega) hv (hG.keep (ZkL.all (fun h=>sq.1 h) hc))
    refine ⟨y,?_,g2⟩
    unfold f14_4
    exact aa.tv h5.len (aa.tv rfl (aa.ite aP (fun h=>nomatch h) fun _=>aa.tv (inc hil hbnd) (f14_2_J g1)))
   | succ d ih2 =>
    intro k G v hk hv hG
    have hkl:k < c.ins.length:=by omega
    have hx:=C3 hkl
    generalize c.ins[k]=x at hx
    have hxm:=Db hx
    obtain ⟨e2,he2,hR2⟩:=h5.idx (k:=.i64) hx
    obtain ⟨g2,rfl,hg2,hxo⟩:=hR2
    have hhas:=r75 ho x.op
    have five:∀ z:Bool,(z=true ↔ Bx (fun a=>a ∈ ops) G x)→∃ y,aa prog 14 (f14_5 o (I r) (I n) (I i) (I k) (B z) b v (I u.params) (I u.regs) bl (B c.landing) (I c.pad.dst) c2 (B c.pad.all) (B c.pad.cleanup) c5 (I c.fin.kind) (I c.fin.a) (I c.fin.dst) (I c.fin.f) c10 (I c.fin.to) (I c.fin.els) (I c.fin.pad)) y∧IsX m (Doe m fun a=>a ∈ ops) y:=by
     intro z hz
     cases z with
     | true =>
      have ht:=up hG.snd (sq.2 (.inr ⟨x,hxm,hz.1 rfl⟩))
      obtain ⟨e4,v',a1,a2,a3,a4⟩:=store hv hG.len
      obtain ⟨y,g1,g2⟩:=ih2 (k + 1) (G.set n true) v' (by omega) a4 (hG.set hn ht fun G' hz hc'=>hz.one hx fun _=>hc')
      refine ⟨y,?_,g2⟩
      unfold f14_5
      refine aa.ite (v:=true) rfl (fun _=>?_) fun h=>nomatch h
      exact aa.nat hv.slLen (aa.nat ann (aa.chk (by rw [hv.slSize,hG.len,zq hn]; rfl) (aa.tvs a1 (aa.chk a2 (aa.tv a3 (aa.tv (inc hkl hbi) (f14_4_J g1)))))))
     | false =>
      obtain ⟨y,g1,g2⟩:=ih2 (k + 1) G v (by omega) hv (hG.keep fun hzk=>hzk.one hx fun h=>by have:=hz.2 h; cases this)
      refine ⟨y,?_,g2⟩
      unfold f14_5
      exact aa.ite (v:=false) rfl (fun h=>nomatch h) fun _=>aa.tv (inc hkl hbi) (f14_4_J g1)
    by_cases hP:x.op ∈ ops
    ·obtain ⟨y,g1,g2⟩:=five true ⟨fun _=>.inl hP,fun _=>rfl⟩
     refine ⟨y,?_,g2⟩
     rw [decide_eq_true hP] at hhas
     unfold f14_4
     exact aa.tv h5.len (aa.tv rfl (aa.ite (aH hkl) (fun _=>aa.tvs he2 (aa.chk rfl (aa.call hhas (aa.chk rfl (aa.ite (v:=true) rfl (fun _=>f14_5_J g1) fun h=>nomatch h))))) fun h=>nomatch h))
    ·rw [decide_eq_false hP] at hhas
     by_cases h11:x.op=11
     ·obtain ⟨h0,hlx⟩:=hnm.1 x hxm h11
      have hcc:=C3 (show x.f.toNat < G.length by rw [hG.len]; exact hlx)
      generalize G[x.f.toNat]'(by rw [hG.len]; exact hlx)=z at hcc
      obtain ⟨e3,he3,hR3⟩:=hv.pel hcc
      rw [show e3=[B z] from hR3] at he3
      have anx:aD (I x.f)=some x.f.toNat:=uI h0 (by omega)
      have hb3:(slSize v 1 && Nat.blt x.f.toNat G.length)=true:=by rw [hv.slSize,hG.len,zq hlx]; rfl
      obtain ⟨y,g1,g2⟩:=five z ⟨fun h=>.inr ⟨h11,by rw [hcc,h]⟩,fun h=>by
       rcases h with h | ⟨_,h⟩
       ·exact absurd h hP
       ·rw [hcc] at h; exact Option.some.inj h⟩
      refine ⟨y,?_,g2⟩
      unfold f14_4
      refine aa.tv h5.len (aa.tv rfl (aa.ite (aH hkl) (fun _=>aa.tvs he2 (aa.chk rfl (aa.call hhas (aa.chk rfl (aa.ite (v:=false) rfl (fun h=>nomatch h) fun _=>?_))))) fun h=>nomatch h))
      refine aa.tvs he2 (aa.chk rfl (aa.tv rfl (aa.ite cC (fun _=>?_) fun h=>absurd h11 (of_decide_eq_false h))))
      exact aa.tvs he2 (aa.chk rfl (aa.nat hv.slLen (aa.nat anx (aa.chk hb3 (aa.tvs he3 (aa.chk rfl (f14_5_J g1)))))))
     ·obtain ⟨y,g1,g2⟩:=five false ⟨(fun h=>nomatch h),fun h=>by
       rcases h with h | ⟨h,_⟩
       ·exact absurd h hP
       ·exact absurd h h11⟩
      refine ⟨y,?_,g2⟩
      unfold f14_4
      refine aa.tv h5.len (aa.tv rfl (aa.ite (aH hkl) (fun _=>aa.tvs he2 (aa.chk rfl (aa.call hhas (aa.chk rfl (aa.ite (v:=false) rfl (fun h=>nomatch h) fun _=>?_))))) fun h=>nomatch h))
      exact aa.tvs he2 (aa.chk rfl (aa.tv rfl (aa.ite cC (fun h=>absurd (of_decide_eq_true h) h11) fun _=>f14_5_J g1)))
  have three:∀ (G:List Bool) (v:TV),RBools (some true) v G→GI m (Doe m fun a=>a ∈ ops) F0 G (ZkL m (kA fun a=>a ∈ ops) BQ (Bx fun a=>a ∈ ops) n u i c 0) →
    ∃ y,aa prog 14 (f14_3 o (I r) (I n) (I i) (I 0) b v (I u.params) (I u.regs) bl (B c.landing) (I c.pad.dst) c2 (B c.pad.all) (B c.pad.cleanup) c5 (I c.fin.kind) (I c.fin.a) (I c.fin.dst) (I c.fin.f) c10 (I c.fin.to) (I c.fin.els) (I c.fin.pad)) y∧IsX m (Doe m fun a=>a ∈ ops) y:=by
   intro G v hv hG
   obtain ⟨y,g1,g2⟩:=four c.ins.length 0 G v (by omega) hv hG
   refine ⟨y,?_,g2⟩
   unfold f14_3
   exact f14_4_J g1
  by_cases k4:c.fin.kind=4
  ·obtain ⟨⟨h0,hlf⟩,_⟩:=hnm.2 k4
   have hcc:=C3 (show c.fin.f.toNat < F.length by rw [hG.len]; exact hlf)
   generalize F[c.fin.f.toNat]'(by rw [hG.len]; exact hlf)=z at hcc
   obtain ⟨e3,he3,hR3⟩:=hw.pel hcc
   rw [show e3=[B z] from hR3] at he3
   have anx:aD (I c.fin.f)=some c.fin.f.toNat:=uI h0 (by omega)
   have hb3:(slSize w 1 && Nat.blt c.fin.f.toNat F.length)=true:=by rw [hw.slSize,hG.len,zq hlf]; rfl
   cases z with
   | true =>
    have ht:=up hG.snd (sq.2 (.inl ⟨k4,hcc⟩))
    obtain ⟨e4,v',a1,a2,a3,a4⟩:=store hw hG.len
    obtain ⟨y,g1,g2⟩:=three (F.set n true) v' a4 (hG.set hn ht fun G' hz hc'=>.begin hz fun _=>hc')
    refine ⟨y,?_,g2⟩
    unfold f14_2
    refine aa.tv hbl.len (aa.tv rfl (aa.ite (aH hil) (fun _=>aa.tvs he (aa.chk rfl (aa.tv rfl (aa.ite cC (fun _=>?_) fun h=>absurd k4 (of_decide_eq_false h))))) fun h=>nomatch h))
    refine aa.nat hw.slLen (aa.nat anx (aa.chk hb3 (aa.tvs he3 (aa.chk rfl (aa.ite (v:=true) rfl (fun _=>?_) fun h=>nomatch h)))))
    exact aa.nat hw.slLen (aa.nat ann (aa.chk (by rw [hw.slSize,hG.len,zq hn]; rfl) (aa.tvs a1 (aa.chk a2 (aa.tv a3 (f14_3_J g1))))))
   | false =>
    obtain ⟨y,g1,g2⟩:=three F w hw (hG.keep fun hz=>.begin hz fun h=>by have h2:=h.2; rw [hcc] at h2; cases h2)
    refine ⟨y,?_,g2⟩
    unfold f14_2
    refine aa.tv hbl.len (aa.tv rfl (aa.ite (aH hil) (fun _=>aa.tvs he (aa.chk rfl (aa.tv rfl (aa.ite cC (fun _=>?_) fun h=>absurd k4 (of_decide_eq_false h))))) fun h=>nomatch h))
    exact aa.nat hw.slLen (aa.nat anx (aa.chk hb3 (aa.tvs he3 (aa.chk rfl (aa.ite (v:=false) rfl (fun h=>nomatch h) fun _=>f14_3_J g1)))))
  ·obtain ⟨y,g1,g2⟩:=three F w hw (hG.keep fun hz=>.begin hz fun h=>absurd h.1 k4)
   refine ⟨y,?_,g2⟩
   unfold f14_2
   exact aa.tv hbl.len (aa.tv rfl (aa.ite (aH hil) (fun _=>aa.tvs he (aa.chk rfl (aa.tv rfl (aa.ite cC (fun h=>absurd (of_decide_eq_true h) k4) fun _=>f14_3_J g1)))) fun h=>nomatch h))
end
theorem wb {q q':Option Bool} {e:List TV} {o:TV} {ops:List Int} {m:DMod} (ho:RInts q' o ops) (he:RMod q e m) (hM:kn m):∃ y,aC prog 14 [.agg e,o] y∧IsX m (Doe m fun a=>a ∈ ops) y:=by
 obtain ⟨b,rfl,hb⟩:=he
 have hN:=hM.1
 obtain ⟨y,h1,h2⟩:=o8 (lL m fun a=>a ∈ ops) (A:=prog) (f:=14) (P0:=fun r w=>f14_0 o (I r) b w) (P1:=fun r n w=>f14_1 o (I r) (I n) b w)
  (fun r w y hr h => by
   unfold f14_0
   exact aa.tv hb.len (aa.tv BU (aa.ite (v:=true) (by simp [asBool]; omega) (fun _=>f14_1_J h) fun h=>nomatch h)))
  (fun w F h => by
   unfold f14_0
   exact aa.tv hb.len (aa.tv BU (aa.ite (v:=false) (by simp [asBool]) (fun h=>nomatch h) fun _=>aa.chk (h.own fun _ _ h=>by cases h; rfl) aa.ret)))
  (fun r w y hr h => by
   unfold f14_1
   exact aa.tv hb.len (aa.tv rfl (aa.ite aP (fun h=>nomatch h) fun _=>aa.tv (inc (n:=m.funcs.length + 1) (by omega) (by omega)) (f14_0_J h))))
  (fun r n w F0 F u hr hw hu hG K => by
   have hlt:=(C2.1 hu).1
   obtain ⟨e1,he1,hR1⟩:=hb.idx (k:=.i64) hu
   obtain ⟨bl,rfl,hbl,_⟩:=hR1
   obtain ⟨y,g1,g2⟩:=xu ho hb hM hu hbl K u.blocks.length 0 F w (by omega) hw (hG.keep .zero)
   refine ⟨y,?_,g2⟩
   show aa prog 14 (f14_1 o (I r) (I n) b w) y
   unfold f14_1
   exact aa.tv hb.len (aa.tv rfl (aa.ite (aH hlt) (fun _=>aa.tvs he1 (aa.chk rfl (f14_2_J g1))) fun h=>nomatch h)))
  (m.funcs.length + 1) 0 _ _ (by omega) (BE (n:=m.funcs.length) (by omega)) (by simp) kI (.inr (by simp))
 refine ⟨y,?_,h2⟩
 have han:aD (I (m.funcs.length:Int))=some m.funcs.length:=bO (by omega)
 refine aC.of (f14_MR _ _) ?_
 unfold f14_M
 exact aa.chk rfl (aa.tv hb.len (aa.nat han (aa.nat han (aa.chk (by simp; omega) (f14_0_J h1)))))
end Go.Ab.T12
end
section
set_option maxRecDepth 100000
namespace Go.Ab
theorem IsX.same {m:DMod} {X:Nat→Prop} {F F':List Bool} (h1:F.length=m.funcs.length) (h2:∀ k:Nat,F[k]? = some true ↔ X k) (g1:F'.length=m.funcs.length) (g2:∀ k:Nat,F'[k]? = some true ↔ X k):F=F':=by
 apply List.ext_getElem?
 intro k
 have h:=(h2 k).trans (g2 k).symm
 by_cases hk:k < F.length
 ·have hk':k < F'.length:=by omega
  rw [C3 hk,C3 hk'] at h ⊢
  generalize F[k]=a at h
  generalize F'[k]=c at h
  cases a <;> cases c <;> simp at h <;> rfl
 ·rw [De (by omega),De (by omega)]
end Go.Ab
namespace Go.Ab.T12
open Go Go.Ab Go.Proofs
theorem AX:aC prog 6 [] (B true):=⟨100,by kernel_rfl⟩
theorem qM {q q':Option Bool} {x y:TV} {l m:List Bool} (hx:RBools q x l) (hy:RBools q' y m):aC prog 12 [x,y] (B (tt (l=m))):=by
 refine aC.of (f12_MR _ _) ?_
 unfold f12_M
 refine aa.tv hx.len (aa.tv hy.len (aa.tv rfl (aa.ite rfl (fun h=>?_) fun h=>?_)))
 ·have h:¬ l=m:=by rintro rfl; simp at h
  exact aQ h
 ·have hlen:l.length=m.length:=by simp at h; omega
  refine f12_0_J ?_
  rw [bL (uG hlen)]
  refine gu (g:=fun k=>f12_0 x y (I k)) ?_ ?_
  ·unfold f12_0
   refine aa.tv hx.len (aa.tv rfl (aa.ite aP (fun h=>nomatch h) fun _=>aa.ret))
  ·intro k hk r h1 h2
   have hk':k < m.length:=by omega
   have ha:l[k]? = some l[k]:=C3 hk
   have hb:m[k]? = some m[k]:=C3 hk'
   obtain ⟨e,he,hr1⟩:=hx.idx (k:=.i64) ha
   obtain ⟨e',he',hr2⟩:=hy.idx (k:=.i64) hb
   cases hr1
   cases hr2
   unfold f12_0
   refine aa.tv hx.len (aa.tv rfl (aa.ite (aH hk) (fun _=>?_) fun h=>nomatch h))
   refine aa.tvs he (aa.chk rfl (aa.tvs he' (aa.chk rfl (aa.tv rfl (aa.ite rfl (fun h=>?_) fun h=>?_)))))
   ·rw [h1 (by rw [ha,hb]; simpa using h)]; exact aa.ret
   ·exact aa.tv (inc hk hx.bnd) (f12_0_J (h2 (by rw [ha,hb]; simpa using h)))
theorem ops12:RInts (some false) (frz (.sl true 1 [[I 12],[I 13]])) [12,13]:=.sl (fun _ h=>Option.some.inj h) (.cons ⟨rfl,by constructor <;> decide⟩ (.cons ⟨rfl,by constructor <;> decide⟩ .nil)) (by decide)
theorem ops10:RInts (some false) (frz (.sl true 1 [[I 10]])) [10]:=.sl (fun _ h=>Option.some.inj h) (.cons ⟨rfl,by constructor <;> decide⟩ .nil) (by decide)
theorem rThrowsRight {e:List TV} {m:DMod} (he:RMod (some false) e m):aC prog 3 [.agg e] (B true):=by
 obtain ⟨sh,hsh,hsm⟩:=r7 he
 have hri:=r9 he
 have he':=he
 obtain ⟨b,rfl,hb⟩:=he'
 refine aC.of (f3_MR _) ?_
 unfold f3_M
 refine aa.chk rfl (aa.call AX (aa.chk rfl (aa.tv rfl (aa.ite (v:=false) rfl (fun h=>nomatch h) fun _=>?_))))
 refine aa.call hsh (aa.chk rfl (aa.tv rfl ?_))
 cases sh with
 | false=>exact aa.ite (v:=true) rfl (fun _=>aa.ret) fun h=>nomatch h
 | true =>
  refine aa.ite (v:=false) rfl (fun h=>nomatch h) fun _=>?_
  by_cases hM:kn m
  ·obtain ⟨y1,F1,a1,a2,a3,a4⟩:=rOut he hM
   obtain ⟨y2,F2,b1,b2,b3,b4⟩:=rTells he hM
   obtain ⟨y3,F3,c1,c2,c3,c4⟩:=B4 he hM
   obtain ⟨z1,d1,G1,d2,d3,d4⟩:=Cn he hM
   obtain ⟨z2,e1,G2,e2,e3,e4⟩:=wb ops12 he hM
   obtain ⟨z3,f1,G3,f2,f3,f4⟩:=wb ops10 he hM
   have frzB:∀ {y:TV} {F:List Bool},RBools (some true) y F→RBools (some false) (frz y) F:=fun h=>h.frz fun _ _ h=>h.frz
   have s1:=qM (frzB a2) (frzB d2)
   have s2:=qM (frzB b2) (frzB e2)
   have s3:=qM (frzB c2) (frzB f2)
   rw [cK (IsX.same a3 a4 d3 d4)] at s1
   rw [cK (IsX.same b3 b4 e3 e4)] at s2
   rw [cK (IsX.same c3 c4 f3 f4)] at s3
   refine aa.call a1 (aa.chk (lJ a2.isSl) (aa.call b1 (aa.chk (lJ b2.isSl) (aa.call c1 (aa.chk (lJ c2.isSl) (aa.call hri (aa.chk rfl (aa.tv rfl ?_))))))))
   rw [cK hM]
   refine aa.ite (v:=false) rfl (fun h=>nomatch h) fun _=>?_
   refine aa.call d1 (aa.chk (lJ d2.isSl) (aa.call s1 (aa.chk rfl (aa.ite (v:=true) rfl (fun _=>?_) fun h=>nomatch h))))
   refine aa.call e1 (aa.chk (lJ e2.isSl) (aa.call s2 (aa.chk rfl (aa.ite (v:=true) rfl (fun _=>?_) fun h=>nomatch h))))
   exact aa.call f1 (aa.chk (lJ f2.isSl) (aa.call s3 (aa.chk rfl aa.ret)))
  ·have hri':=hri
   rw [fV hM] at hri'
   exact aa.call (rOutNo he hM) (aa.chk rfl (aa.call (AL he hM) (aa.chk rfl (aa.call (zv he hM) (aa.chk rfl (aa.call hri' (aa.chk rfl (aa.tv rfl (aa.ite (v:=true) rfl (fun _=>aa.tv rfl (aa.tv rfl (aa.ite (v:=true) rfl (fun _=>aa.tv rfl (aa.tv rfl (aa.ite (v:=true) rfl (fun _=>aa.tv rfl (aa.tv rfl aa.ret)) fun h=>nomatch h))) fun h=>nomatch h))) fun h=>nomatch h)))))))))
end Go.Ab.T12
end
section
namespace Go.Ab
open Go.RowKit
theorem aR {α:Type} (d:α):∀ (l:List α) (n:Nat),nth d l n=(l[n]?).getD d
 | [],n=>by simp [nth]
 | a :: l,0=>rfl
 | a :: l,n + 1=>by simp [nth,aR d l n]
theorem ah {α:Type}:∀ (l:List α) (n:Nat) (b:α),am l n b=l.set n b
 | [],n,b=>by simp [am]
 | a :: l,0,b=>rfl
 | a :: l,n + 1,b=>by simp [am,ah l n b]
theorem bK {α:Type} {d:α} {l:List α} {n:Nat} {a:α} (h:l[n]? = some a):nth d l n=a:=by rw [aR,h]; rfl
theorem ao (a b:Nat):a.beq b=true ↔ a=b:=⟨Nat.eq_of_beq_eq_true,fun h=>h ▸ Nat.beq_refl a⟩
theorem bW (n:Nat):∀ l:List Nat,bF n l=true ↔ n ∈ l
 | []=>by simp [bF]
 | a :: l => by
  cases h:a.beq n
  ·have:a≠n:=fun e=>by simp [e] at h
   simp only [bF,h,cond_false,bW n l,List.mem_cons]
   constructor
   ·exact .inr
   ·rintro (e | e)
    ·exact absurd e.symm this
    ·exact e
  ·simp only [bF,h,cond_true,List.mem_cons,true_iff]
   exact .inl ((ao a n).1 h).symm
theorem ea (a:Addr) (k:Nat):(a.add k).block=a.block:=by unfold Addr.add; split <;> rfl
theorem zN {a:Addr} (h:a.spot=none) (k:Nat):(a.add k).spot=none:=by unfold Addr.add; split <;> simp [h]
theorem eB (a:Addr) (i j:Nat):(a.add i).add j=a.add (i + j):=by
 unfold Addr.add
 by_cases hi:i=0 <;> by_cases hj:j=0 <;> simp [hi,hj,Nat.add_assoc]
theorem dK (b o k:Nat):(⟨b,o,none⟩:Addr).add k=⟨b,o + k,none⟩:=by unfold Addr.add; split <;> simp_all
def spl {α:Type} (l:List α) (o:Nat) (ys:List α):List α:=l.take o ++ ys ++ l.drop (o + ys.length)
theorem ew {α:Type} {l ys:List α} {o:Nat} (h:o + ys.length≤l.length):(spl l o ys).length=l.length:=by
 simp only [spl,List.length_append,List.length_take,List.length_drop]
 omega
theorem bz {α:Type} {l ys:List α} {o:Nat} (h:o + ys.length≤l.length) (k:Nat):(spl l o ys)[k]? = if o≤k∧k < o + ys.length then ys[k - o]? else l[k]? := by
 have e1:(l.take o).length=o:=by simp; omega
 unfold spl
 by_cases h1:k < o
 ·rw [List.append_assoc,Dc (by omega),List.getElem?_take,if_pos h1,if_neg (by omega)]
 ·by_cases h2:k < o + ys.length
  ·rw [List.append_assoc,Dd (by omega),e1,Dc (by omega),if_pos (by omega)]
  ·rw [Dd (by simp; omega),List.getElem?_drop,if_neg (by omega)]
   congr 1
   simp
   omega
theorem fa {α:Type}:∀ (ps l:List α) (off:Nat),off + ps.length≤l.length→bU l off ps=spl l off ps
 | [],l,off,h=>by simp [bU,spl]
 | p :: ps, l, off, h => by
  have hlt:off < l.length:=by simp at h; omega
  simp only [bU]
  rw [ah,fa ps (l.set off p) (off + 1) (by simp at h ⊢; omega)]
  apply List.ext_getElem?
  intro k
  rw [bz (by simp at h ⊢; omega),bz h]
  simp only [List.length_cons,List.getElem?_set]
  by_cases h1:k < off
  ·rw [if_neg (by omega),if_neg (by omega),if_neg (by omega)]
  ·by_cases h2:k=off
   ·subst h2
    rw [if_neg (by omega),if_pos (by omega)]
    simp [hlt]
   ·by_cases h3:k < off + (ps.length + 1)
    ·rw [if_pos (by omega),if_pos (by omega)]
     rw [show k - off=(k - (off + 1)) + 1 by omega,List.getElem?_cons_succ]
    ·rw [if_neg (by omega),if_neg (by omega),if_neg (by omega)]
theorem eK {α:Type}:∀ (l:List α) (o n:Nat) (r:List α),kt l o n=some r→r.length=n∧(n=0∨o + n≤l.length)∧∀ j,j < n→r[j]? = l[o + j]?
 | l,o,0,r,h=>by cases l <;> simp [kt] at h <;> subst h <;> simp
 | [],o,n + 1,r,h=>by simp [kt] at h
 | a :: l, 0, n + 1, r, h => by
  simp only [kt] at h
  cases h1:kt l 0 n with
  | none=>simp [h1] at h
  | some r' =>
   simp only [h1,C4] at h
   subst h
   obtain ⟨i1,i2,i3⟩:=eK l 0 n r' h1
   refine ⟨by simp [i1],.inr (by simp; omega),fun j hj=>?_⟩
   cases j with
   | zero=>simp
   | succ j=>simpa using i3 j (by omega)
 | a :: l,o + 1,n + 1,r,h=>by
  simp only [kt] at h
  obtain ⟨i1,i2,i3⟩:=eK l o (n + 1) r h
  refine ⟨i1,.inr (by rcases i2 with i2 | i2 <;> simp <;> omega),fun j hj=>?_⟩
  rw [i3 j hj,show o + 1 + j=(o + j) + 1 by omega,List.getElem?_cons_succ]
theorem bM {α:Type} {s:Nat}:∀ {xs:List (List α)},(∀ x ∈ xs,x.length=s)→xs.flatten.length=xs.length * s
 | [],_=>by simp
 | x :: xs,h=>by
  simp only [List.flatten_cons,List.length_append,List.length_cons,h x C9,bM (fun y hy=>h y (Da _ hy)),Nat.add_mul]
  omega
theorem cN {α:Type} {s:Nat}:∀ {xs:List (List α)} {i j:Nat} {x:List α} {c:α},(∀ x ∈ xs,x.length=s)→xs[i]? = some x→x[j]? = some c→xs.flatten[i * s + j]? = some c
 | x :: xs,0,j,_,c,h,hi,hj=>by
  simp at hi
  subst hi
  rw [List.flatten_cons,Dc (by simp; exact (C2.1 hj).1)]
  simpa using hj
 | x :: xs,i + 1,j,y,c,h,hi,hj=>by
  simp at hi
  have hx:=h x C9
  rw [List.flatten_cons,Dd (by rw [hx,Nat.add_mul]; omega),hx,show (i + 1) * s + j - s=i * s + j by rw [Nat.add_mul]; omega]
  exact cN (fun z hz=>h z (Da _ hz)) hi hj
theorem take_add {α:Type} {x l:List α} {s n:Nat} (h:x.length=s):(x ++ l).take (s + n)=x ++ l.take n:=by
 subst h
 exact List.take_length_add_append n
theorem vh {α:Type} {x l:List α} {s n:Nat} (h:x.length=s):(x ++ l).drop (s + n)=l.drop n:=by
 subst h
 exact List.drop_length_add_append n
theorem nY (n s:Nat):(n + 1) * s=s + n * s:=by rw [Nat.add_mul]; omega
theorem l6 {α:Type} {s:Nat}:∀ {xs:List (List α)} (n:Nat),(∀ x ∈ xs,x.length=s)→(xs.take n).flatten=xs.flatten.take (n * s)
 | [],n,_=>by simp
 | x :: xs,0,_=>by simp
 | x :: xs,n + 1,h=>by
  have hx:=h x C9
  rw [List.take_succ_cons,List.flatten_cons,List.flatten_cons,l6 n (fun z hz=>h z (Da _ hz)),nY,take_add hx]
theorem lA {α:Type} {s:Nat}:∀ {xs:List (List α)} (n:Nat),(∀ x ∈ xs,x.length=s)→(xs.drop n).flatten=xs.flatten.drop (n * s)
 | [],n,_=>by simp
 | x :: xs,0,_=>by simp
 | x :: xs,n + 1,h=>by
  have hx:=h x C9
  rw [List.drop_succ_cons,List.flatten_cons,lA n (fun z hz=>h z (Da _ hz)),nY,vh hx]
theorem vc {α:Type} {s:Nat}:∀ {xs:List (List α)} {i:Nat} {x y:List α},(∀ x ∈ xs,x.length=s)→xs[i]? = some x→y.length=s→(xs.set i y).flatten=spl xs.flatten (i * s) y
 | x :: xs,0,_,y,h,hi,hy=>by
  simp at hi
  subst hi
  have hx:=h x C9
  simp only [List.set_cons_zero,List.flatten_cons,Nat.zero_mul,spl,List.take_zero,List.nil_append,Nat.zero_add,hy,List.drop_append,hx,Nat.sub_self,List.drop_zero]
  rw [List.drop_of_length_le (by omega),List.nil_append]
 | x :: xs,i + 1,z,y,h,hi,hy=>by
  simp at hi
  have hx:=h x C9
  have ih:=vc (fun z hz=>h z (Da _ hz)) hi hy
  simp only [List.set_cons_succ,List.flatten_cons,ih,spl,nY,take_add hx,hy]
  rw [show s + i * s + s=s + (i * s + s) by omega,vh hx]
  simp only [List.append_assoc]
theorem ye {α:Type} {s:Nat} {xs:List (List α)} {i:Nat} {y:List α} (h:∀ x ∈ xs,x.length=s) (hy:y.length=s):∀ x ∈ xs.set i y,x.length=s:=by
 intro x hx
 rcases List.mem_or_eq_of_mem_set hx with h' | h'
 ·exact h x h'
 ·rw [h']; exact hy
theorem vm {α:Type} {s:Nat} {xs:List (List α)} {i j:Nat} {x ys:List α} (h:∀ x ∈ xs,x.length=s) (hi:xs[i]? = some x) (hj:j + ys.length≤x.length) :
  (xs.set i (spl x j ys)).flatten=spl xs.flatten (i * s + j) ys∧i * s + j + ys.length≤xs.flatten.length:=by
 have hx:=h x (Db hi)
 have hlt:i < xs.length:=(C2.1 hi).1
 have hle:i * s + s≤xs.flatten.length:=by
  rw [bM h]
  have:=Nat.mul_le_mul_right s (Nat.succ_le_of_lt hlt)
  rw [Nat.succ_mul] at this
  exact this
 refine ⟨?_,by omega⟩
 rw [vc h hi (by rw [ew hj,hx])]
 apply List.ext_getElem?
 intro k
 rw [bz (l:=xs.flatten) (ys:=spl x j ys) (by rw [ew hj]; omega),bz (l:=xs.flatten) (ys:=ys) (by omega),ew hj,hx]
 by_cases h1:i * s≤k∧k < i * s + s
 ·rw [if_pos h1,bz hj]
  by_cases h2:j≤k - i * s∧k - i * s < j + ys.length
  ·rw [if_pos h2,if_pos (by omega)]
   congr 1
   omega
  ·rw [if_neg h2,if_neg (by omega)]
   have hk:k - i * s < x.length:=by omega
   have:=cN h hi (C3 hk)
   rw [show i * s + (k - i * s)=k by omega] at this
   rw [this,C3 hk]
 ·rw [if_neg h1,if_neg (by omega)]
inductive Rep (w:World) (I:Nat→Prop):TV→Value→Prop
 | lit (v:Value):Rep w I (.lit v) v
 | hole (v:Value):Rep w I .hole v
 | buf {s:ByteArray} (e:TypeId) (h:s.size=0):Rep w I (.buf s e) cV
 | sl {size : Nat} {xs : List (List TV)} {a : Addr} {cap : Nat} (cell : Nat → Value) (hI : 0 < xs.length → I a.block) (hc : xs.length ≤ cap) (hm : cap ≤ maxLen)
   (hl:∀ x ∈ xs,x.length=size) (hcell:∀ k,k < xs.length * size→w.cell? (a.add k)=some (cell k)) (h1:∀ k,k < xs.length * size→(cell k).oneCell'=true)
   (hr:∀ (i:Nat) (x:List TV),xs[i]? = some x→∀ (j:Nat) (c:TV),x[j]? = some c→Rep w I c (cell (i * size + j))):Rep w I (.sl false size xs) (.slice (some a) xs.length cap)
 | agg {cs : List TV} {vs : Array Value} (hl : vs.size = cs.length) (h1 : ∀ j, j < vs.size → (vs.getD j undef).oneCell' = true)
   (hr:∀ (j:Nat) (c:TV),cs[j]? = some c→Rep w I c (vs.getD j undef)):Rep w I (.agg cs) (.agg vs)
 | tup {cs:List TV} {vs:Array Value} (hl:vs.size=cs.length) (hr:∀ (j:Nat) (c:TV),cs[j]? = some c→Rep w I c (vs.getD j undef)):Rep w I (.tup cs) (.tuple vs)
theorem Rep.mv {w w':World} {I I':Nat→Prop} (hh:∀ b,I b→w'.heap[b]? = w.heap[b]?) (hI:∀ b,I b→I' b) {x:TV} {v:Value} (h:Rep w I x v):Rep w' I' x v:=by
 induction h with
 | lit v=>exact .lit v
 | hole v=>exact .hole v
 | buf e h=>exact .buf e h
 | sl cell i c m l hcell h1 _ ih =>
  exact .sl cell (fun h=>hI _ (i h)) c m l (fun k hk=>by rw [← hcell k hk]; exact World.cell?_of_block (by rw [ea]; exact hh _ (i (Nat.pos_of_ne_zero (fun e=>by simp [e] at hk))))) h1 ih
 | agg hl h1 _ ih=>exact .agg hl h1 ih
 | tup hl _ ih=>exact .tup hl ih
structure Row (w:World) (a:Addr) (n cap size:Nat) (us:List Value) (vs:Array Value) (ty:TypeId):Prop where
 heap:w.heap[a.block]? = some (.cells vs ty (0,0))
 spot:a.spot=none
 le:n≤cap
 max:cap≤maxLen
 fit:a.off + cap * size≤vs.size
 len:us.length=n * size
 cells:∀ k,k < n * size→vs[a.off + k]? = us[k]?
 one:∀ u ∈ us,u.oneCell'=true
theorem Row.cell {w:World} {a:Addr} {n cap size:Nat} {us:List Value} {vs:Array Value} {ty:TypeId} (h:Row w a n cap size us vs ty) {k:Nat} {u:Value} (hk:us[k]? = some u):w.cell? (a.add k)=some u:=by
 have hlt:k < n * size:=by rw [← h.len]; exact (C2.1 hk).1
 have:a.add k=⟨a.block,a.off + k,none⟩:=by
  have:=h.spot
  obtain ⟨b,o,sp⟩:=a
  simp at this
  subst this
  exact dK b o k
 rw [this]
 simp only [World.cell?,h.heap]
 simp only [Option.isSome_none,Bool.false_eq_true,if_false]
 rw [h.cells k hlt,hk]
inductive ak (w:World) (I:Nat→Prop):TV→Value→(Nat→Prop)→Prop
 | fr {x:TV} {v:Value} {S:Nat→Prop} (h:Rep w I x v):ak w I x v S
 | sl {size : Nat} {xs : List (List TV)} {a : Addr} {cap : Nat} {S : Nat → Prop} (us : List Value) (vs : Array Value) (ty : TypeId) (F : Nat → Nat → Prop) (hS : S a.block)
   (row:Row w a xs.length cap size us vs ty) (hl:∀ x ∈ xs,x.length=size) (hr:∀ (k:Nat) (c:TV),xs.flatten[k]? = some c→ak w I c (us.getD k undef) (F k))
   (hF:∀ k b,F k b→S b∧b≠a.block) (hd:∀ k k' b,F k b→F k' b→k=k'):ak w I (.sl true size xs) (.slice (some a) xs.length cap) S
 | agg {cs : List TV} {vs : Array Value} {S : Nat → Prop} (F : Nat → Nat → Prop) (hl : vs.size = cs.length) (h1 : ∀ j, j < vs.size → (vs.getD j undef).oneCell' = true)
   (hr:∀ (j:Nat) (c:TV),cs[j]? = some c→ak w I c (vs.getD j undef) (F j)) (hF:∀ j b,F j b→S b) (hd:∀ k k' b,F k b→F k' b→k=k'):ak w I (.agg cs) (.agg vs) S
 | buf {s:ByteArray} {e:TypeId} {v:Value} {S:Nat→Prop} (h:w.ownsRowF 0 e 1 v s.size (Lib.strCells s)) (hS:∀ b,v.ownBlock=some b→S b):ak w I (.buf s e) v S
 | tup {cs : List TV} {vs : Array Value} {S : Nat → Prop} (F : Nat → Nat → Prop) (hl : vs.size = cs.length)
   (hr:∀ (j:Nat) (c:TV),cs[j]? = some c→ak w I c (vs.getD j undef) (F j)) (hF:∀ j b,F j b→S b) (hd:∀ k k' b,F k b→F k' b→k=k'):ak w I (.tup cs) (.tuple vs) S
theorem _root_.Go.World.ownsRowF.moved {w w':World} {base:Nat} {e:TypeId} {size:Nat} {v:Value} {n:Nat} {xs:List Value} (h:w.ownsRowF base e size v n xs) (hh:∀ b,v.ownBlock=some b→w'.heap[b]? = w.heap[b]?):w'.ownsRowF base e size v n xs:=by
 refine ⟨h.1,?_⟩
 rcases h.2 with hn | ⟨g,cap,cur,fz,rfl,hb,hgg,rest⟩
 ·exact .inl hn
 ·exact .inr ⟨g,cap,cur,fz,rfl,hb,by rw [hh g rfl]; exact hgg,rest⟩
theorem ak.mv {w w':World} {I I':Nat→Prop} (hI:∀ b,I b→w'.heap[b]? = w.heap[b]?) (hs:∀ b,I b→I' b) {x:TV} {v:Value} {S:Nat→Prop} (h:ak w I x v S) :
  ∀ {S':Nat→Prop},(∀ b,S b→w'.heap[b]? = w.heap[b]?)→(∀ b,S b→S' b)→ak w' I' x v S':=by
 induction h with
 | fr h=>intro S' _ _; exact .fr (h.mv hI hs)
 | @sl size xs a cap S us vs ty F hS row hl hr hF hd ih =>
  intro S' hh hSS
  exact .sl us vs ty F (hSS _ hS) ⟨by rw [hh _ hS]; exact row.heap,row.spot,row.le,row.max,row.fit,row.len,row.cells,row.one⟩ hl (fun k c hk=>ih k c hk (fun b hb=>hh b (hF k b hb).1) (fun b hb=>hb))
   (fun k b hb=>⟨hSS b (hF k b hb).1,(hF k b hb).2⟩) hd
 | @buf s e v S h hS =>
  intro S' hh hSS
  exact .buf (h.moved (fun b hb=>hh b (hS b hb))) (fun b hb=>hSS b (hS b hb))
 | @agg cs vs S F hl h1 hr hF hd ih =>
  intro S' hh hSS
  exact .agg F hl h1 (fun k c hk=>ih k c hk (fun b hb=>hh b (hF k b hb)) (fun b hb=>hb)) (fun k b hb=>hSS b (hF k b hb)) hd
 | @tup cs vs S F hl hr hF hd ih =>
  intro S' hh hSS
  exact .tup F hl (fun k c hk=>ih k c hk (fun b hb=>hh b (hF k b hb)) (fun b hb=>hb)) (fun k b hb=>hSS b (hF k b hb)) hd
theorem ak.mono {w:World} {I:Nat→Prop} {x:TV} {v:Value} {S S':Nat→Prop} (h:ak w I x v S) (hS:∀ b,S b→S' b):ak w I x v S' :=
 h.mv (fun _ _=>rfl) (fun _ h=>h) (fun _ _=>rfl) hS
theorem bu {w:World} {I:Nat→Prop} {v u:Value} (h:Rep w I (.lit v) u):u=v:=by cases h; rfl
theorem aW {w:World} {I:Nat→Prop} {v u:Value} {S:Nat→Prop} (h:ak w I (.lit v) u S):u=v:=by cases h with | fr h=>exact bu h
theorem AE {w:World} {I:Nat→Prop} {s:Nat} {xs:List (List TV)} {u:Value} {S:Nat→Prop} (h:ak w I (.sl false s xs) u S):Rep w I (.sl false s xs) u:=by cases h with | fr h=>exact h
theorem qf {w:World} {I:Nat→Prop} {o:Bool} {s:Nat} {xs:List (List TV)} {u:Value} {S:Nat→Prop} (h:ak w I (.sl o s xs) u S):∃ a cap,u=.slice (some a) xs.length cap:=by
 cases h with
 | fr h=>cases h; exact ⟨_,_,rfl⟩
 | sl=>exact ⟨_,_,rfl⟩
theorem eY {w:World} {I:Nat→Prop} {x:TV} {u:Value} {S:Nat→Prop} (h:ak w I x u S) (hx:x.isSl=true):∃ a n cap,u=.slice a n cap:=by
 cases x with
 | lit v =>
  have:=aW h
  subst this
  cases u <;> simp [TV.isSl,bh] at hx ⊢
 | sl o s xs=>obtain ⟨a,cap,rfl⟩:=qf h; exact ⟨_,_,_,rfl⟩
 | _=>simp [TV.isSl] at hx
theorem p9 {v:Value} (h:scV v=true):v.oneCell'=true:=by cases v <;> first | rfl | simp [scV] at h
theorem eg {w:World} {I:Nat→Prop} {x:TV} {u:Value} {S:Nat→Prop} (h:ak w I x u S) (hx:x.isSc=true):x=.lit u∧scV u=true:=by
 cases x with
 | lit v =>
  have:=aW h
  subst this
  exact ⟨rfl,hx⟩
 | _=>simp [TV.isSc] at hx
theorem B9 {w:World} {I:Nat→Prop} {x:TV} {u:Value} {S:Nat→Prop} (h:ak w I x u S):Rep w I x.lf u:=by
 cases x with
 | lit v=>have:=aW h; subst this; exact .lit _
 | _=>exact .hole _
theorem lS:∀ l:List TV,ul l=l.map frz
 | []=>rfl
 | x :: l=>by simp [ul,lS l]
theorem gj:∀ l:List (List TV),qt l=l.map fun x=>x.map frz
 | []=>rfl
 | x :: l=>by simp [qt,gj l,lS]
theorem zZ:∀ l:List TV,lfL l=l.map TV.lf
 | []=>rfl
 | x :: l=>by simp [lfL,zZ l]
theorem xK:∀ l:List (List TV),AK l=l.map fun x=>x.map TV.lf
 | []=>rfl
 | x :: l=>by simp [AK,xK l,zZ]
theorem Rep.frz {w:World} {I:Nat→Prop} {x:TV} {v:Value} (h:Rep w I x v):Rep w I (frz x) v:=by
 induction h with
 | lit v=>exact .lit v
 | hole v=>exact .hole v
 | buf e h=>exact .hole _
 | @sl size xs a cap cell hI hc hm hl hcell h1 _ ih =>
  simp only [Ab.frz,gj]
  have hlen:(xs.map fun x=>x.map Ab.frz).length=xs.length:=by simp
  have key:Rep w I (.sl false size (xs.map fun x=>x.map Ab.frz)) (.slice (some a) (xs.map fun x=>x.map Ab.frz).length cap):=by
   refine .sl cell (by rw [hlen]; exact hI) (by rw [hlen]; exact hc) hm (fun x hx=>?_) (by rw [hlen]; exact hcell) (by rw [hlen]; exact h1) (fun i y hy j c hj=>?_)
   ·obtain ⟨y,hy,rfl⟩:=List.mem_map.1 hx
    simpa using hl y hy
   ·rw [C8] at hy
    cases hxi:xs[i]? with
    | none=>simp [hxi] at hy
    | some x =>
     simp only [hxi,Df,C4] at hy
     subst hy
     rw [C8] at hj
     cases hxj:x[j]? with
     | none=>simp [hxj] at hj
     | some c' =>
      simp only [hxj,Df,C4] at hj
      subst hj
      exact ih i x hxi j c' hxj
  rwa [hlen] at key
 | @agg cs vs hl h1 _ ih =>
  simp only [Ab.frz,lS]
  refine .agg (by simpa using hl) h1 (fun j c hj=>?_)
  rw [C8] at hj
  cases hxj:cs[j]? with
  | none=>simp [hxj] at hj
  | some c'=>simp only [hxj,Df,C4] at hj; subst hj; exact ih j c' hxj
 | @tup cs vs hl _ ih =>
  simp only [Ab.frz,lS]
  refine .tup (by simpa using hl) (fun j c hj=>?_)
  rw [C8] at hj
  cases hxj:cs[j]? with
  | none=>simp [hxj] at hj
  | some c'=>simp only [hxj,Df,C4] at hj; subst hj; exact ih j c' hxj
theorem ak.frz {w:World} {I I':Nat→Prop} (hI:∀ b,I b→I' b) {x:TV} {v:Value} {S:Nat→Prop} (h:ak w I x v S):(∀ b,S b→I' b)→Rep w I' (frz x) v:=by
 induction h with
 | fr h=>intro _; exact (h.mv (fun _ _=>rfl) hI).frz
 | buf _ _=>intro _; exact .hole _
 | @sl size xs a cap S us vs ty F hS row hl hr hF hd ih =>
  intro hSI
  simp only [Ab.frz,gj]
  have hlen:(xs.map fun x=>x.map Ab.frz).length=xs.length:=by simp
  have key:Rep w I' (.sl false size (xs.map fun x=>x.map Ab.frz)) (.slice (some a) (xs.map fun x=>x.map Ab.frz).length cap):=by
   refine .sl (fun k=>us.getD k undef) (fun _=>hSI _ hS) (by rw [hlen]; exact row.le) row.max (fun x hx=>?_) (fun k hk=>?_) (fun k hk=>?_) (fun i y hy j c hj=>?_)
   ·obtain ⟨y,hy,rfl⟩:=List.mem_map.1 hx
    simpa using hl y hy
   ·rw [hlen] at hk
    have:k < us.length:=by rw [row.len]; exact hk
    exact row.cell (by simp [C3 this])
   ·rw [hlen] at hk
    have:k < us.length:=by rw [row.len]; exact hk
    simp only [Dg,C3 this,Option.getD_some]
    exact row.one _ (List.getElem_mem this)
   ·rw [C8] at hy
    cases hxi:xs[i]? with
    | none=>simp [hxi] at hy
    | some x =>
     simp only [hxi,Df,C4] at hy
     subst hy
     rw [C8] at hj
     cases hxj:x[j]? with
     | none=>simp [hxj] at hj
     | some c' =>
      simp only [hxj,Df,C4] at hj
      subst hj
      exact ih _ c' (cN hl hxi hxj) (fun b hb=>hSI b (hF _ b hb).1)
  rwa [hlen] at key
 | @agg cs vs S F hl h1 hr hF hd ih =>
  intro hSI
  simp only [Ab.frz,lS]
  refine .agg (by simpa using hl) h1 (fun j c hj=>?_)
  rw [C8] at hj
  cases hxj:cs[j]? with
  | none=>simp [hxj] at hj
  | some c'=>simp only [hxj,Df,C4] at hj; subst hj; exact ih j c' hxj (fun b hb=>hSI b (hF j b hb))
 | @tup cs vs S F hl hr hF hd ih =>
  intro hSI
  simp only [Ab.frz,lS]
  refine .tup (by simpa using hl) (fun j c hj=>?_)
  rw [C8] at hj
  cases hxj:cs[j]? with
  | none=>simp [hxj] at hj
  | some c'=>simp only [hxj,Df,C4] at hj; subst hj; exact ih j c' hxj (fun b hb=>hSI b (hF j b hb))
theorem fO:∀ {l:List TV},iX l=true→∀ x ∈ l,dw x=true
 | [],_,x,hx=>by simp at hx
 | y :: l,h,x,hx=>by
  simp only [iX,C5] at h
  rcases List.mem_cons.1 hx with rfl | hx
  ·exact h.1
  ·exact fO h.2 x hx
theorem pn:∀ {l:List (List TV)},lQ l=true→∀ x ∈ l,iX x=true
 | [],_,x,hx=>by simp at hx
 | y :: l,h,x,hx=>by
  simp only [lQ,C5] at h
  rcases List.mem_cons.1 hx with rfl | hx
  ·exact h.1
  ·exact pn h.2 x hx
theorem Rep.own {w:World} {I I':Nat→Prop} {x:TV} {v:Value} (h:Rep w I x v):dw x=true→Rep w I' x v:=by
 induction h with
 | lit v=>intro _; exact .lit v
 | hole v=>intro _; exact .hole v
 | buf e h=>intro _; exact .buf e h
 | sl=>intro h; simp [dw] at h
 | @agg cs vs hl h1 _ ih=>intro h; simp only [dw] at h; exact .agg hl h1 (fun j c hj=>ih j c hj (fO h c (Db hj)))
 | @tup cs vs hl _ ih=>intro h; simp only [dw] at h; exact .tup hl (fun j c hj=>ih j c hj (fO h c (Db hj)))
theorem ak.own {w:World} {I I':Nat→Prop} {x:TV} {v:Value} {S:Nat→Prop} (h:ak w I x v S):dw x=true→ak w I' x v S:=by
 induction h with
 | fr h=>intro ho; exact .fr (h.own ho)
 | buf h hS=>intro _; exact .buf h hS
 | @sl size xs a cap S us vs ty F hS row hl hr hF hd ih =>
  intro ho
  simp only [dw,Bool.true_and] at ho
  refine .sl us vs ty F hS row hl (fun k c hk=>ih k c hk ?_) hF hd
  obtain ⟨x,hx,hc⟩:=List.mem_flatten.1 (Db hk)
  exact fO (pn ho x hx) c hc
 | @agg cs vs S F hl h1 hr hF hd ih=>intro ho; simp only [dw] at ho; exact .agg F hl h1 (fun j c hj=>ih j c hj (fO ho c (Db hj))) hF hd
 | @tup cs vs S F hl hr hF hd ih=>intro ho; simp only [dw] at ho; exact .tup F hl (fun j c hj=>ih j c hj (fO ho c (Db hj))) hF hd
end Go.Ab
end
section
namespace Go.Ab
open Go.RowKit
def TV.nd (x:TV):Option (Nat × Nat):=match x with | .sl _ s xs=>some (s,xs.length) | _=>none
def Node (w:World):Way→TV→Value→Value→Option (Nat × Nat)→Prop
 | [],x,u,v,nd=>v=u∧nd=x.nd
 | (k,j) :: p,x,u,v,nd=>∃ o s xs a n cap e y u',x=.sl o s xs∧u=.slice (some a) n cap∧xs[k]? = some e∧e[j]? = some y∧w.cell? (a.add (k * s + j))=some u'∧Node w p y u' v nd
section
variable {w w':World} {I I':Nat→Prop} {x y:TV} {u v:Value} {S:Nat→Prop}
theorem getD_some {l:List Value} {k:Nat} {u:Value} (h:l[k]? = some u):l.getD k undef=u:=by simp [h]
theorem ak.child {o:Bool} {s:Nat} {xs:List (List TV)} (h:ak w I (.sl o s xs) u S) {k j:Nat} {e:List TV} {y:TV} (hk:xs[k]? = some e) (hj:e[j]? = some y) :
  ∃ a cap u' S',u=.slice (some a) xs.length cap∧w.cell? (a.add (k * s + j))=some u'∧u'.oneCell'=true∧ak w I y u' S'∧(∀ b,S' b→S b)∧(S a.block∨I a.block)∧e.length=s:=by
 have hlt:k < xs.length:=(C2.1 hk).1
 cases h with
 | fr h =>
  cases h with
  | @sl _ _ a cap cell hI hc hm hl hcell h1 hr =>
   have hel:=hl e (Db hk)
   have hf:k * s + j < xs.length * s:=by
    have hj':=(C2.1 hj).1
    have:=Nat.mul_le_mul_right s (Nat.succ_le_of_lt hlt)
    rw [Nat.succ_mul] at this
    omega
   exact ⟨a,cap,_,fun _=>False,rfl,hcell _ hf,h1 _ hf,.fr (hr k e hk j y hj),fun _ h=>h.elim,.inr (hI (by omega)),hel⟩
 | @sl _ _ a cap S us vs ty F hS row hl hr hF hd =>
  have hel:=hl e (Db hk)
  have hfg:=cN hl hk hj
  have hlt2:k * s + j < us.length:=by
   rw [row.len,← bM hl]
   exact (C2.1 hfg).1
  have hu:=C3 hlt2
  refine ⟨a,cap,us[k * s + j],F (k * s + j),rfl,row.cell hu,row.one _ (List.getElem_mem hlt2),?_,fun b hb=>(hF _ b hb).1,.inl hS,hel⟩
  have:=hr _ _ hfg
  rwa [getD_some hu] at this
theorem Node.mv:∀ {p:Way} {x:TV} {u v:Value} {nd:Option (Nat × Nat)} {S:Nat→Prop},ak w I x u S→(∀ b,I b→w'.heap[b]? = w.heap[b]?)→(∀ b,S b→w'.heap[b]? = w.heap[b]?)→Node w p x u v nd→Node w' p x u v nd
 | [],x,u,v,nd,S,_,_,_,h=>h
 | (k,j) :: p,x,u,v,nd,S,hr,hI,hS,⟨o,s,xs,a,n,cap,e,y,u',hx,hu,he,hy,hc,h⟩=>by
  subst hx
  obtain ⟨a',cap',u2,S',h1,h2,h3,h4,h5,h6,h7⟩:=hr.child he hy
  rw [hu] at h1
  cases h1
  rw [hc] at h2
  cases h2
  refine ⟨o,s,xs,a,_,_,e,y,u',rfl,hu,he,hy,?_,Node.mv h4 hI (fun b hb=>hS b (h5 b hb)) h⟩
  rw [← hc]
  refine World.cell?_of_block ?_
  rw [ea]
  rcases h6 with h6 | h6
  ·exact hS _ h6
  ·exact hI _ h6
theorem ak.get:∀ {p:Way} {x y:TV} {u:Value} {S:Nat→Prop},ak w I x u S→dQ p x=some y→∃ v S',Node w p x u v y.nd∧ak w I y v S'∧(∀ b,S' b→S b)∧(p≠[]→v.oneCell'=true)
 | [],x,y,u,S,hr,h=>by
  simp only [dQ,C4] at h
  subst h
  exact ⟨u,S,⟨rfl,rfl⟩,hr,fun _ h=>h,fun h=>absurd rfl h⟩
 | (k, j) :: p, x, y, u, S, hr, h => by
  cases x with
  | sl o s xs =>
   simp only [dQ] at h
   cases he:xs[k]? with
   | none=>simp [he] at h
   | some e =>
    simp only [he] at h
    cases hz:e[j]? with
    | none=>simp [hz] at h
    | some z =>
     simp only [hz] at h
     obtain ⟨a,cap,u',S1,h1,h2,h3,h4,h5,h6,h7⟩:=hr.child he hz
     obtain ⟨v,S2,n1,n2,n3,n4⟩:=ak.get h4 h
     refine ⟨v,S2,⟨o,s,xs,a,_,cap,e,z,u',rfl,h1,he,hz,h2,n1⟩,n2,fun b hb=>h5 b (n3 b hb),fun _=>?_⟩
     cases p with
     | nil=>rw [n1.1]; exact h3
     | cons=>exact n4 (by simp)
  | _=>simp [dQ] at h
theorem Node.unique:∀ {p:Way} {x:TV} {u v v':Value} {nd nd':Option (Nat × Nat)},Node w p x u v nd→Node w p x u v' nd'→v=v'∧nd=nd'
 | [],x,u,v,v',nd,nd',h,h'=>⟨h.1.trans h'.1.symm,h.2.trans h'.2.symm⟩
 | (k,j) :: p,x,u,v,v',nd,nd',⟨o,s,xs,a,n,cap,e,y,u',hx,hu,he,hy,hc,h⟩,⟨o2,s2,xs2,a2,n2,cap2,e2,y2,u2,hx2,hu2,he2,hy2,hc2,h2⟩=>by
  subst hx
  cases hx2
  subst hu
  cases hu2
  rw [he] at he2
  cases he2
  rw [hy] at hy2
  cases hy2
  rw [hc] at hc2
  cases hc2
  exact Node.unique h h2
theorem ak.sub : ∀ {p : Way} {x y : TV} {u : Value} {S : Nat → Prop}, ak w I x u S → dQ p x = some y →
  ∃ v Sy, ak w I y v Sy ∧ (∀ b, Sy b → S b) ∧ Node w p x u v y.nd ∧ (p ≠ [] → v.oneCell' = true) ∧
   ∀ (w':World) (I':Nat→Prop) (y' x':TV) (S':Nat→Prop),lu p x y'=some x'→(∀ b,I b→w'.heap[b]? = w.heap[b]?)→(∀ b,I b→I' b)→(∀ b,S b→¬ Sy b→w'.heap[b]? = w.heap[b]?) →
    ak w' I' y' v S'→(∀ b,S' b→S b→Sy b)→ak w' I' x' u (fun b=>(S b∧¬ Sy b)∨S' b) ∧
    ∀ (q:Way) (v':Value) (nd:Option (Nat × Nat)),(∀ q',q=p ++ q'→Node w q' y v v' nd→Node w' q' y' v v' nd)→Node w q x u v' nd→Node w' q x' u v' nd
 | [],x,y,u,S,hr,h=>by
  simp only [Ab.dQ,C4] at h
  subst h
  refine ⟨u,S,hr,fun _ h=>h,⟨rfl,rfl⟩,fun h=>absurd rfl h,?_⟩
  intro w' I' y' x' S' hs hI hII hh hr' hd
  simp only [lu,C4] at hs
  subst hs
  exact ⟨hr'.mono (fun b hb=>.inr hb),fun q v' nd hq hn=>hq q rfl hn⟩
 | (k, j) :: p, x, y, u, S, hr, h => by
  cases x with
  | sl o s xs =>
   simp only [Ab.dQ] at h
   cases he:xs[k]? with
   | none=>simp [he] at h
   | some e =>
    simp only [he] at h
    cases hz:e[j]? with
    | none=>simp [hz] at h
    | some z =>
     simp only [hz] at h
     cases o with
     | false =>
      obtain ⟨v,S',n1,n2,n3,n4⟩:=ak.get (p:=(k,j) :: p) (y:=y) hr (by simp only [Ab.dQ,he,hz,h])
      refine ⟨v,S',n2,n3,n1,n4,?_⟩
      intro w' I' y' x' S2 hs
      simp [lu] at hs
     | true =>
      cases hr with
      | fr h=>cases h
      | @sl _ _ a cap S us vs ty F hS row hl hr hF hd =>
       have hel:=hl e (Db he)
       have hjl:j < e.length:=(C2.1 hz).1
       have hfg:=cN hl he hz
       have hlt2:k * s + j < us.length:=by
        rw [row.len,← bM hl]
        exact (C2.1 hfg).1
       have hu:=C3 hlt2
       have hrz:=hr _ _ hfg
       rw [getD_some hu] at hrz
       obtain ⟨v,Sy,m1,m2,m3,m4,m5⟩:=ak.sub hrz h
       have hSyF:∀ b,Sy b→F (k * s + j) b:=m2
       refine ⟨v,Sy,m1,fun b hb=>(hF _ b (m2 b hb)).1,⟨true,s,xs,a,_,cap,e,z,us[k * s + j],rfl,rfl,he,hz,row.cell hu,m3⟩,fun _=>?_,?_⟩
       ·cases p with
        | nil=>rw [m3.1]; exact row.one _ (List.getElem_mem hlt2)
        | cons=>exact m4 (by simp)
       intro w' I' y' x' S' hs hI hII hh hr' hdis
       simp only [lu,he,hz] at hs
       cases hz':lu p z y' with
       | none=>simp [hz'] at hs
       | some z' =>
        simp only [hz',C4,ah] at hs
        subst hs
        have hablk:¬ Sy a.block:=fun hb=>(hF _ _ (m2 _ hb)).2 rfl
        obtain ⟨r1,r2⟩:=m5 w' I' y' z' S' hz' hI hII (fun b hb hn=>hh b (hF _ b hb).1 hn) hr' (fun b hb hb2=>hdis b hb (hF _ b hb2).1)
        have hset:e.set j z'=spl e j [z']:=by
         apply List.ext_getElem?
         intro m
         rw [bz (by simp; omega),List.getElem?_set]
         by_cases hjm:j=m
         ·subst hjm; simp [hjl]
         ·rw [if_neg hjm,if_neg (by simp; omega)]
        obtain ⟨f1,f2⟩:=vm (ys:=[z']) hl he (by simp; omega:j + [z'].length≤e.length)
        have hlen:(xs.set k (e.set j z')).length=xs.length:=by simp
        have hrow:Row w' a (xs.set k (e.set j z')).length cap s us vs ty:=by
         rw [hlen]
         exact ⟨by rw [hh _ hS hablk]; exact row.heap,row.spot,row.le,row.max,row.fit,row.len,row.cells,row.one⟩
        have hother:∀ m c,m≠k * s + j→xs.flatten[m]? = some c→ak w' I' c (us.getD m undef) (F m):=fun m c hm hc =>
         (hr m c hc).mv hI hII (fun b hb=>hh b (hF m b hb).1 (fun hs=>hm (hd m _ b hb (m2 b hs)))) (fun _ h=>h)
        constructor
        ·have key:ak w' I' (.sl true s (xs.set k (e.set j z'))) (.slice (some a) (xs.set k (e.set j z')).length cap) (fun b=>(S b∧¬ Sy b)∨S' b):=by
          refine .sl us vs ty (fun m b=>if m=k * s + j then (F (k * s + j) b∧¬ Sy b)∨S' b else F m b) (.inl ⟨hS,hablk⟩) hrow (ye hl (by simp [hel])) (fun m c hc=>?_) (fun m b hb=>?_) (fun m m' b hb hb'=>?_)
          ·rw [hset,f1,bz f2] at hc
           by_cases hm:m=k * s + j
           ·subst hm
            simp only [List.length_singleton,Nat.sub_self] at hc
            rw [if_pos (by omega)] at hc
            simp only [List.getElem?_cons_zero,C4] at hc
            subst hc
            simp only [if_true]
            rw [getD_some hu]
            exact r1
           ·rw [if_neg (by simp only [List.length_singleton]; omega)] at hc
            simp only [hm,if_false]
            exact hother m c hm hc
          ·by_cases hm:m=k * s + j
           ·subst hm
            simp only [if_true] at hb
            rcases hb with ⟨h1,h2⟩ | h1
            ·exact ⟨.inl ⟨(hF _ b h1).1,h2⟩,(hF _ b h1).2⟩
            ·exact ⟨.inr h1,fun e=>by subst e; exact hablk (hdis _ h1 hS)⟩
           ·simp only [hm,if_false] at hb
            exact ⟨.inl ⟨(hF _ b hb).1,fun hs=>hm (hd _ _ b hb (m2 b hs))⟩,(hF _ b hb).2⟩
          ·by_cases hm:m=k * s + j <;> by_cases hm':m'=k * s + j
           ·rw [hm,hm']
           ·simp only [hm,hm',if_true,if_false] at hb hb'
            rcases hb with ⟨h1,h2⟩ | h1
            ·exact hm ▸ hd _ _ b h1 hb'
            ·exact hm ▸ hd _ _ b (m2 b (hdis b h1 (hF _ b hb').1)) hb'
           ·simp only [hm,hm',if_true,if_false] at hb hb'
            rcases hb' with ⟨h1,h2⟩ | h1
            ·exact hm' ▸ hd _ _ b hb h1
            ·exact hm' ▸ hd _ _ b hb (m2 b (hdis b h1 (hF _ b hb).1))
           ·simp only [hm,hm',if_false] at hb hb'
            exact hd _ _ b hb hb'
         rwa [hlen] at key
        ·intro q v' nd hq hn
         cases q with
         | nil =>
          obtain ⟨e1,e2⟩:=hn
          exact ⟨e1,by rw [e2]; simp [TV.nd]⟩
         | cons kj q =>
          obtain ⟨k1,j1⟩:=kj
          obtain ⟨o2,s2,xs2,a2,n2,cap2,e2,y2,u2,hx2,hu2,he2,hy2,hc2,hn2⟩:=hn
          cases hx2
          cases hu2
          have hblk:∀ m,w'.cell? (a.add m)=w.cell? (a.add m):=fun m=>World.cell?_of_block (by rw [ea]; exact hh _ hS hablk)
          by_cases hk1:k1=k
          ·subst hk1
           rw [he] at he2
           cases he2
           have hk2:k1 < xs.length:=(C2.1 he).1
           by_cases hj1:j1=j
           ·subst hj1
            rw [hz] at hy2
            cases hy2
            have:u2=us[k1 * s + j1]:=by rw [row.cell hu] at hc2; exact (Option.some.inj hc2).symm
            subst this
            refine ⟨true,s,_,a,_,cap,e.set j1 z',z',us[k1 * s + j1],rfl,rfl,by rw [List.getElem?_set_self hk2],by rw [List.getElem?_set_self hjl],by rw [hblk]; exact hc2,?_⟩
            exact r2 q v' nd (fun q' hq'=>hq q' (by rw [hq']; rfl)) hn2
           ·refine ⟨true,s,_,a,_,cap,e.set j z',y2,u2,rfl,rfl,by rw [List.getElem?_set_self hk2],by rw [List.getElem?_set_ne (fun h=>hj1 h.symm)]; exact hy2,by rw [hblk]; exact hc2,?_⟩
            have hfg2:=cN hl he hy2
            have hm:k1 * s + j1≠k1 * s + j:=by omega
            have hr2:=hr _ _ hfg2
            have hlt3:k1 * s + j1 < us.length:=by rw [row.len,← bM hl]; exact (C2.1 hfg2).1
            rw [getD_some (C3 hlt3)] at hr2
            have:u2=us[k1 * s + j1]:=by rw [row.cell (C3 hlt3)] at hc2; exact (Option.some.inj hc2).symm
            subst this
            exact Node.mv hr2 hI (fun b hb=>hh b (hF _ b hb).1 (fun hs=>hm (hd _ _ b hb (m2 b hs)))) hn2
          ·refine ⟨true,s,_,a,_,cap,e2,y2,u2,rfl,rfl,by rw [List.getElem?_set_ne (fun h=>hk1 h.symm)]; exact he2,hy2,by rw [hblk]; exact hc2,?_⟩
           have hfg2:=cN hl he2 hy2
           have hel2:=hl e2 (Db he2)
           have hj2:j1 < e2.length:=(C2.1 hy2).1
           have hm:k1 * s + j1≠k * s + j:=by
            intro heq
            rcases Nat.lt_or_gt_of_ne hk1 with h' | h'
            ·have:=Nat.mul_le_mul_right s (Nat.succ_le_of_lt h')
             rw [Nat.succ_mul] at this
             omega
            ·have:=Nat.mul_le_mul_right s (Nat.succ_le_of_lt h')
             rw [Nat.succ_mul] at this
             omega
           have hr2:=hr _ _ hfg2
           have hlt3:k1 * s + j1 < us.length:=by rw [row.len,← bM hl]; exact (C2.1 hfg2).1
           rw [getD_some (C3 hlt3)] at hr2
           have:u2=us[k1 * s + j1]:=by rw [row.cell (C3 hlt3)] at hc2; exact (Option.some.inj hc2).symm
           subst this
           exact Node.mv hr2 hI (fun b hb=>hh b (hF _ b hb).1 (fun hs=>hm (hd _ _ b hb (m2 b hs)))) hn2
  | _=>simp [Ab.dQ] at h
end
end Go.Ab
end

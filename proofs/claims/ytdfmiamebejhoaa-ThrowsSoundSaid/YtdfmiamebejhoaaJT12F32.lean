import Derived.Test.YtdfmiamebejhoaaJT12F182
set_option linter.all false
section
set_option maxRecDepth 10000
namespace Go.Ab
theorem geq0 {i:Nat}:pbin (.int .i64) .geq (I (i:Int)) (I 0)=some (B true):=by
 show some (TV.lit (.bool (decide ((i:Int) >= 0))))=_
 rw [decide_eq_true (by omega)]
theorem repF {n:Nat} (hn:n<=4294967296):RBools (some true) (.sl true 1 (List.replicate n [B false])) (List.replicate n false):=by
 refine .sl (by simp) ?_ (by simp; omega)
 clear hn
 induction n with
 | zero=>exact .nil
 | succ n ih=>exact .cons rfl ih
theorem sh {X:Nat->Prop} {n:Nat}:vz X (List.replicate n false):=fun k h=>by
 have:=List.eq_of_mem_replicate (EP h)
 cases this
end Go.Ab
namespace Go.Ab.T12
open Go Go.Ab Go.Proofs
section
variable {q:Option Bool} {b w:TV} {m:DMod} (hb:RL q 3 (RFunc q) b m.funcs) (hM:bB m) {F:List Bool} (hl:F.length=m.funcs.length) (hw:RBools (some true) w F)
include hb hM hl hw
theorem outBlk {n:Nat} {u:DFunc} {bl:TV} {g:Bool} {y:TV} (hu:m.funcs[n]? = some u) (hbl:RL q 14 (RBlock q) bl u.blocks) (hF:F[n]? = some false)
  (miss:¬ ma xT F u->aa prog 8 (f8_1 (B g) b (I m.funcs.length) (I (n + 1:Nat)) b w) y)
  (hit:∀ w',bj [] w n 0 [B true]=some w'->ma xT F u->aa prog 8 (f8_1 (B true) b (I m.funcs.length) (I (n + 1:Nat)) b w') y) :
  ∀ (d i:Nat),i + d=u.blocks.length->(∀ j,j < i->∀ c,u.blocks[j]? = some c->¬ xT F u c) ->
   aa prog 8 (f8_2 bl (I u.blocks.length) (I i) (I u.params) (I u.regs) bl b w (B g) (I n) b (I m.funcs.length) (I n) (B true)) y:=by
 have hN:=hM.1
 have hbnd:=hbl.bnd
 have hlt:=(EG.1 hF).1
 obtain ⟨e0,he0,hR0⟩:=hw.pel hF
 cases hR0
 obtain ⟨w1,hs1,hw1⟩:=hw.mz he0 (d:=0) (ys:=[B true]) (a:=true) rfl
 have ann:aj (I (n:Int))=some n:=bh (by omega)
 have hchk:(slSize w 1 && Nat.blt n F.length)=true:=by rw [hw.slSize]; simpa using hlt
 have hinc:pbin (.int .i64) .add (I (n:Int)) (I (1:Int))=some (I ((n + 1:Nat):Int)):=inc hlt (by omega)
 intro d
 induction d with
 | zero =>
  intro i hi hno
  have hi:i=u.blocks.length:=by omega
  subst hi
  unfold f8_2
  refine aa.tv rfl (aa.ite bg nofun fun _=>aa.tv (v:=B false) rfl (aa.ite (v:=true) rfl (fun _=>aa.ite (v:=false) rfl nofun fun _=>?_) nofun))
  refine aa.tv hinc (f8_1_J (miss ?_))
  rintro ⟨c,hc,h⟩
  obtain ⟨j,hj,rfl⟩:=List.mem_iff_getElem.1 hc
  exact hno j hj _ (EH hj) h
 | succ d ih =>
  intro i hi hno
  have hil:i < u.blocks.length:=by omega
  have hc:=EH hil
  generalize u.blocks[i]=c at hc
  have hnm:=rE hM hu hc
  rw [<- hl] at hnm
  obtain ⟨e,he,hR⟩:=hbl.idx (k:=.i64) hc
  have hR':=hR
  obtain ⟨c2,c5,c10,rfl,h2,hd,h5,h10,hok⟩:=hR'
  have hwz:=hw.frz (S:=RB1) fun _ _ h=>h.frz
  have hcl:=sF hwz hR hnm
  have hiv:=mI hwz hR hnm
  have yes:xT F u c->aa prog 8 (f8_1 (B true) b (I m.funcs.length) (I (n + 1:Nat)) b w1) y:=fun h=>hit w1 hs1 ⟨c,EP hc,h⟩
  have no:¬ xT F u c->aa prog 8 (f8_2 bl (I u.blocks.length) (I (i + 1:Nat)) (I u.params) (I u.regs) bl b w (B g) (I n) b (I m.funcs.length) (I n) (B true)) y:=fun h =>
   ih (i + 1) (by omega) fun j hj c' hc' h'=>by
    by_cases e:j=i
    ·subst e; rw [hc] at hc'; cases hc'; exact h h'
    ·exact hno j (by omega) c' hc' h'
  have three : ∀ z : Bool, (z = true ↔ c.fin.kind = 5 ∨ c.fin.kind = 6) →
    aa prog 8 (f8_3 (B z) w (I u.params) (I u.regs) bl (B c.landing) (I c.pad.dst) c2 (B c.pad.all) (B c.pad.cleanup) c5 (I c.fin.kind) (I c.fin.a) (I c.fin.dst) (I c.fin.f) c10 (I c.fin.to) (I c.fin.els) (I c.fin.pad) b (I u.params) (I u.regs) bl (B g) (I n) b (I m.funcs.length) (I n) (B true) bl (I i) (I u.blocks.length) (I i)) y:=by
   intro z hz
   unfold f8_3
   refine aa.ite rfl (fun h=>?_) fun h=>?_
   ·have hz1:z=true:=h
    refine aa.tv geq0 (aa.ite (v:=true) rfl (fun _=>aa.ite (v:=true) rfl (fun _=>?_) nofun) nofun)
    exact aa.nat hw.slLen (aa.nat ann (aa.chk hchk (aa.tvs he0 (aa.chk rfl (aa.tv hs1 (aa.tv hinc (f8_1_J (yes (.inl (hz.1 hz1))))))))))
   ·have hz0:¬ (c.fin.kind=5\/c.fin.kind=6):=fun h'=>by rw [hz.2 h'] at h; cases h
    refine aa.call hcl (aa.chk rfl (aa.ite pt (fun h=>?_) fun h=>?_))
    ·refine aa.tv geq0 (aa.ite (v:=true) rfl (fun _=>aa.ite (v:=true) rfl (fun _=>?_) nofun) nofun)
     exact aa.nat hw.slLen (aa.nat ann (aa.chk hchk (aa.tvs he0 (aa.chk rfl (aa.tv hs1 (aa.tv hinc (f8_1_J (yes (.inr (.inl (bu.1 h)))))))))))
    ·have hc0:¬ kQ F c:=fun h'=>by rw [cg h'] at h; cases h
     refine aa.call hiv (aa.chk rfl (aa.ite pt (fun h=>?_) fun h=>?_))
     ·have hi1:=bu.1 h
      obtain ⟨_,h0,pb,hpb⟩:=hnm.2 hi1.1
      obtain ⟨e2,he2,hR2⟩:=hbl.bv (k:=.i64) h0 hpb
      obtain ⟨p2,p5,p10,rfl,_⟩:=hR2
      refine aa.tvs he2 (aa.chk rfl (aa.tv rfl (aa.ite rfl (fun h=>?_) fun h=>?_)))
      ·have ha:pb.pad.all=false:=by simpa using h
       refine aa.tv geq0 (aa.ite (v:=true) rfl (fun _=>aa.ite (v:=true) rfl (fun _=>?_) nofun) nofun)
       exact aa.nat hw.slLen (aa.nat ann (aa.chk hchk (aa.tvs he0 (aa.chk rfl (aa.tv hs1 (aa.tv hinc (f8_1_J (yes (.inr (.inr ⟨hi1,pb,hpb,ha⟩))))))))))
      ·have ha:pb.pad.all=true:=by simpa using h
       refine aa.tv (inc hil hbnd) (f8_2_J (no ?_))
       rintro (h | h | ⟨_,pb',hp',ha'⟩)
       ·exact hz0 h
       ·exact hc0 h
       ·rw [hpb] at hp'; cases hp'; rw [ha] at ha'; cases ha'
     ·have hi0:¬ A9 F c:=fun h'=>by rw [cg h'] at h; cases h
      refine aa.tv (inc hil hbnd) (f8_2_J (no ?_))
      rintro (h | h | ⟨h,_⟩)
      ·exact hz0 h
      ·exact hc0 h
      ·exact hi0 h
  unfold f8_2
  refine aa.tv rfl (aa.ite (a7 hil) (fun _=>?_) nofun)
  refine aa.tvs he (aa.chk rfl (aa.tv rfl (aa.ite kF (fun h=>?_) fun h=>?_)))
  ·have h5':c.fin.kind=5:=by simpa using h
   exact f8_3_J (three true ⟨fun _=>.inl h5',fun _=>rfl⟩)
  ·have h5':¬ c.fin.kind=5:=by simpa using h
   exact aa.tv (v:=B (c.fin.kind == 6)) rfl (f8_3_J (three _ ⟨fun h=>.inr (by simpa using h),fun h=>by simpa using h.resolve_left h5'⟩))
end
theorem rOut {q:Option Bool} {e:List TV} {m:DMod} (he:RMod q e m) (hM:bB m):∃ y F,ap prog 8 [.agg e] y/\RBools (some true) y F/\F.length=m.funcs.length/\∀ k:Nat,F[k]? = some true ↔ Thr m k:=by
 have hsh:=r8 he
 obtain ⟨b,rfl,hb⟩:=he
 have hN:=hM.1
 obtain ⟨y,F',h1,h2,h3,h4⟩:=mX (AQ m) (A:=prog) (f:=8) (P0:=fun g w=>f8_0 (B g) b w) (P1:=fun g n w=>f8_1 (B g) b (I m.funcs.length) (I n) b w)
  (fun w y h => by
   unfold f8_0
   exact aa.ite (v:=true) rfl (fun _=>aa.tv hb.len (f8_1_J h)) nofun)
  (fun w F h => by
   unfold f8_0
   exact aa.ite (v:=false) rfl nofun fun _=>aa.chk (h.own fun _ _ h=>by cases h; rfl) aa.ret)
  (fun g w y h => by
   unfold f8_1
   exact aa.tv rfl (aa.ite bg nofun fun _=>f8_0_J h))
  (fun g n w F c u y hl hw hc hu miss hit => by
   have hlt:=(EG.1 hu).1
   obtain ⟨e1,he1,hR1⟩:=hb.idx (k:=.i64) hu
   obtain ⟨bl,rfl,hbl,_⟩:=hR1
   obtain ⟨e2,he2,hR2⟩:=hw.pel hc
   cases hR2
   unfold f8_1
   refine aa.tv rfl (aa.ite (a7 hlt) (fun _=>?_) nofun)
   refine aa.tvs he1 (aa.chk rfl (aa.nat hw.slLen (aa.nat (bh (by omega)) (aa.chk (by rw [hw.slSize]; simpa [hl] using hlt) (aa.tvs he2 (aa.chk rfl (aa.tv rfl ?_)))))))
   cases c with
   | true=>exact aa.ite (v:=false) rfl nofun fun _=>aa.tv (inc hlt (by omega)) (f8_1_J (miss (.inl rfl)))
   | false=>exact aa.ite (v:=true) rfl (fun _=>aa.tv hbl.len (f8_2_J (outBlk hb hM hl hw hu hbl hc (fun h=>miss (.inr h)) (fun w' hs h=>hit w' hs rfl h) u.blocks.length 0 (by omega) fun j hj=>by omega))) nofun)
  m.funcs.length _ _ (by simp) (by simp) sh (repF (n:=m.funcs.length) (by omega))
 refine ⟨y,F',?_,h2,h3,h4⟩
 have han:aj (I (m.funcs.length:Int))=some m.funcs.length:=bh (by omega)
 refine ap.of (f8_MR _) ?_
 unfold f8_M
 refine aa.chk rfl (aa.chk rfl (aa.call hsh (aa.chk rfl (aa.tv rfl (aa.ite rfl (fun h=>?_) fun h=>?_)))))
 ·rw [cg hM] at h; cases h
 ·exact aa.tv hb.len (aa.nat han (aa.nat han (aa.chk (by simp; omega) (f8_0_J h1))))
end Go.Ab.T12
end
section
set_option maxRecDepth 10000
namespace Go.Ab
section
variable {s:Nat} {α:Type} {R:List TV->α->Prop} {y:TV} {l:List α}
end
end Go.Ab
namespace Go.Ab.T12
open Go Go.Ab Go.Proofs
theorem vn {v:TV} (h:v.isSl=true):ab zSl [v] 0=true:=by
 show (v.isSl && true)=true
 rw [h]; rfl
end Go.Ab.T12
end
section
set_option maxRecDepth 10000
namespace Go.Ab
theorem CN {α:Type} {l:List α} {j:Nat} {a:α} (h:l[j]? = some a):l.take (j + 1)=l.take j ++ [a]:=by
 rw [List.take_add_one,h]; rfl
end Go.Ab
namespace Go.Ab.T12
open Go Go.Ab Go.Proofs
section
variable {q:Option Bool} {b:TV} {bs:List DBlock} (hb:RL q 14 (RBlock q) b bs)
include hb
end
theorem r73 {q:Option Bool} {x:TV} {l:List Int} (hx:RInts q x l) (n:Int):∃ k:Int,ap prog 53 [x,I n] (I k)/\(0<=k ↔ n ∈ l):=by
 have hbn:=hx.bnd
 have loop:∀ (d j:Nat),j + d=l.length->n ∉ l.take j->∃ k:Int,aa prog 53 (f53_0 x (I n) (I l.length) (I j)) (I k)/\(0<=k ↔ n ∈ l):=by
  intro d
  induction d with
  | zero =>
   intro j hj hn
   have hj:j=l.length:=by omega
   subst hj
   rw [List.take_length] at hn
   refine ⟨-1,?_,⟨fun h=>by omega,fun h=>absurd h hn⟩⟩
   unfold f53_0
   exact aa.tv rfl (aa.ite bg nofun fun _=>aa.ret)
  | succ d ih =>
   intro j hj hn
   have hjl:j < l.length:=by omega
   obtain ⟨a,haa⟩:∃ a,a=l[j]:=⟨_,rfl⟩
   have hla:l[j]? = some a:=by rw [haa]; exact EH hjl
   obtain ⟨e,he,rfl,hea⟩:=hx.idx (k:=.i64) hla
   by_cases ha:n=a
   ·refine ⟨(j:Int),?_,⟨fun _=>by rw [ha]; exact EP hla,fun _=>by omega⟩⟩
    unfold f53_0
    exact aa.tv rfl (aa.ite (a7 hjl) (fun _=>aa.tvs he (aa.chk rfl (aa.tv rfl (aa.ite (v:=true) (by simp [asBool,ha]) (fun _=>aa.ret) nofun)))) nofun)
   ·obtain ⟨k,hk,hr⟩:=ih (j + 1) (by omega) (by rw [CN hla]; simp [hn,ha])
    refine ⟨k,?_,hr⟩
    unfold f53_0
    exact aa.tv rfl (aa.ite (a7 hjl) (fun _=>aa.tvs he (aa.chk rfl (aa.tv rfl (aa.ite (v:=false) (by simp [asBool,ha]) nofun fun _=>aa.tv (inc hjl hbn) (f53_0_J hk))))) nofun)
 obtain ⟨k,hk,hr⟩:=loop l.length 0 (by omega) (by simp)
 refine ⟨k,?_,hr⟩
 refine ap.of (f53_MR _ _) ?_
 unfold f53_M
 exact aa.tv hx.len (f53_0_J hk)
theorem r74 {q:Option Bool} {x:TV} {l:List Int} (hx:RInts q x l) (n:Int):ap prog 37 [x,I n] (B (decide (n ∈ l))):=by
 obtain ⟨k,hk,hr⟩:=r73 hx n
 refine ap.of (f37_MR _ _) ?_
 unfold f37_M
 refine aa.call hk (aa.chk rfl (aa.tv rfl (dC.2 ?_)))
 simp [<- hr]
end Go.Ab.T12
end
section
set_option maxRecDepth 10000
namespace Go.Ab.T12
open Go Go.Ab Go.Proofs
section
variable {q:Option Bool} {b w:TV} {m:DMod} (hb:RL q 3 (RFunc q) b m.funcs) (hM:bB m) {F:List Bool} (hl:F.length=m.funcs.length) (hw:RBools (some true) w F)
include hb hM hl hw
theorem CU {n:Nat} {u:DFunc} {bl:TV} {g:Bool} {y:TV} (hu:m.funcs[n]? = some u) (hbl:RL q 14 (RBlock q) bl u.blocks) (hF:F[n]? = some false)
  (miss:¬ ma (sQ fun o=>o ∈ ([12,13]:List Int)) F u->aa prog 9 (f9_1 (B g) b (I m.funcs.length) (I (n + 1:Nat)) b w (.sl true 1 [[I 12],[I 13]])) y)
  (hit:∀ w',bj [] w n 0 [B true]=some w'->ma (sQ fun o=>o ∈ ([12,13]:List Int)) F u->aa prog 9 (f9_1 (B true) b (I m.funcs.length) (I (n + 1:Nat)) b w' (.sl true 1 [[I 12],[I 13]])) y) :
  ∀ (d i:Nat),i + d=u.blocks.length->(∀ j,j < i->∀ c,u.blocks[j]? = some c->¬ sQ (fun o=>o ∈ ([12,13]:List Int)) F u c) ->
   aa prog 9 (f9_2 bl (I u.blocks.length) (I i) (I u.params) (I u.regs) bl b w (.sl true 1 [[I 12],[I 13]]) (B g) (I n) b (I m.funcs.length) (I n) (B true)) y:=by
 have hN:=hM.1
 have hbnd:=hbl.bnd
 have hlt:=(EG.1 hF).1
 obtain ⟨e0,he0,hR0⟩:=hw.pel hF
 cases hR0
 obtain ⟨w1,hs1,hw1⟩:=hw.mz he0 (d:=0) (ys:=[B true]) (a:=true) rfl
 have ann:aj (I (n:Int))=some n:=bh (by omega)
 have hchk:(slSize w 1 && Nat.blt n F.length)=true:=by rw [hw.slSize]; simpa using hlt
 have hinc:pbin (.int .i64) .add (I (n:Int)) (I (1:Int))=some (I ((n + 1:Nat):Int)):=inc hlt (by omega)
 intro d
 induction d with
 | zero =>
  intro i hi hno
  have hi:i=u.blocks.length:=by omega
  subst hi
  unfold f9_2
  refine aa.tv rfl (aa.ite bg nofun fun _=>aa.tv (v:=B false) rfl (aa.ite (v:=true) rfl (fun _=>aa.ite (v:=false) rfl nofun fun _=>?_) nofun))
  refine aa.tv hinc (f9_1_J (miss ?_))
  rintro ⟨c,hc,h⟩
  obtain ⟨j,hj,rfl⟩:=List.mem_iff_getElem.1 hc
  exact hno j hj _ (EH hj) h
 | succ d ih =>
  intro i hi hno
  have hil:i < u.blocks.length:=by omega
  have hc:=EH hil
  generalize u.blocks[i]=c at hc
  have hnm:=rE hM hu hc
  rw [<- hl] at hnm
  obtain ⟨e,he,hR⟩:=hbl.idx (k:=.i64) hc
  have hR':=hR
  obtain ⟨c2,c5,c10,rfl,h2,hd,h5,h10,hok⟩:=hR'
  have hbi:=h5.bnd
  have hwz:=hw.frz (S:=RB1) fun _ _ h=>h.frz
  have hcl:=sF hwz hR hnm
  have hiv:=mI hwz hR hnm
  have yes:sQ (fun o=>o ∈ ([12,13]:List Int)) F u c->aa prog 9 (f9_1 (B true) b (I m.funcs.length) (I (n + 1:Nat)) b w1 (.sl true 1 [[I 12],[I 13]])) y:=fun h=>hit w1 hs1 ⟨c,EP hc,h⟩
  have no:¬ sQ (fun o=>o ∈ ([12,13]:List Int)) F u c->aa prog 9 (f9_2 bl (I u.blocks.length) (I (i + 1:Nat)) (I u.params) (I u.regs) bl b w (.sl true 1 [[I 12],[I 13]]) (B g) (I n) b (I m.funcs.length) (I n) (B true)) y:=fun h =>
   ih (i + 1) (by omega) fun j hj c' hc' h'=>by
    by_cases e:j=i
    ·subst e; rw [hc] at hc'; cases hc'; exact h h'
    ·exact hno j (by omega) c' hc' h'
  have three:∀ (d k:Nat),k + d=c.ins.length->(∀ j,j < k->∀ x,c.ins[j]? = some x->¬ x.op ∈ ([12,13]:List Int)) ->
    aa prog 9 (f9_3 c5 (I c.ins.length) (I k) b (I u.params) (I u.regs) bl w (B c.landing) (I c.pad.dst) c2 (B c.pad.all) (B c.pad.cleanup) c5 (I c.fin.kind) (I c.fin.a) (I c.fin.dst) (I c.fin.f) c10 (I c.fin.to) (I c.fin.els) (I c.fin.pad) (.sl true 1 [[I 12],[I 13]]) (B g) (I n) b (I m.funcs.length) (I n) (B true) bl (I i) (I u.blocks.length) (I i)) y:=by
   intro d
   induction d with
   | zero =>
    intro k hk hnone
    have hk:k=c.ins.length:=by omega
    subst hk
    have hi0:¬ ∃ x ∈ c.ins,x.op ∈ ([12,13]:List Int):=by
     rintro ⟨x,hx,h⟩
     obtain ⟨j,hj,rfl⟩:=List.mem_iff_getElem.1 hx
     exact hnone j hj _ (EH hj) h
    unfold f9_3
    refine aa.tv rfl (aa.ite bg nofun fun _=>aa.tv (v:=B false) rfl (aa.ite (v:=false) rfl nofun fun _=>?_))
    refine aa.call hcl (aa.chk rfl (aa.ite pt (fun h=>?_) fun h=>?_))
    ·refine aa.tv geq0 (aa.ite (v:=true) rfl (fun _=>aa.ite (v:=true) rfl (fun _=>?_) nofun) nofun)
     exact aa.nat hw.slLen (aa.nat ann (aa.chk hchk (aa.tvs he0 (aa.chk rfl (aa.tv hs1 (aa.tv hinc (f9_1_J (yes (.inr (.inl (bu.1 h)))))))))))
    ·have hc0:¬ kQ F c:=fun h'=>by rw [cg h'] at h; cases h
     refine aa.call hiv (aa.chk rfl (aa.ite pt (fun h=>?_) fun h=>?_))
     ·refine aa.tv geq0 (aa.ite (v:=true) rfl (fun _=>aa.ite (v:=true) rfl (fun _=>?_) nofun) nofun)
      exact aa.nat hw.slLen (aa.nat ann (aa.chk hchk (aa.tvs he0 (aa.chk rfl (aa.tv hs1 (aa.tv hinc (f9_1_J (yes (.inr (.inr (bu.1 h)))))))))))
     ·have hv0:¬ A9 F c:=fun h'=>by rw [cg h'] at h; cases h
      refine aa.tv (inc hil hbnd) (f9_2_J (no ?_))
      rintro (h | h | h)
      ·exact hi0 h
      ·exact hc0 h
      ·exact hv0 h
   | succ d ih2 =>
    intro k hk hnone
    have hkl:k < c.ins.length:=by omega
    have hx:=EH hkl
    generalize c.ins[k]=x at hx
    obtain ⟨e2,he2,hR2⟩:=h5.idx (k:=.i64) hx
    obtain ⟨g2,rfl,_⟩:=hR2
    have hcon:=r74 (q:=some false) (x:=frz (.sl true 1 [[I 12],[I 13]])) (l:=([12,13]:List Int)) (.sl (fun _ h=>Option.some.inj h) (.cons ⟨rfl,by constructor <;> decide⟩ (.cons ⟨rfl,by constructor <;> decide⟩ .nil)) (by decide)) x.op
    unfold f9_3
    refine aa.tv rfl (aa.ite (a7 hkl) (fun _=>?_) nofun)
    refine aa.tvs he2 (aa.chk rfl (aa.call hcon (aa.chk rfl (aa.ite rfl (fun h=>?_) fun h=>?_))))
    ·have hm:x.op ∈ ([12,13]:List Int):=of_decide_eq_true h
     refine aa.tv geq0 (aa.ite (v:=true) rfl (fun _=>?_) nofun)
     refine aa.tv geq0 (aa.ite (v:=true) rfl (fun _=>aa.ite (v:=true) rfl (fun _=>?_) nofun) nofun)
     exact aa.nat hw.slLen (aa.nat ann (aa.chk hchk (aa.tvs he0 (aa.chk rfl (aa.tv hs1 (aa.tv hinc (f9_1_J (yes (.inl ⟨x,EP hx,hm⟩)))))))))
    ·have hm:¬ x.op ∈ ([12,13]:List Int):=of_decide_eq_false h
     exact aa.tv (inc hkl hbi) (f9_3_J (ih2 (k + 1) (by omega) fun j hj x' hx' h'=>by
      by_cases e:j=k
      ·subst e; rw [hx] at hx'; cases hx'; exact hm h'
      ·exact hnone j (by omega) x' hx' h'))
  unfold f9_2
  refine aa.tv rfl (aa.ite (a7 hil) (fun _=>?_) nofun)
  exact aa.tvs he (aa.chk rfl (aa.tv h5.len (f9_3_J (three c.ins.length 0 (by omega) fun j hj=>by omega))))
end
theorem rTells {q:Option Bool} {e:List TV} {m:DMod} (he:RMod q e m) (hM:bB m):∃ y F,ap prog 9 [.agg e] y/\RBools (some true) y F/\F.length=m.funcs.length/\∀ k:Nat,F[k]? = some true ↔ Doe m (fun o=>o ∈ ([12,13]:List Int)) k:=by
 have hsh:=r8 he
 obtain ⟨b,rfl,hb⟩:=he
 have hN:=hM.1
 obtain ⟨y,F',h1,h2,h3,h4⟩:=mX (tF m fun o=>o ∈ ([12,13]:List Int)) (A:=prog) (f:=9) (P0:=fun g w=>f9_0 (B g) b w (.sl true 1 [[I 12],[I 13]])) (P1:=fun g n w=>f9_1 (B g) b (I m.funcs.length) (I n) b w (.sl true 1 [[I 12],[I 13]]))
  (fun w y h => by
   unfold f9_0
   exact aa.ite (v:=true) rfl (fun _=>aa.tv hb.len (f9_1_J h)) nofun)
  (fun w F h => by
   unfold f9_0
   exact aa.ite (v:=false) rfl nofun fun _=>aa.chk (h.own fun _ _ h=>by cases h; rfl) aa.ret)
  (fun g w y h => by
   unfold f9_1
   exact aa.tv rfl (aa.ite bg nofun fun _=>f9_0_J h))
  (fun g n w F c u y hl hw hc hu miss hit => by
   have hlt:=(EG.1 hu).1
   obtain ⟨e1,he1,hR1⟩:=hb.idx (k:=.i64) hu
   obtain ⟨bl,rfl,hbl,_⟩:=hR1
   obtain ⟨e2,he2,hR2⟩:=hw.pel hc
   cases hR2
   unfold f9_1
   refine aa.tv rfl (aa.ite (a7 hlt) (fun _=>?_) nofun)
   refine aa.tvs he1 (aa.chk rfl (aa.nat hw.slLen (aa.nat (bh (by omega)) (aa.chk (by rw [hw.slSize]; simpa [hl] using hlt) (aa.tvs he2 (aa.chk rfl (aa.tv rfl ?_)))))))
   cases c with
   | true=>exact aa.ite (v:=false) rfl nofun fun _=>aa.tv (inc hlt (by omega)) (f9_1_J (miss (.inl rfl)))
   | false=>exact aa.ite (v:=true) rfl (fun _=>aa.tv hbl.len (f9_2_J (CU hb hM hl hw hu hbl hc (fun h=>miss (.inr h)) (fun w' hs h=>hit w' hs rfl h) u.blocks.length 0 (by omega) fun j hj=>by omega))) nofun)
  m.funcs.length _ _ (by simp) (by simp) sh (repF (n:=m.funcs.length) (by omega))
 refine ⟨y,F',?_,h2,h3,h4⟩
 have han:aj (I (m.funcs.length:Int))=some m.funcs.length:=bh (by omega)
 refine ap.of (f9_MR _) ?_
 unfold f9_M
 refine aa.chk rfl (aa.chk (by rw [uP]; rfl) (aa.call hsh (aa.chk rfl (aa.tv rfl (aa.ite rfl (fun h=>?_) fun h=>?_)))))
 ·rw [cg hM] at h; cases h
 ·exact aa.tv hb.len (aa.nat han (aa.nat han (aa.chk (by simp; omega) (f9_0_J h1))))
section
variable {q:Option Bool} {b w:TV} {m:DMod} (hb:RL q 3 (RFunc q) b m.funcs) (hM:bB m) {F:List Bool} (hl:F.length=m.funcs.length) (hw:RBools (some true) w F)
include hb hM hl hw
theorem AA {n:Nat} {u:DFunc} {bl:TV} {g:Bool} {y:TV} (hu:m.funcs[n]? = some u) (hbl:RL q 14 (RBlock q) bl u.blocks) (hF:F[n]? = some false)
  (miss:¬ ma (sQ fun o=>o ∈ ([10]:List Int)) F u->aa prog 10 (f10_1 (B g) b (I m.funcs.length) (I (n + 1:Nat)) b w (.sl true 1 [[I 10]])) y)
  (hit:∀ w',bj [] w n 0 [B true]=some w'->ma (sQ fun o=>o ∈ ([10]:List Int)) F u->aa prog 10 (f10_1 (B true) b (I m.funcs.length) (I (n + 1:Nat)) b w' (.sl true 1 [[I 10]])) y) :
  ∀ (d i:Nat),i + d=u.blocks.length->(∀ j,j < i->∀ c,u.blocks[j]? = some c->¬ sQ (fun o=>o ∈ ([10]:List Int)) F u c) ->
   aa prog 10 (f10_2 bl (I u.blocks.length) (I i) (I u.params) (I u.regs) bl b w (.sl true 1 [[I 10]]) (B g) (I n) b (I m.funcs.length) (I n) (B true)) y:=by
 have hN:=hM.1
 have hbnd:=hbl.bnd
 have hlt:=(EG.1 hF).1
 obtain ⟨e0,he0,hR0⟩:=hw.pel hF
 cases hR0
 obtain ⟨w1,hs1,hw1⟩:=hw.mz he0 (d:=0) (ys:=[B true]) (a:=true) rfl
 have ann:aj (I (n:Int))=some n:=bh (by omega)
 have hchk:(slSize w 1 && Nat.blt n F.length)=true:=by rw [hw.slSize]; simpa using hlt
 have hinc:pbin (.int .i64) .add (I (n:Int)) (I (1:Int))=some (I ((n + 1:Nat):Int)):=inc hlt (by omega)
 intro d
 induction d with
 | zero =>
  intro i hi hno
  have hi:i=u.blocks.length:=by omega
  subst hi
  unfold f10_2
  refine aa.tv rfl (aa.ite bg nofun fun _=>aa.tv (v:=B false) rfl (aa.ite (v:=true) rfl (fun _=>aa.ite (v:=false) rfl nofun fun _=>?_) nofun))
  refine aa.tv hinc (f10_1_J (miss ?_))
  rintro ⟨c,hc,h⟩
  obtain ⟨j,hj,rfl⟩:=List.mem_iff_getElem.1 hc
  exact hno j hj _ (EH hj) h
 | succ d ih =>
  intro i hi hno
  have hil:i < u.blocks.length:=by omega
  have hc:=EH hil
  generalize u.blocks[i]=c at hc
  have hnm:=rE hM hu hc
  rw [<- hl] at hnm
  obtain ⟨e,he,hR⟩:=hbl.idx (k:=.i64) hc
  have hR':=hR
  obtain ⟨c2,c5,c10,rfl,h2,hd,h5,h10,hok⟩:=hR'
  have hbi:=h5.bnd
  have hwz:=hw.frz (S:=RB1) fun _ _ h=>h.frz
  have hcl:=sF hwz hR hnm
  have hiv:=mI hwz hR hnm
  have yes:sQ (fun o=>o ∈ ([10]:List Int)) F u c->aa prog 10 (f10_1 (B true) b (I m.funcs.length) (I (n + 1:Nat)) b w1 (.sl true 1 [[I 10]])) y:=fun h=>hit w1 hs1 ⟨c,EP hc,h⟩
  have no:¬ sQ (fun o=>o ∈ ([10]:List Int)) F u c->aa prog 10 (f10_2 bl (I u.blocks.length) (I (i + 1:Nat)) (I u.params) (I u.regs) bl b w (.sl true 1 [[I 10]]) (B g) (I n) b (I m.funcs.length) (I n) (B true)) y:=fun h =>
   ih (i + 1) (by omega) fun j hj c' hc' h'=>by
    by_cases e:j=i
    ·subst e; rw [hc] at hc'; cases hc'; exact h h'
    ·exact hno j (by omega) c' hc' h'
  have three:∀ (d k:Nat),k + d=c.ins.length->(∀ j,j < k->∀ x,c.ins[j]? = some x->¬ x.op ∈ ([10]:List Int)) ->
    aa prog 10 (f10_3 c5 (I c.ins.length) (I k) b (I u.params) (I u.regs) bl w (B c.landing) (I c.pad.dst) c2 (B c.pad.all) (B c.pad.cleanup) c5 (I c.fin.kind) (I c.fin.a) (I c.fin.dst) (I c.fin.f) c10 (I c.fin.to) (I c.fin.els) (I c.fin.pad) (.sl true 1 [[I 10]]) (B g) (I n) b (I m.funcs.length) (I n) (B true) bl (I i) (I u.blocks.length) (I i)) y:=by
   intro d
   induction d with
   | zero =>
    intro k hk hnone
    have hk:k=c.ins.length:=by omega
    subst hk
    have hi0:¬ ∃ x ∈ c.ins,x.op ∈ ([10]:List Int):=by
     rintro ⟨x,hx,h⟩
     obtain ⟨j,hj,rfl⟩:=List.mem_iff_getElem.1 hx
     exact hnone j hj _ (EH hj) h
    unfold f10_3
    refine aa.tv rfl (aa.ite bg nofun fun _=>aa.tv (v:=B false) rfl (aa.ite (v:=false) rfl nofun fun _=>?_))
    refine aa.call hcl (aa.chk rfl (aa.ite pt (fun h=>?_) fun h=>?_))
    ·refine aa.tv geq0 (aa.ite (v:=true) rfl (fun _=>aa.ite (v:=true) rfl (fun _=>?_) nofun) nofun)
     exact aa.nat hw.slLen (aa.nat ann (aa.chk hchk (aa.tvs he0 (aa.chk rfl (aa.tv hs1 (aa.tv hinc (f10_1_J (yes (.inr (.inl (bu.1 h)))))))))))
    ·have hc0:¬ kQ F c:=fun h'=>by rw [cg h'] at h; cases h
     refine aa.call hiv (aa.chk rfl (aa.ite pt (fun h=>?_) fun h=>?_))
     ·refine aa.tv geq0 (aa.ite (v:=true) rfl (fun _=>aa.ite (v:=true) rfl (fun _=>?_) nofun) nofun)
      exact aa.nat hw.slLen (aa.nat ann (aa.chk hchk (aa.tvs he0 (aa.chk rfl (aa.tv hs1 (aa.tv hinc (f10_1_J (yes (.inr (.inr (bu.1 h)))))))))))
     ·have hv0:¬ A9 F c:=fun h'=>by rw [cg h'] at h; cases h
      refine aa.tv (inc hil hbnd) (f10_2_J (no ?_))
      rintro (h | h | h)
      ·exact hi0 h
      ·exact hc0 h
      ·exact hv0 h
   | succ d ih2 =>
    intro k hk hnone
    have hkl:k < c.ins.length:=by omega
    have hx:=EH hkl
    generalize c.ins[k]=x at hx
    obtain ⟨e2,he2,hR2⟩:=h5.idx (k:=.i64) hx
    obtain ⟨g2,rfl,_⟩:=hR2
    have hcon:=r74 (q:=some false) (x:=frz (.sl true 1 [[I 10]])) (l:=([10]:List Int)) (.sl (fun _ h=>Option.some.inj h) (.cons ⟨rfl,by constructor <;> decide⟩ .nil) (by decide)) x.op
    unfold f10_3
    refine aa.tv rfl (aa.ite (a7 hkl) (fun _=>?_) nofun)
    refine aa.tvs he2 (aa.chk rfl (aa.call hcon (aa.chk rfl (aa.ite rfl (fun h=>?_) fun h=>?_))))
    ·have hm:x.op ∈ ([10]:List Int):=of_decide_eq_true h
     refine aa.tv geq0 (aa.ite (v:=true) rfl (fun _=>?_) nofun)
     refine aa.tv geq0 (aa.ite (v:=true) rfl (fun _=>aa.ite (v:=true) rfl (fun _=>?_) nofun) nofun)
     exact aa.nat hw.slLen (aa.nat ann (aa.chk hchk (aa.tvs he0 (aa.chk rfl (aa.tv hs1 (aa.tv hinc (f10_1_J (yes (.inl ⟨x,EP hx,hm⟩)))))))))
    ·have hm:¬ x.op ∈ ([10]:List Int):=of_decide_eq_false h
     exact aa.tv (inc hkl hbi) (f10_3_J (ih2 (k + 1) (by omega) fun j hj x' hx' h'=>by
      by_cases e:j=k
      ·subst e; rw [hx] at hx'; cases hx'; exact hm h'
      ·exact hnone j (by omega) x' hx' h'))
  unfold f10_2
  refine aa.tv rfl (aa.ite (a7 hil) (fun _=>?_) nofun)
  exact aa.tvs he (aa.chk rfl (aa.tv h5.len (f10_3_J (three c.ins.length 0 (by omega) fun j hj=>by omega))))
end
theorem D6 {q:Option Bool} {e:List TV} {m:DMod} (he:RMod q e m) (hM:bB m):∃ y F,ap prog 10 [.agg e] y/\RBools (some true) y F/\F.length=m.funcs.length/\∀ k:Nat,F[k]? = some true ↔ Doe m (fun o=>o ∈ ([10]:List Int)) k:=by
 have hsh:=r8 he
 obtain ⟨b,rfl,hb⟩:=he
 have hN:=hM.1
 obtain ⟨y,F',h1,h2,h3,h4⟩:=mX (tF m fun o=>o ∈ ([10]:List Int)) (A:=prog) (f:=10) (P0:=fun g w=>f10_0 (B g) b w (.sl true 1 [[I 10]])) (P1:=fun g n w=>f10_1 (B g) b (I m.funcs.length) (I n) b w (.sl true 1 [[I 10]]))
  (fun w y h => by
   unfold f10_0
   exact aa.ite (v:=true) rfl (fun _=>aa.tv hb.len (f10_1_J h)) nofun)
  (fun w F h => by
   unfold f10_0
   exact aa.ite (v:=false) rfl nofun fun _=>aa.chk (h.own fun _ _ h=>by cases h; rfl) aa.ret)
  (fun g w y h => by
   unfold f10_1
   exact aa.tv rfl (aa.ite bg nofun fun _=>f10_0_J h))
  (fun g n w F c u y hl hw hc hu miss hit => by
   have hlt:=(EG.1 hu).1
   obtain ⟨e1,he1,hR1⟩:=hb.idx (k:=.i64) hu
   obtain ⟨bl,rfl,hbl,_⟩:=hR1
   obtain ⟨e2,he2,hR2⟩:=hw.pel hc
   cases hR2
   unfold f10_1
   refine aa.tv rfl (aa.ite (a7 hlt) (fun _=>?_) nofun)
   refine aa.tvs he1 (aa.chk rfl (aa.nat hw.slLen (aa.nat (bh (by omega)) (aa.chk (by rw [hw.slSize]; simpa [hl] using hlt) (aa.tvs he2 (aa.chk rfl (aa.tv rfl ?_)))))))
   cases c with
   | true=>exact aa.ite (v:=false) rfl nofun fun _=>aa.tv (inc hlt (by omega)) (f10_1_J (miss (.inl rfl)))
   | false=>exact aa.ite (v:=true) rfl (fun _=>aa.tv hbl.len (f10_2_J (AA hb hM hl hw hu hbl hc (fun h=>miss (.inr h)) (fun w' hs h=>hit w' hs rfl h) u.blocks.length 0 (by omega) fun j hj=>by omega))) nofun)
  m.funcs.length _ _ (by simp) (by simp) sh (repF (n:=m.funcs.length) (by omega))
 refine ⟨y,F',?_,h2,h3,h4⟩
 have han:aj (I (m.funcs.length:Int))=some m.funcs.length:=bh (by omega)
 refine ap.of (f10_MR _) ?_
 unfold f10_M
 refine aa.chk rfl (aa.chk (by rw [uP]; rfl) (aa.call hsh (aa.chk rfl (aa.tv rfl (aa.ite rfl (fun h=>?_) fun h=>?_)))))
 ·rw [cg hM] at h; cases h
 ·exact aa.tv hb.len (aa.nat han (aa.nat han (aa.chk (by simp; omega) (f10_0_J h1))))
end Go.Ab.T12
end
section
set_option maxRecDepth 10000
namespace Go.Ab
theorem asNatZ {a:Int} (h0:0<=a) (h:a.toNat<=9223372036854775807):aj (I a)=some a.toNat:=by
 have:=bh h
 rwa [show ((a.toNat:Nat):Int)=a by omega] at this
theorem Bc {a b:Nat} (h:a < b):Nat.blt a b=true:=Nat.ble_eq_true_of_le h
end Go.Ab
namespace Go.Ab.T12
open Go Go.Ab Go.Proofs
section
variable {q:Option Bool} {b:TV} {m:DMod} (hb:RL q 3 (RFunc q) b m.funcs) (hM:bB m) {F0:List Bool} {n r:Nat} {u:DFunc} {bl:TV} (hu:m.funcs[n]? = some u) (hbl:RL q 14 (RBlock q) bl u.blocks)
 (K:∀ F' w',RBools (some true) w' F'->GI m (Thr m) F0 F' (ZnL m xT (n + 1))->∃ y,aa prog 13 (f13_1 (I r) (I (n + 1:Nat)) b w') y/\IsX m (Thr m) y)
include hb hM hu hbl K
end
end Go.Ab.T12
end
section
set_option maxRecDepth 100000
namespace Go.Ab
end Go.Ab
namespace Go.Ab.T12
open Go Go.Ab Go.Proofs
theorem B0:ap prog 6 [] (B true):=⟨100,by kernel_rfl⟩
end Go.Ab.T12
end
section
set_option maxRecDepth 10000
namespace Go.Ab
structure DFrame where
 f:Int
 block:Int
 at_:Int
 regs:List Int
 fly:Int
def DFrame.ok (x:DFrame):Prop:=inI x.f/\inI x.block/\inI x.at_/\inW x.fly
def RFrame (q:Option Bool) (e:List TV) (x:DFrame):Prop:=∃ g,e=[I x.f,I x.block,I x.at_,g,W x.fly]/\RWords q g x.regs/\x.ok
theorem RFrame.weak {q:Option Bool} {e:List TV} {x:DFrame} (h:RFrame q e x):RFrame none e x:=by
 obtain ⟨g,rfl,hg,ho⟩:=h
 exact ⟨g,rfl,hg.weak fun _ _ h=>h,ho⟩
theorem RFrame.frz {q:Option Bool} {e:List TV} {x:DFrame} (h:RFrame q e x):RFrame (some false) (m7 e) x:=by
 obtain ⟨g,rfl,hg,ho⟩:=h
 exact ⟨Go.Ab.frz g,rfl,hg.frz fun _ _ h=>h.frz,ho⟩
theorem RFrame.own {e:List TV} {x:DFrame} (h:RFrame (some true) e x):bm e=true:=by
 obtain ⟨g,rfl,hg,_⟩:=h
 simp [bm,isOwn,hg.own fun _ _ h=>h.own]
theorem DZ (n:Int):IntKind.u16.wrap n=n % 65536:=by simp [IntKind.wrap,IntKind.bits,IntKind.signed]
theorem BF (n:Int):inW (IntKind.u16.wrap n):=by rw [DZ]; constructor <;> omega
theorem wrap_i64 (n:Int):inI (IntKind.i64.wrap n):=by rw [IntKind.wrap_i64]; constructor <;> omega
def doW (op a b:Int):Option Int :=
 if op=2 then some a else if op=3 then some (IntKind.u16.wrap (a + b)) else if op=4 then some (IntKind.u16.wrap (a - b)) else if op=5 then some (IntKind.u16.wrap (a * b)) else
 if op=6 then (if b=0 then none else some (IntKind.u16.wrap (a.tdiv b))) else if op=7 then some (if a=b then 1 else 0) else if op=8 then some (if a < b then 1 else 0) else none
theorem CI {op a b v:Int} (ha:inW a) (h:doW op a b=some v):inW v:=by
 have h0:inW 0:=⟨by decide,by decide⟩
 have h1:inW 1:=⟨by decide,by decide⟩
 unfold doW at h
 repeat' split at h
 all_goals first | (cases h; done) | (cases h; first | exact ha | exact BF _ | exact h0 | exact h1 | (split <;> assumption))
def yE:Option Int->TV
 | some v=>.tup [W v,B true]
 | none=>.tup [W 0,B false]
def nh (l:List Int) (n:Int):Option Int:=if 0<=n then l[n.toNat]? else none
def ez (l:List Int) (x:DIns):Option Int :=
 if x.op=1 then some x.k else (nh l x.a).bind fun a=>if 3<=x.op/\x.op<=8 then (nh l x.b).bind fun b=>doW x.op a b else doW x.op a 0
def cZ (f:DFrame) (x:DIns):DFrame × Bool :=
 match ez f.regs x with
 | none=>(f,false)
 | some w=>if 0<=x.dst/\x.dst < f.regs.length then ({ f with regs:=f.regs.set x.dst.toNat w,at_:=IntKind.i64.wrap (f.at_ + 1) },true) else (f,false)
theorem bA {l:List Int} {n:Int} (h:within n l.length):∃ a,l[n.toNat]? = some a/\n.toNat < l.length:=by
 have:n.toNat < l.length:=by have:=h.1; have:=h.2; omega
 exact ⟨_,EH this,this⟩
theorem jT {l:List Int} {n a:Int} (h0:0<=n) (h:l[n.toNat]? = some a):nh l n=some a:=by simp [nh,h0,h]
theorem sW {l:List Int} {n:Int} (h:¬ within n l.length):nh l n=none:=by
 unfold nh
 split
 ·rename_i h0
  exact ES (by have:¬ n < l.length:=fun h1=>h ⟨h0,h1⟩; omega)
 ·rfl
section
variable {q:Option Bool} {v:TV} {l:List Int}
theorem RWords.at_ (h:RWords q v l) {k:IntKind} {n a:Int} (h0:0<=n) (hn:l[n.toNat]? = some a):pidx 1 v (.lit (.int k n))=some [W a]/\inW a:=by
 obtain ⟨e,he,rfl,hw⟩:=h.bv (k:=k) h0 hn
 exact ⟨he,hw⟩
theorem RWords.mem (h:RWords q v l) {n:Nat} {a:Int} (hn:l[n]? = some a):inW a:=(RWords.at_ h (k:=.i64) (n:=(n:Int)) (by omega) (by simpa using hn)).2
theorem RWords.put (h:RWords (some true) v l) {n:Nat} {w:Int} (hn:n < l.length) (hw:inW w):∃ a v',pel v n=some [W a]/\bj [] v n 0 [W w]=some v'/\RWords (some true) v' (l.set n w):=by
 have hi:l[n]? = some l[n]:=EH hn
 have hp:=h.toRP (R:=fun _ e a=>RW1 e a) fun _ _ _ h=>h
 obtain ⟨e,he,⟨rfl,_⟩,_,hset⟩:=hp.row hi
 exact ⟨_,_,he,hset 0 _,(hp.ED hi (b:=w) (S:=fun _ e a=>RW1 e a) ⟨rfl,hw⟩ fun _ _ _ _ h=>h).toRL fun _ _ _ _ h=>h⟩
theorem RWords.isOwn (h:RWords (some true) v l):Go.Ab.isOwn v=true:=RL.own h fun _ _ h=>h.own
end
theorem RL.app1 {α:Type} {s:Nat} {R:List TV->α->Prop} {y:TV} {l:List α} (hy:RL (some true) s R y l) {e:List TV} {a:α} (hR:R e a) (hl:l.length + 1<=4294967296):∃ y',papp s y [e]=some y'/\RL (some true) s R y' (l ++ [a]):=by
 rcases hy with ⟨rfl,rfl⟩ | ⟨o,xs,rfl,hq,h,hb⟩
 ·refine ⟨.sl true s [e],by simp [papp,aV,room,DI],.sl (by simp) (.cons hR .nil) (by simp)⟩
 ·have hlen:=h.length
  rw [hq true rfl]
  refine ⟨.sl true s (xs ++ [e]),?_,.sl (by simp) (h.append (.cons hR .nil)) (by simp; omega)⟩
  simp [papp,room]; omega
end Go.Ab
namespace Go.Ab.T12
open Go Go.Ab Go.Proofs
theorem rQuot0 {a b:Int} (h:b=0):ap prog 92 [W a,W b] (.tup [W 0,B false]):=by
 refine ap.of (f92_MR _ _) ?_
 unfold f92_M
 repeat' (first
  | refine aa.chk rfl ?_
  | refine aa.tv rfl ?_
  | refine aa.tv (RL.len (by assumption)) ?_
  | refine aa.nat rfl ?_
  | refine aa.ite rfl (fun _=>?_) (fun _=>?_)
  | refine aa.call (by assumption) ?_
  | refine aa.tvs (by assumption) ?_)
 ·exact aa.ret
 ·rename_i h'; simp [h] at h'
theorem rQuot {a b:Int} (h:¬ b=0):ap prog 92 [W a,W b] (.tup [W (IntKind.u16.wrap (a.tdiv b)),B true]):=by
 refine ap.of (f92_MR _ _) ?_
 unfold f92_M
 refine aa.tv rfl (aa.ite rfl (fun h'=>?_) fun _=>?_)
 ·simp at h'; exact absurd h' h
 ·exact aa.tv (by simp only [pbin,pA,if_true,if_neg h]) aa.ret
theorem Br (b:Bool):ap prog 93 [B b] (W (if b then 1 else 0)):=by
  cases b
  · refine ap.of (f93_MR _) ?_
    unfold f93_M
    repeat' (first
      | refine aa.chk rfl ?_
      | refine aa.tv rfl ?_
      | refine aa.tv (RL.len (by assumption)) ?_
      | refine aa.nat rfl ?_
      | refine aa.ite (v:=true) rfl (fun _=>?_) nofun
      | refine aa.ite (v:=false) rfl nofun (fun _=>?_)
      | refine aa.ite rfl (fun _=>?_) (fun _=>?_)
      | refine aa.call (by assumption) ?_
      | refine aa.tvs (by assumption) ?_
       )
    exact aa.ret
  · refine ap.of (f93_MR _) ?_
    unfold f93_M
    repeat' (first
      | refine aa.chk rfl ?_
      | refine aa.tv rfl ?_
      | refine aa.tv (RL.len (by assumption)) ?_
      | refine aa.nat rfl ?_
      | refine aa.ite (v:=true) rfl (fun _=>?_) nofun
      | refine aa.ite (v:=false) rfl nofun (fun _=>?_)
      | refine aa.ite rfl (fun _=>?_) (fun _=>?_)
      | refine aa.call (by assumption) ?_
      | refine aa.tvs (by assumption) ?_
       )
    exact aa.ret
theorem rDo (op a b:Int):ap prog 89 [I op,W a,W b] (yE (doW op a b)):=by
 by_cases hb:b=0
 ·have hq:=rQuot0 (a:=a) hb
  refine ap.of (f89_MR _ _ _) ?_
  unfold f89_M
  repeat' (first
   | refine aa.chk rfl ?_
   | refine aa.tv rfl ?_
   | refine aa.tv (RL.len (by assumption)) ?_
   | refine aa.nat rfl ?_
   | refine aa.ite (v:=true) rfl (fun _=>?_) nofun
   | refine aa.ite (v:=false) rfl nofun (fun _=>?_)
   | refine aa.ite rfl (fun _=>?_) (fun _=>?_)
   | refine aa.call (by assumption) ?_
   | refine aa.tvs (by assumption) ?_
   | refine aa.call (Br _) ?_)
  all_goals (refine dC.2 ?_; simp_all [doW,yE,TV.comp,nth])
 ·have hq:=rQuot (a:=a) hb
  refine ap.of (f89_MR _ _ _) ?_
  unfold f89_M
  repeat' (first
   | refine aa.chk rfl ?_
   | refine aa.tv rfl ?_
   | refine aa.tv (RL.len (by assumption)) ?_
   | refine aa.nat rfl ?_
   | refine aa.ite (v:=true) rfl (fun _=>?_) nofun
   | refine aa.ite (v:=false) rfl nofun (fun _=>?_)
   | refine aa.ite rfl (fun _=>?_) (fun _=>?_)
   | refine aa.call (by assumption) ?_
   | refine aa.tvs (by assumption) ?_
   | refine aa.call (Br _) ?_)
  all_goals (refine dC.2 ?_; simp_all [doW,yE,TV.comp,nth])
theorem rPure (op:Int):ap prog 91 [I op] (B (decide (2<=op/\op<=8))):=by
 refine ap.of (f91_MR _) ?_
 unfold f91_M
 repeat' (first
  | refine aa.chk rfl ?_
  | refine aa.tv rfl ?_
  | refine aa.tv (RL.len (by assumption)) ?_
  | refine aa.nat rfl ?_
  | refine aa.ite rfl (fun _=>?_) (fun _=>?_)
  | refine aa.call (by assumption) ?_
  | refine aa.tvs (by assumption) ?_)
 all_goals (refine dC.2 ?_; simp_all <;> omega)
theorem rTwo (op:Int):ap prog 88 [I op] (B (decide (3<=op/\op<=8))):=by
 have h:=rPure op
 refine ap.of (f88_MR _) ?_
 unfold f88_M
 refine aa.call h (aa.chk rfl (aa.ite rfl (fun h=>?_) fun h=>?_))
 ·simp at h
  refine aa.tv rfl (dC.2 ?_)
  have:(op != 2)=decide (3<=op/\op<=8):=by rw [Bool.eq_iff_iff]; simp; omega
  rw [this]
 ·refine dC.2 ?_
  have h':¬ (2<=op/\op<=8):=by simpa using h
  simp; omega
end Go.Ab.T12
end
section
set_option maxRecDepth 10000
namespace Go.Ab
def bO (m:DMod) (f:DFrame):Prop:=0<=f.f/\∃ g,m.funcs[f.f.toNat]? = some g/\(f.regs.length:Int)=g.regs/\0<=f.block/\∃ b,g.blocks[f.block.toNat]? = some b/\0<=f.at_/\f.at_<=b.ins.length
def j0 (m:DMod) (n:Int) (args:List Int):Option DFrame :=
 if 0<=n then (m.funcs[n.toNat]?).bind fun g=>if (args.length:Int)=g.params then some ⟨n,0,0,args.take g.regs.toNat ++ List.replicate (g.regs.toNat - args.length) 0,0⟩ else none else none
def fQ:DFrame:=⟨0,0,0,[],0⟩
def iP (m:DMod) (f:DFrame) (pad w:Int):Option DFrame :=
 (m.funcs[f.f.toNat]?).bind fun g=>if 0<=pad then (g.blocks[pad.toNat]?).bind fun b=>if b.landing then some ⟨f.f,pad,0,f.regs.set b.pad.dst.toNat w,w⟩ else none else none
def Cy:Option DFrame->Int
 | some _=>0
 | none=>1
theorem wS {α:Type} {l:List α} {n:Int} (h0:0<=n) (h:¬ n < l.length):l[n.toNat]? = none:=ES (by omega)
theorem RNo:RFrame (some true) [I 0,I 0,I 0,.lit aV,W 0] fQ:=⟨_,rfl,.nil,⟨by decide,by decide⟩,⟨by decide,by decide⟩,⟨by decide,by decide⟩,⟨by decide,by decide⟩⟩
def ea:List Value:=[.int .i64 0,.int .i64 0,.int .i64 0,.slice none 0 0,.int .u16 0]
theorem fm {a b c d:Int} {y:TV} (h:y.isSl=true):(Bool.and ((TV.agg [I a,I b,I c,y,W d]).isAgg 5) (ab ea ((TV.agg [I a,I b,I c,y,W d]).cellsL true) 0))=true:=by
 simp [ab,TV.isAgg,TV.cellsL,ea,aI,h,TV.isSc,scV]
theorem in0:inI 0:=⟨by decide,by decide⟩
theorem nF:inW 0:=⟨by decide,by decide⟩
end Go.Ab
namespace Go.Ab.T12
open Go Go.Ab Go.Proofs
theorem kf (c n:Int):ap prog 41 [I c,I n] (B (tt (within n c))):=by
 refine ap.of (f41_MR _ _) ?_
 unfold f41_M
 repeat' (first
  | refine aa.chk rfl ?_
  | refine aa.tv rfl ?_
  | refine aa.tv (RL.len (by assumption)) ?_
  | refine aa.nat rfl ?_
  | refine aa.ite rfl (fun _=>?_) (fun _=>?_)
  | refine aa.call (by assumption) ?_
  | refine aa.tvs (by assumption) ?_)
 all_goals (apply dN; simp_all [within] <;> omega)
theorem rOwn {q:Option Bool} {e:List TV} {x:DFrame} (he:RFrame q e x) (hl:x.regs.length<=4294967296):∃ e',ap prog 71 [.agg e] (.agg e')/\RFrame (some true) e' x:=by
 obtain ⟨g,rfl,hg,ho⟩:=he
 obtain ⟨y,hc,hr⟩:=r39 hg hl
 have hr:RWords (some true) y x.regs:=hr
 refine ⟨[I x.f,I x.block,I x.at_,y,W x.fly],?_,⟨_,rfl,hr,ho⟩⟩
 refine ap.of (f71_MR _) ?_
 unfold f71_M
 refine aa.chk rfl (aa.call hc (aa.chk ?_ (aa.chk ?_ aa.ret)))
 ·simp [zSl,ab,aI,hr.isSl]
 ·simp [isOwn,bm,RWords.isOwn hr,TV.cell,nth]
theorem rGo {q:Option Bool} {e:List TV} {x:DFrame} {b:Int} (he:RFrame q e x) (hl:x.regs.length<=4294967296) (hb:inI b):∃ e',ap prog 64 [.agg e,I b] (.agg e')/\RFrame (some true) e' { x with block:=b,at_:=0 }:=by
 obtain ⟨e',hr,he'⟩:=rOwn he hl
 obtain ⟨g,rfl,hg,ho⟩:=he
 obtain ⟨y,rfl,hy,ho'⟩:=he'
 refine ⟨[I x.f,I b,I 0,y,W x.fly],?_,⟨_,rfl,hy,ho.1,hb,in0,ho.2.2.2⟩⟩
 refine ap.of (f64_MR _ _) ?_
 unfold f64_M
 refine aa.chk rfl (aa.call hr (aa.chk (fm hy.isSl) (aa.chk rfl (aa.chk ?_ aa.ret))))
 simp [isOwn,bm,TV.cell,nth,RWords.isOwn hy]
theorem DG {q q':Option Bool} {g:TV} {l:List Int} {e:List TV} {x:DIns} (hg:RWords q g l) (he:RIns q' e x):ap prog 79 [g,.agg e] (yE (ez l x)):=by
 obtain ⟨a,rfl,ha,ho⟩:=he
 have h2:=rTwo x.op
 refine ap.of (f79_MR _ _) ?_
 unfold f79_M
 refine aa.chk rfl (aa.tv rfl (aa.ite rfl (fun h=>?_) fun h1=>?_))
 ·refine dC.2 ?_
  simp at h
  simp [ez,h,yE,TV.cell,nth]
 have h1:¬ x.op=1:=by simpa using h1
 refine aa.tv hg.len (aa.call (kf _ _) (aa.chk rfl (aa.tv rfl (aa.ite rfl (fun h=>?_) fun h=>?_))))
 ·have h:¬ within x.a l.length:=bX.1 (by simpa using h)
  refine dC.2 ?_
  simp [ez,h1,sW h,yE]
 have hA:within x.a l.length:=bu.1 (by simpa using h)
 obtain ⟨u,hu,hul⟩:=bA hA
 obtain ⟨hi,hui⟩:=RWords.at_ hg (k:=.i64) hA.1 hu
 refine aa.tvs hi (aa.chk rfl (aa.call h2 (aa.chk rfl (aa.tv rfl (aa.ite rfl (fun h=>?_) fun h=>?_)))))
 ·have h:¬ (3<=x.op/\x.op<=8):=by simp at h; omega
  have hd:=rDo x.op u 0
  have hT:ez l x=doW x.op u 0:=by simp [ez,h1,jT hA.1 hu,h]
  rw [hT]
  refine aa.call hd ?_
  cases doW x.op u 0 with
  | none=>exact aa.chk rfl (aa.chk rfl (aa.chk rfl aa.ret))
  | some v=>exact aa.chk rfl (aa.chk rfl (aa.chk rfl aa.ret))
 have h3:3<=x.op/\x.op<=8:=by simpa using h
 refine aa.tv hg.len (aa.call (kf _ _) (aa.chk rfl (aa.tv rfl (aa.ite rfl (fun h=>?_) fun h=>?_))))
 ·have h:¬ within x.b l.length:=bX.1 (by simpa using h)
  refine dC.2 ?_
  simp [ez,h1,jT hA.1 hu,h3,sW h,yE]
 have hB:within x.b l.length:=bu.1 (by simpa using h)
 obtain ⟨v,hv,hvl⟩:=bA hB
 obtain ⟨hi',hvi⟩:=RWords.at_ hg (k:=.i64) hB.1 hv
 have hd:=rDo x.op u v
 have hT:ez l x=doW x.op u v:=by simp [ez,h1,jT hA.1 hu,h3,jT hB.1 hv]
 rw [hT]
 refine aa.tvs hi' (aa.chk rfl (aa.call hd ?_))
 cases doW x.op u v with
 | none=>exact aa.chk rfl (aa.chk rfl (aa.chk rfl aa.ret))
 | some v=>exact aa.chk rfl (aa.chk rfl (aa.chk rfl aa.ret))
theorem Bb {q q':Option Bool} {g:TV} {l:List Int} {e:List TV} {x:DIns} (hg:RWords q g l) (he:RIns q' e x) {v:Int} (h:ez l x=some v):inW v:=by
 obtain ⟨a,rfl,ha,ho⟩:=he
 unfold ez at h
 split at h
 ·cases h; exact ho.2.2.2.2.1
 ·cases ha':nh l x.a with
  | none=>rw [ha'] at h; cases h
  | some u =>
   have hu:inW u:=by
    unfold nh at ha'
    split at ha'
    ·exact RWords.mem hg ha'
    ·cases ha'
   rw [ha'] at h
   simp only [Option.bind_some] at h
   split at h
   ·cases hb:nh l x.b with
    | none=>rw [hb] at h; cases h
    | some w=>rw [hb] at h; exact CI hu h
   ·exact CI hu h
theorem D7 {q q':Option Bool} {e e':List TV} {f:DFrame} {x:DIns} (hf:RFrame q e f) (hx:RIns q' e' x) (hl:f.regs.length<=4294967296) :
  ∃ e2,ap prog 69 [.agg e,.agg e'] (.tup [.agg e2,B (cZ f x).2])/\RFrame (some true) e2 (cZ f x).1:=by
 obtain ⟨e1,hr,hf1⟩:=rOwn hf hl
 have hf1':=hf1
 obtain ⟨g0,rfl,hg0,_⟩:=hf
 obtain ⟨y,rfl,hy,ho'⟩:=hf1
 have hans:=DG (hy.frz (S:=RW1) fun _ _ h=>h.frz) hx
 have hx':=hx
 obtain ⟨z,rfl,hz,hxo⟩:=hx
 have hfit:=fm (a:=f.f) (b:=f.block) (c:=f.at_) (d:=f.fly) hy.isSl
 have hown:bm [TV.agg [I f.f,I f.block,I f.at_,y,W f.fly],B false]=true:=by simp [isOwn,bm,RWords.isOwn hy]
 cases hT:ez f.regs x with
 | none =>
  rw [hT] at hans
  have hR:cZ f x=(f,false):=by simp [cZ,hT]
  rw [hR]
  refine ⟨_,?_,hf1'⟩
  refine ap.of (f69_MR _ _) ?_
  unfold f69_M
  exact aa.chk rfl (aa.chk rfl (aa.call hr (aa.chk hfit (aa.call hans (aa.chk rfl (aa.chk rfl (aa.chk rfl (aa.tv rfl (aa.ite rfl (fun _=>aa.chk hown aa.ret) nofun)))))))))
 | some v =>
  rw [hT] at hans
  have hv:=Bb hy hx' hT
  by_cases hD:within x.dst f.regs.length
  ·have hD':0<=x.dst/\x.dst < f.regs.length:=hD
   have hR:cZ f x=({ f with regs:=f.regs.set x.dst.toNat v,at_:=IntKind.i64.wrap (f.at_ + 1) },true):=by simp [cZ,hT,hD']
   have hlt:x.dst.toNat < f.regs.length:=by omega
   obtain ⟨a,v',hp,hs,hrl⟩:=RWords.put hy hlt hv
   have hbl:Nat.blt x.dst.toNat f.regs.length=true:=by simpa using hlt
   rw [hR]
   refine ⟨[I f.f,I f.block,I (IntKind.i64.wrap (f.at_ + 1)),v',W f.fly],?_,⟨_,rfl,hrl,ho'.1,ho'.2.1,wrap_i64 _,ho'.2.2.2⟩⟩
   refine ap.of (f69_MR _ _) ?_
   unfold f69_M
   refine aa.chk rfl (aa.chk rfl (aa.call hr (aa.chk hfit (aa.call hans (aa.chk rfl (aa.chk rfl (aa.chk rfl (aa.tv rfl (aa.ite rfl nofun fun _=>?_)))))))))
   refine aa.tv hy.len (aa.call (kf _ _) (aa.chk rfl (aa.tv rfl (aa.ite rfl (fun h=>?_) fun _=>?_))))
   ·exact absurd hD (bX.1 (by simpa using h))
   ·have hdn:aj (I x.dst)=some x.dst.toNat:=by
     have:=hxo.2.1.2
     simp [aj,hD.1]; omega
    refine aa.nat hy.slLen (aa.nat hdn (aa.chk ?_ (aa.tvs hp (aa.chk rfl (aa.tv hs (aa.tv rfl (aa.chk ?_ aa.ret)))))))
    ·rw [hbl]; exact (Bool.and_true _).trans hy.slSize
    ·simp [isOwn,bm,RWords.isOwn hrl,TV.cell,nth]
  ·have hD':¬ (0<=x.dst/\x.dst < f.regs.length):=hD
   have hR:cZ f x=(f,false):=by simp only [cZ,hT]; rw [if_neg hD']
   rw [hR]
   refine ⟨_,?_,hf1'⟩
   refine ap.of (f69_MR _ _) ?_
   unfold f69_M
   refine aa.chk rfl (aa.chk rfl (aa.call hr (aa.chk hfit (aa.call hans (aa.chk rfl (aa.chk rfl (aa.chk rfl (aa.tv rfl (aa.ite rfl nofun fun _=>?_)))))))))
   refine aa.tv hy.len (aa.call (kf _ _) (aa.chk rfl (aa.tv rfl (aa.ite rfl (fun _=>aa.chk hown aa.ret) fun h=>?_))))
   exact absurd (bu.1 (by simpa using h)) hD
theorem oo {q:Option Bool} {e:List TV} {p:DPad} {w:Int} (he:RPad q e p):ap prog 74 [.agg e,W w] (B (tt (p.all=true\/w ∈ p.catches))):=by
 obtain ⟨x,rfl,hx,_⟩:=he
 have h56:=r56 (w:=w) hx
 refine ap.of (f74_MR _ _) ?_
 unfold f74_M
 repeat' (first
  | refine aa.chk rfl ?_
  | refine aa.tv rfl ?_
  | refine aa.tv (RL.len (by assumption)) ?_
  | refine aa.nat rfl ?_
  | refine aa.ite rfl (fun _=>?_) (fun _=>?_)
  | refine aa.call (by assumption) ?_
  | refine aa.tvs (by assumption) ?_)
 ·rename_i h
  have h:p.all=true:=by simpa [TV.cell,nth] using h
  exact yS (.inl h)
 ·rename_i h
  have h:p.all=false:=by simpa [TV.cell,nth] using h
  apply dN
  simp [bu,h]
end Go.Ab.T12
end

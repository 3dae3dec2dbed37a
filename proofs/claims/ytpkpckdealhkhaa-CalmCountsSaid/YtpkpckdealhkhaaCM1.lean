import Derived.Test.YtpkpckdealhkhaaCC14F225
import Derived.Test.YtpkpckdealhkhaaCM0
import Derived.Below
import Derived.Orders
import Derived.Laws.Cells
import Derived.Laws.OwnMore
import Derived.Laws.CopyOwn
import Derived.Maps.AppendAt
import Derived.Lib.FrozenHead
set_option linter.all false
section
set_option maxRecDepth 10000
namespace Go.Ab
theorem sK {a c:Int}:asBool (.lit (.bool (a == c)))=some (decide (a=c)):=by
 by_cases h:a=c
 ·subst h; simp [asBool]
 ·have h1:(a == c)=false:=by simpa using h
  simp only [asBool,h1,decide_eq_false h]
theorem zO {α:Type} {q:Option Bool} {s:Nat} {R:List TV->α->Prop} {x:TV} {l:List α} (h:RL q s R x l):x.gx=true:=by
 rcases h with ⟨rfl,rfl⟩ | ⟨o,xs,rfl,_⟩ <;> rfl
theorem yH {p:Prop}:asBool (B (tt p))=some (tt p):=rfl
def vQ (N:Nat) (u:DFunc) (b:DBlock):Prop:=(∀ x ∈ b.ins,x.op=11->0<=x.f/\x.f.toNat < N)/\(b.fin.kind=4->(0<=b.fin.f/\b.fin.f.toNat < N)/\0<=b.fin.pad/\∃ pb,u.blocks[b.fin.pad.toNat]? = some pb)
end Go.Ab
namespace Go.Ab.C14
open Go Go.Ab Go.Proofs
theorem uw {m:DMod} (h:qJ m) {n k:Nat} {u:DFunc} {b:DBlock} (hu:m.funcs[n]? = some u) (hb:u.blocks[k]? = some b):vQ m.funcs.length u b:=by
 have hB:=(h.2.2 n (B7.1 hu).1 u hu).2.2.2 k (B7.1 hb).1 b hb
 refine ⟨fun x hx h11=>?_,fun h4=>?_⟩
 ·obtain ⟨i,hi,rfl⟩:=List.mem_iff_getElem.1 hx
  have:=(hB.2.2.1 i hi _ (B8 hi)).2.2.2.2.2
  rw [h11] at this
  obtain ⟨h0,g,hg,_⟩:=this.1 rfl
  exact ⟨h0,(B7.1 hg).1⟩
 ·obtain ⟨_,_,_,hc,_,_,hp⟩:=hB.2.2.2
  rw [h4] at hc hp
  obtain ⟨h0,g,hg,_⟩:=hc.1 rfl
  obtain ⟨h1,pb,hpb,_⟩:=hp.1 rfl
  exact ⟨⟨h0,(B7.1 hg).1⟩,h1,pb,hpb⟩
section
variable {q q':Option Bool} {w:TV} {F:List Bool} (hw:RBools q w F)
include hw
theorem xr {x:TV} {l:List DIns} (hx:RL q' 7 (RIns q') x l) (hn:∀ y ∈ l,y.op=11->0<=y.f/\y.f.toNat < F.length):∀ (d i:Nat),i + d=l.length ->
  aa prog 35 (f35_0 x (I l.length) (I i) w) (B (tt (∃ j,i<=j/\∃ y,l[j]? = some y/\y.op=11/\F[y.f.toNat]? = some true))):=by
 have hbnd:=hx.bnd
 intro d
 induction d with
 | zero =>
  intro i hi
  have hi:i=l.length:=by omega
  subst hi
  rw [ic (by rintro ⟨j,hj,y,hy,_⟩; have:=(B7.1 hy).1; omega)]
  unfold f35_0
  exact aa.tv rfl (aa.ite aV nofun fun _=>aa.tv rfl aa.ret)
 | succ d ih =>
  intro i hi
  have hlt:i < l.length:=by omega
  have hy:=B8 hlt
  generalize l[i]=y at hy
  obtain ⟨e,he,hR⟩:=hx.idx (k:=.i64) hy
  obtain ⟨g,rfl,hg,ho⟩:=hR
  have hnext:=ih (i + 1) (by omega)
  have split:(∃ j,i<=j/\∃ y,l[j]? = some y/\y.op=11/\F[y.f.toNat]? = some true) ↔ (y.op=11/\F[y.f.toNat]? = some true)\/∃ j,i + 1<=j/\∃ y,l[j]? = some y/\y.op=11/\F[y.f.toNat]? = some true:=by
   constructor
   ·rintro ⟨j,hj,y',hy',h⟩
    by_cases e:j=i
    ·subst e; rw [hy] at hy'; cases hy'; exact .inl h
    ·exact .inr ⟨j,by omega,y',hy',h⟩
   ·rintro (h | ⟨j,hj,h⟩)
    ·exact ⟨i,Nat.le_refl _,y,hy,h⟩
    ·exact ⟨j,by omega,h⟩
  rw [bD split]
  unfold f35_0
  refine aa.tv rfl (aa.ite (be hlt) (fun _=>?_) nofun)
  refine aa.tvs he (aa.chk rfl (aa.tv rfl (aa.ite sK (fun h=>?_) fun h=>?_)))
  ·have h11:y.op=11:=by simpa using h
   obtain ⟨h0,hlf⟩:=hn y (Cg hy) h11
   have hc:=B8 hlf
   generalize F[y.f.toNat]=c at hc
   obtain ⟨e2,he2,hR2⟩:=hw.yr (k:=.i64) h0 hc
   cases hR2
   refine aa.tvs he2 (aa.chk rfl (aa.ite rfl (fun h=>?_) fun h=>?_))
   ·have hcc:c=true:=h
    subst hcc
    rw [dH (.inl ⟨h11,hc⟩)]
    exact aa.tv (v:=B true) (by show some (TV.lit (.bool (decide ((i:Int) >= 0))))=_; rw [decide_eq_true (by omega)]) aa.ret
   ·have hcc:c=false:=h
    subst hcc
    rw [bD (p':=∃ j,i + 1<=j/\∃ y,l[j]? = some y/\y.op=11/\F[y.f.toNat]? = some true) ⟨fun h=>h.elim (fun h=>by rw [hc] at h; cases h.2) id,.inr⟩]
    exact aa.tv (inc hlt hbnd) (f35_0_J hnext)
  ·have h11:¬ y.op=11:=by simpa using h
   rw [bD (p':=∃ j,i + 1<=j/\∃ y,l[j]? = some y/\y.op=11/\F[y.f.toNat]? = some true) ⟨fun h=>h.elim (fun h=>absurd h.1 h11) id,.inr⟩]
   exact aa.tv (inc hlt hbnd) (f35_0_J hnext)
theorem yO {e:List TV} {u:DFunc} {b:DBlock} (he:RBlock q' e b) (hn:vQ F.length u b):aw prog 35 [.agg e,w] (B (tt (pl F b))):=by
 obtain ⟨c,i,g,rfl,_,_,hi,_⟩:=he
 have h:=xr hw hi hn.1 b.ins.length 0 (by omega)
 rw [bD (p':=pl F b) ⟨fun ⟨j,_,y,hy,h⟩=>⟨y,Cg hy,h⟩,fun ⟨y,hy,h⟩=>by
  obtain ⟨j,hj,rfl⟩:=List.mem_iff_getElem.1 hy
  exact ⟨j,Nat.zero_le _,_,B8 hj,h⟩⟩] at h
 refine aw.of (f35_MR _ _) ?_
 unfold f35_M
 exact aa.chk rfl (aa.chk (zO hw) (aa.tv hi.len (f35_0_J h)))
theorem vz {e:List TV} {u:DFunc} {b:DBlock} (he:RBlock q' e b) (hn:vQ F.length u b):aw prog 36 [.agg e,w] (B (tt (invD F b))):=by
 obtain ⟨c,i,g,rfl,_⟩:=he
 refine aw.of (f36_MR _ _) ?_
 unfold f36_M
 refine aa.chk rfl (aa.tv rfl (aa.ite sK (fun h=>?_) fun h=>?_))
 ·have h4:b.fin.kind=4:=by simpa using h
  obtain ⟨h0,hlf⟩:=(hn.2 h4).1
  have hc:=B8 hlf
  generalize F[b.fin.f.toNat]=c at hc
  obtain ⟨e2,he2,hR2⟩:=hw.yr (k:=.i64) h0 hc
  cases hR2
  refine aa.tvs he2 (aa.chk rfl ?_)
  exact dO ⟨fun h=>⟨h4,by rw [hc,h]⟩,fun h=>by have:=h.2; rw [hc] at this; exact Option.some.inj this⟩
 ·have h4:¬ b.fin.kind=4:=by simpa using h
  exact bg fun h=>h4 h.1
end
end Go.Ab.C14
end
section
set_option maxRecDepth 10000
namespace Go.Ab
theorem geq0 {i:Nat}:pbin (.int .i64) .geq (I (i:Int)) (I 0)=some (B true):=by
 show some (TV.lit (.bool (decide ((i:Int) >= 0))))=_
 rw [decide_eq_true (by omega)]
theorem repF {n:Nat} (hn:n<=4294967296):RBools (some true) (.sl true 1 (List.replicate n [B false])) (List.replicate n false):=by
 refine .sl (by simp) ?_ (by simp; omega)
 clear hn
 induction n with
 | zero=>exact .nil
 | succ n ih=>exact .cons rfl ih
theorem yA {X:Nat->Prop} {n:Nat}:tz X (List.replicate n false):=fun k h=>by
 have:=List.eq_of_mem_replicate (Cg h)
 cases this
end Go.Ab
namespace Go.Ab.C14
open Go Go.Ab Go.Proofs
section
variable {q:Option Bool} {b w:TV} {m:DMod} (hb:RL q 3 (RFunc q) b m.funcs) (hM:qJ m) {F:List Bool} (hl:F.length=m.funcs.length) (hw:RBools (some true) w F)
include hb hM hl hw
theorem outBlk {n:Nat} {u:DFunc} {bl:TV} {g:Bool} {y:TV} (hu:m.funcs[n]? = some u) (hbl:RL q 14 (RBlock q) bl u.blocks) (hF:F[n]? = some false)
  (miss:¬ oR xe F u->aa prog 18 (f18_1 (B g) b (I m.funcs.length) (I (n + 1:Nat)) b w) y)
  (hit:∀ w',gW [] w n 0 [B true]=some w'->oR xe F u->aa prog 18 (f18_1 (B true) b (I m.funcs.length) (I (n + 1:Nat)) b w') y) :
  ∀ (d i:Nat),i + d=u.blocks.length->(∀ j,j < i->∀ c,u.blocks[j]? = some c->¬ xe F u c) ->
   aa prog 18 (f18_2 bl (I u.blocks.length) (I i) (I u.params) (I u.regs) bl b w (B g) (I n) b (I m.funcs.length) (I n) (B true)) y:=by
 have hN:=hM.1
 have hbnd:=hbl.bnd
 have hlt:=(B7.1 hF).1
 obtain ⟨e0,he0,hR0⟩:=hw.pel hF
 cases hR0
 obtain ⟨w1,hs1,hw1⟩:=hw.B6 he0 (d:=0) (ys:=[B true]) (a:=true) rfl
 have ann:aK (I (n:Int))=some n:=aR (by omega)
 have hchk:(slSize w 1 && Nat.blt n F.length)=true:=by rw [hw.slSize]; simpa using hlt
 have hinc:pbin (.int .i64) .add (I (n:Int)) (I (1:Int))=some (I ((n + 1:Nat):Int)):=inc hlt (by omega)
 intro d
 induction d with
 | zero =>
  intro i hi hno
  have hi:i=u.blocks.length:=by omega
  subst hi
  unfold f18_2
  refine aa.tv rfl (aa.ite aV nofun fun _=>aa.tv (v:=B false) rfl (aa.ite (v:=true) rfl (fun _=>aa.ite (v:=false) rfl nofun fun _=>?_) nofun))
  refine aa.tv hinc (f18_1_J (miss ?_))
  rintro ⟨c,hc,h⟩
  obtain ⟨j,hj,rfl⟩:=List.mem_iff_getElem.1 hc
  exact hno j hj _ (B8 hj) h
 | succ d ih =>
  intro i hi hno
  have hil:i < u.blocks.length:=by omega
  have hc:=B8 hil
  generalize u.blocks[i]=c at hc
  have hnm:=uw hM hu hc
  rw [<- hl] at hnm
  obtain ⟨e,he,hR⟩:=hbl.idx (k:=.i64) hc
  have hR':=hR
  obtain ⟨c2,c5,c10,rfl,h2,hd,h5,h10,hok⟩:=hR'
  have hwz:=hw.frz (S:=RB1) fun _ _ h=>h.frz
  have hcl:=yO hwz hR hnm
  have hiv:=vz hwz hR hnm
  have yes:xe F u c->aa prog 18 (f18_1 (B true) b (I m.funcs.length) (I (n + 1:Nat)) b w1) y:=fun h=>hit w1 hs1 ⟨c,Cg hc,h⟩
  have no:¬ xe F u c->aa prog 18 (f18_2 bl (I u.blocks.length) (I (i + 1:Nat)) (I u.params) (I u.regs) bl b w (B g) (I n) b (I m.funcs.length) (I n) (B true)) y:=fun h =>
   ih (i + 1) (by omega) fun j hj c' hc' h'=>by
    by_cases e:j=i
    ·subst e; rw [hc] at hc'; cases hc'; exact h h'
    ·exact hno j (by omega) c' hc' h'
  have three : ∀ z : Bool, (z = true ↔ c.fin.kind = 5 ∨ c.fin.kind = 6) →
    aa prog 18 (f18_3 (B z) w (I u.params) (I u.regs) bl (B c.landing) (I c.pad.dst) c2 (B c.pad.all) (B c.pad.cleanup) c5 (I c.fin.kind) (I c.fin.a) (I c.fin.dst) (I c.fin.f) c10 (I c.fin.to) (I c.fin.els) (I c.fin.pad) b (I u.params) (I u.regs) bl (B g) (I n) b (I m.funcs.length) (I n) (B true) bl (I i) (I u.blocks.length) (I i)) y:=by
   intro z hz
   unfold f18_3
   refine aa.ite rfl (fun h=>?_) fun h=>?_
   ·have hz1:z=true:=h
    refine aa.tv geq0 (aa.ite (v:=true) rfl (fun _=>aa.ite (v:=true) rfl (fun _=>?_) nofun) nofun)
    exact aa.nat hw.slLen (aa.nat ann (aa.chk hchk (aa.tvs he0 (aa.chk rfl (aa.tv hs1 (aa.tv hinc (f18_1_J (yes (.inl (hz.1 hz1))))))))))
   ·have hz0:¬ (c.fin.kind=5\/c.fin.kind=6):=fun h'=>by rw [hz.2 h'] at h; cases h
    refine aa.call hcl (aa.chk rfl (aa.ite yH (fun h=>?_) fun h=>?_))
    ·refine aa.tv geq0 (aa.ite (v:=true) rfl (fun _=>aa.ite (v:=true) rfl (fun _=>?_) nofun) nofun)
     exact aa.nat hw.slLen (aa.nat ann (aa.chk hchk (aa.tvs he0 (aa.chk rfl (aa.tv hs1 (aa.tv hinc (f18_1_J (yes (.inr (.inl (dz.1 h)))))))))))
    ·have hc0:¬ pl F c:=fun h'=>by rw [dH h'] at h; cases h
     refine aa.call hiv (aa.chk rfl (aa.ite yH (fun h=>?_) fun h=>?_))
     ·have hi1:=dz.1 h
      obtain ⟨_,h0,pb,hpb⟩:=hnm.2 hi1.1
      obtain ⟨e2,he2,hR2⟩:=hbl.yr (k:=.i64) h0 hpb
      obtain ⟨p2,p5,p10,rfl,_⟩:=hR2
      refine aa.tvs he2 (aa.chk rfl (aa.tv rfl (aa.ite rfl (fun h=>?_) fun h=>?_)))
      ·have ha:pb.pad.all=false:=by simpa using h
       refine aa.tv geq0 (aa.ite (v:=true) rfl (fun _=>aa.ite (v:=true) rfl (fun _=>?_) nofun) nofun)
       exact aa.nat hw.slLen (aa.nat ann (aa.chk hchk (aa.tvs he0 (aa.chk rfl (aa.tv hs1 (aa.tv hinc (f18_1_J (yes (.inr (.inr ⟨hi1,pb,hpb,ha⟩))))))))))
      ·have ha:pb.pad.all=true:=by simpa using h
       refine aa.tv (inc hil hbnd) (f18_2_J (no ?_))
       rintro (h | h | ⟨_,pb',hp',ha'⟩)
       ·exact hz0 h
       ·exact hc0 h
       ·rw [hpb] at hp'; cases hp'; rw [ha] at ha'; cases ha'
     ·have hi0:¬ invD F c:=fun h'=>by rw [dH h'] at h; cases h
      refine aa.tv (inc hil hbnd) (f18_2_J (no ?_))
      rintro (h | h | ⟨h,_⟩)
      ·exact hz0 h
      ·exact hc0 h
      ·exact hi0 h
  unfold f18_2
  refine aa.tv rfl (aa.ite (be hil) (fun _=>?_) nofun)
  refine aa.tvs he (aa.chk rfl (aa.tv rfl (aa.ite sK (fun h=>?_) fun h=>?_)))
  ·have h5':c.fin.kind=5:=by simpa using h
   exact f18_3_J (three true ⟨fun _=>.inl h5',fun _=>rfl⟩)
  ·have h5':¬ c.fin.kind=5:=by simpa using h
   exact aa.tv (v:=B (c.fin.kind == 6)) rfl (f18_3_J (three _ ⟨fun h=>.inr (by simpa using h),fun h=>by simpa using h.resolve_left h5'⟩))
end
theorem rOut {q:Option Bool} {e:List TV} {m:DMod} (he:RMod q e m) (hM:qJ m):∃ y F,aw prog 18 [.agg e] y/\RBools (some true) y F/\F.length=m.funcs.length/\∀ k:Nat,F[k]? = some true ↔ Thr m k:=by
 have hsh:=r8 he
 obtain ⟨b,rfl,hb⟩:=he
 have hN:=hM.1
 obtain ⟨y,F',h1,h2,h3,h4⟩:=vG (xU m) (A:=prog) (f:=18) (P0:=fun g w=>f18_0 (B g) b w) (P1:=fun g n w=>f18_1 (B g) b (I m.funcs.length) (I n) b w)
  (fun w y h => by
   unfold f18_0
   exact aa.ite (v:=true) rfl (fun _=>aa.tv hb.len (f18_1_J h)) nofun)
  (fun w F h => by
   unfold f18_0
   exact aa.ite (v:=false) rfl nofun fun _=>aa.chk (h.own fun _ _ h=>by cases h; rfl) aa.ret)
  (fun g w y h => by
   unfold f18_1
   exact aa.tv rfl (aa.ite aV nofun fun _=>f18_0_J h))
  (fun g n w F c u y hl hw hc hu miss hit => by
   have hlt:=(B7.1 hu).1
   obtain ⟨e1,he1,hR1⟩:=hb.idx (k:=.i64) hu
   obtain ⟨bl,rfl,hbl,_⟩:=hR1
   obtain ⟨e2,he2,hR2⟩:=hw.pel hc
   cases hR2
   unfold f18_1
   refine aa.tv rfl (aa.ite (be hlt) (fun _=>?_) nofun)
   refine aa.tvs he1 (aa.chk rfl (aa.nat hw.slLen (aa.nat (aR (by omega)) (aa.chk (by rw [hw.slSize]; simpa [hl] using hlt) (aa.tvs he2 (aa.chk rfl (aa.tv rfl ?_)))))))
   cases c with
   | true=>exact aa.ite (v:=false) rfl nofun fun _=>aa.tv (inc hlt (by omega)) (f18_1_J (miss (.inl rfl)))
   | false=>exact aa.ite (v:=true) rfl (fun _=>aa.tv hbl.len (f18_2_J (outBlk hb hM hl hw hu hbl hc (fun h=>miss (.inr h)) (fun w' hs h=>hit w' hs rfl h) u.blocks.length 0 (by omega) fun j hj=>by omega))) nofun)
  m.funcs.length _ _ (by simp) (by simp) yA (repF (n:=m.funcs.length) (by omega))
 refine ⟨y,F',?_,h2,h3,h4⟩
 have han:aK (I (m.funcs.length:Int))=some m.funcs.length:=aR (by omega)
 refine aw.of (f18_MR _) ?_
 unfold f18_M
 refine aa.chk rfl (aa.chk rfl (aa.call hsh (aa.chk rfl (aa.tv rfl (aa.ite rfl (fun h=>?_) fun h=>?_)))))
 ·rw [dH hM] at h; cases h
 ·exact aa.tv hb.len (aa.nat han (aa.nat han (aa.chk (by simp; omega) (f18_0_J h1))))
end Go.Ab.C14
end
section
set_option maxRecDepth 10000
namespace Go.Ab
def gu {α:Type} (f:α->α) (l:List α) (i:Nat):List α:=(l.take i).map f ++ l.drop i
section
variable {α:Type} {f:α->α} {l:List α} {i:Nat} {a:α}
theorem sa:gu f l 0=l:=by simp [gu]
theorem ua:gu f l l.length=l.map f:=by simp [gu]
theorem lR:(gu f l i).length=l.length:=by simp [gu]; omega
theorem lh (h:l[i]? = some a):(gu f l i)[i]? = some a:=by
 have:=(B7.1 h).1
 unfold gu
 rw [Ci (by simp; omega)]
 simp only [List.length_map,List.length_take,List.getElem?_drop]
 rw [show i + (i - min i l.length)=i by omega]
 exact h
theorem pH (h:l[i]? = some a):(gu f l i).set i (f a)=gu f l (i + 1):=by
 have hi:=(B7.1 h).1
 apply List.ext_getElem?
 intro j
 rw [List.getElem?_set]
 unfold gu
 by_cases hj:i=j
 ·subst hj
  rw [if_pos rfl,if_pos (by simp; omega),Ch (by simp; omega),Cd,List.getElem?_take_of_lt (by omega),h]
  rfl
 ·rw [if_neg hj]
  rcases Nat.lt_or_ge j i with h1 | h1
  ·rw [Ch (by simp; omega),Ch (by simp; omega),Cd,Cd,List.getElem?_take_of_lt (by omega),List.getElem?_take_of_lt (by omega)]
  ·rw [Ci (by simp; omega),Ci (by simp; omega)]
   simp only [List.length_map,List.length_take,List.getElem?_drop]
   congr 1
   omega
theorem ym (h:l[i]? = some a) (e:f a=a):gu f l (i + 1)=gu f l i:=by
 rw [<- pH h,e]
 apply List.ext_getElem?
 intro j
 by_cases hj:j=i
 ·subst hj
  rw [List.getElem?_set_self (by rw [lR]; exact (B7.1 h).1),lh h]
 ·rw [List.getElem?_set_ne (Ne.symm hj)]
end
theorem cG {α:Type}:∀ (l:List α) (n:Nat) (b:α),ai l n b=l.set n b
 | [],_,_=>rfl
 | _ :: _,0,_=>rfl
 | a :: l,n + 1,b=>by simp [ai,cG l n b]
def TR (xs:List (List TV)) (n:Nat) (P R:TV) (ys:List (List TV)):TV:=.sl true 3 (ai xs n [P,R,.sl true 14 ys])
section
variable {xs ys:List (List TV)} {n k j:Nat} {P R v z:TV} {e:List TV} (hn:n < xs.length)
include hn
theorem wT:(ai xs n [P,R,.sl true 14 ys])[n]? = some [P,R,.sl true 14 ys]:=by rw [cG,List.getElem?_set_self hn]
theorem vf:aI [(n,2)] (TR xs n P R ys)=some (.sl true 14 ys):=by
 simp only [TR,aI,wT hn]
 rfl
theorem gC (hk:ys[k]? = some e):aI [(n,2),(k,j)] (TR xs n P R ys)=(match e[j]? with | some z=>some z | none=>none):=by
 simp only [TR,aI,wT hn]
 show (match ys[k]? with | some e=>(match e[j]? with | some z=>some z | none=>none) | none=>none)=_
 rw [hk]
theorem sM (hk:ys[k]? = some e) (hj:e[j]? = some z):fK [(n,2),(k,j)] (TR xs n P R ys) v=some (TR xs n P R (ai ys k (ai e j v))):=by
 have h2:([P,R,.sl true 14 ys]:List TV)[2]? = some (.sl true 14 ys):=rfl
 simp only [TR,fK,wT hn,h2,hk,hj]
 congr 2
 simp only [cG,List.set_set]
 rfl
theorem Bf (hk:ys[k]? = some e) {cs:List TV}:gW [(n,2)] (TR xs n P R ys) k 0 cs=some (TR xs n P R (ai ys k (bj e 0 cs))):=by
 have h2:([P,R,.sl true 14 ys]:List TV)[2]? = some (.sl true 14 ys):=rfl
 unfold gW
 rw [vf hn]
 simp only [sq,hk]
 simp only [TR,fK,wT hn,h2]
 congr 2
 simp only [cG,List.set_set]
 rfl
end
theorem AP {α:Type} {l:List α} {k:Nat} {a b:α}:ai (ai l k a) k b=ai l k b:=by rw [cG,cG,cG,List.set_set]
theorem qY {α:Type} {l:List α} {k:Nat} {a:α} (h:k < l.length):(ai l k a)[k]? = some a:=by rw [cG,List.getElem?_set_self h]
theorem RBlock.AI {q:Option Bool} {e:List TV} {b:DBlock} (h:RBlock q e b):ac dA e 0=true:=by
 obtain ⟨c,i,g,rfl,hc,_,hi,hg,_⟩:=h
 simp [ac,dA,au,TV.isSc,scV,hc.isSl,hi.isSl,hg.isSl]
def mR (bs:List DBlock):Nat:=bs.countP fun b=>decide (b.fin.kind=4)
def cX (fs:List DFunc) (i:Nat):Nat:=((fs.take i).map fun u=>mR u.blocks).sum
def l8 (m:DMod):Nat:=(m.funcs.map fun u=>mR u.blocks).sum
theorem pG (m:DMod):cX m.funcs m.funcs.length=l8 m:=by simp [cX,l8]
theorem nD {fs:List DFunc} {i:Nat} {u:DFunc} (h:fs[i]? = some u):cX fs (i + 1)=cX fs i + mR u.blocks:=by
 unfold cX
 rw [List.take_add_one,h]
 simp
theorem xq {bs:List DBlock} {j:Nat} {b:DBlock} (h:bs[j]? = some b):mR (bs.take (j + 1))=mR (bs.take j) + if b.fin.kind=4 then 1 else 0:=by
 unfold mR
 rw [List.take_add_one,h]
 simp only [Option.toList_some,List.countP_append,List.countP_cons,List.countP_nil,decide_eq_true_eq]
 omega
theorem sA (bs:List DBlock):mR bs<=bs.length:=List.countP_le_length
def Bg (m:DMod):Prop:=m.funcs.length<=1000/\∀ u ∈ m.funcs,u.blocks.length<=1000
theorem vX {fs:List DFunc} (h:∀ u ∈ fs,u.blocks.length<=1000):∀ i,cX fs i<=i * 1000:=by
 intro i
 induction i with
 | zero=>simp [cX]
 | succ i ih =>
  cases hu:fs[i]? with
  | none =>
   have:cX fs (i + 1)=cX fs i:=by unfold cX; rw [List.take_add_one,hu]; simp
   omega
  | some u =>
   rw [nD hu]
   have:=sA u.blocks
   have:=h u (Cg hu)
   omega
theorem xW {m:DMod} (h:gP m):Bg m:=⟨by have:=h.1; omega,fun u hu=>by
 obtain ⟨i,hi,rfl⟩:=List.mem_iff_getElem.1 hu
 have:=(h.2 i hi _ (B8 hi)).1
 omega⟩
theorem Br {a b:Nat} (h:a + b<=9223372036854775807):pbin (.int .i64) .add (I (a:Int)) (I (b:Int))=some (I ((a + b:Nat):Int)):=by
 rw [padd (by constructor <;> omega)]; simp
end Go.Ab
namespace Go.Ab.C14
open Go Go.Ab Go.Proofs
theorem qp {q:Option Bool} {e:List TV} {b:DBlock} (he:RBlock q e b):aw prog 27 [.agg e] (B (decide (b.fin.kind=4))):=by
 obtain ⟨c,i,g,rfl,_⟩:=he
 refine aw.of (f27_MR _) ?_
 unfold f27_M
 refine aa.chk rfl (aa.tv rfl ?_)
 have:(b.fin.kind == 4)=decide (b.fin.kind=4):=rfl
 rw [<- this]
 exact aa.ret
theorem xL {q q':Option Bool} {e:List TV} {b:DBlock} {w:TV} {F:List Bool} (he:RBlock q e b) (hw:RBools q' w F) (hn:b.fin.kind=4->0<=b.fin.f/\b.fin.f.toNat < F.length):aw prog 25 [.agg e,w] (B (tt (b.fin.kind=4/\F[b.fin.f.toNat]? = some false))):=by
 have h0:=qp he
 obtain ⟨c,i,g,rfl,_⟩:=he
 refine aw.of (f25_MR _ _) ?_
 unfold f25_M
 refine aa.chk rfl (aa.call h0 (aa.chk rfl ?_))
 by_cases h4:b.fin.kind=4
 ·obtain ⟨g0,g1⟩:=hn h4
  have hc:=B8 g1
  generalize F[b.fin.f.toNat]=x at hc
  obtain ⟨e2,he2,hR2⟩:=hw.yr (k:=.i64) g0 hc
  cases hR2
  refine aa.ite (v:=true) (by simp [asBool,h4]) (fun _=>?_) nofun
  refine aa.tvs he2 (aa.chk rfl (aa.tv (v:=B (!x)) rfl ?_))
  refine dO ⟨fun h=>⟨h4,by rw [hc]; cases x <;> simp at h <;> rfl⟩,fun h=>?_⟩
  have:=h.2
  rw [hc] at this
  cases this
  rfl
 ·exact aa.ite (v:=false) (by simp [asBool,h4]) nofun fun _=>bg fun h=>h4 h.1
theorem BY {q:Option Bool} {e:List TV} {m:DMod} (he:RMod q e m) (hf:Bg m):aw prog 10 [.agg e] (I (l8 m:Nat)):=by
 obtain ⟨x,rfl,hx⟩:=he
 have hle:=vX hf.2
 have inner:∀ {i:Nat} {u:DFunc} {y:TV} {r:TV},m.funcs[i]? = some u->RL q 14 (RBlock q) y u.blocks->aa prog 10 (f10_0 (I (cX m.funcs (i + 1):Nat)) x (I m.funcs.length) (I ((i + 1:Nat):Int))) r ->
   ∀ d j,j + d=u.blocks.length->aa prog 10 (f10_1 (I ((cX m.funcs i + mR (u.blocks.take j):Nat):Int)) x (I m.funcs.length) (I (i:Int)) y (I u.blocks.length) (I (j:Int))) r:=by
  intro i u y r hu hy hr d
  have hi:=(B7.1 hu).1
  have hfi:=hf.1
  have hub:=hf.2 u (Cg hu)
  induction d with
  | zero =>
   intro j hj
   have hj:j=u.blocks.length:=by omega
   subst hj
   rw [List.take_length,<- nD hu]
   unfold f10_1
   exact aa.tv rfl (aa.ite aV nofun fun _=>aa.tv (inc hi (by omega)) (f10_0_J hr))
  | succ d ih =>
   intro j hj
   have hjl:j < u.blocks.length:=by omega
   obtain ⟨b,hb⟩:∃ b,u.blocks[j]? = some b:=⟨_,B8 hjl⟩
   obtain ⟨e,he,hR⟩:=hy.idx (k:=.i64) hb
   have hI:=qp hR
   have hl1:=hle i
   have hl2:=sA (u.blocks.take j)
   simp only [List.length_take] at hl2
   have ih':=ih (j + 1) (by omega)
   rw [xq hb] at ih'
   obtain ⟨c,ii,g,rfl,_⟩:=hR
   unfold f10_1
   refine aa.tv rfl (aa.ite (be hjl) (fun _=>?_) nofun)
   refine aa.tvs he (aa.chk rfl (aa.call hI (aa.chk rfl ?_)))
   by_cases h4:b.fin.kind=4
   ·rw [if_pos h4] at ih'
    refine aa.ite (v:=true) (by simp [asBool,h4]) (fun _=>?_) nofun
    exact aa.tv (Br (b:=1) (by omega)) (aa.tv (inc hjl (by omega)) (f10_1_J ih'))
   ·rw [if_neg h4] at ih'
    exact aa.ite (v:=false) (by simp [asBool,h4]) nofun fun _=>aa.tv (inc hjl (by omega)) (f10_1_J ih')
 have outer:∀ d i,i + d=m.funcs.length->aa prog 10 (f10_0 (I (cX m.funcs i:Nat)) x (I m.funcs.length) (I (i:Int))) (I (l8 m:Nat)):=by
  intro d
  induction d with
  | zero =>
   intro i hi
   have hi:i=m.funcs.length:=by omega
   subst hi
   rw [pG]
   unfold f10_0
   exact aa.tv rfl (aa.ite aV nofun fun _=>aa.ret)
  | succ d ih =>
   intro i hi
   have hil:i < m.funcs.length:=by omega
   obtain ⟨u,hu⟩:∃ u,m.funcs[i]? = some u:=⟨_,B8 hil⟩
   obtain ⟨e,he,y,rfl,hy,_⟩:=hx.idx (k:=.i64) hu
   have:=inner hu hy (ih (i + 1) (by omega)) u.blocks.length 0 (by omega)
   rw [show cX m.funcs i + mR (u.blocks.take 0)=cX m.funcs i by simp [mR]] at this
   unfold f10_0
   exact aa.tv rfl (aa.ite (be hil) (fun _=>aa.tvs he (aa.chk rfl (aa.tv hy.len (f10_1_J this)))) nofun)
 have:=outer m.funcs.length 0 (by omega)
 rw [show cX m.funcs 0=0 by simp [cX]] at this
 refine aw.of (f10_MR _) ?_
 unfold f10_M
 exact aa.chk rfl (aa.tv hx.len (f10_0_J this))
end Go.Ab.C14
end
section
set_option maxRecDepth 10000
namespace Go.Ab
structure OpK (w:TV) (X:List DFunc) (n k:Nat) (u:DFunc) (b:DBlock) (xs ys:List (List TV)) (c i g:TV):Prop where
 w:w=TR xs n (I u.params) (I u.regs) ys
 n:n < xs.length
 k:ys[k]? = some [B b.landing,I b.pad.dst,c,B b.pad.all,B b.pad.cleanup,i,I b.fin.kind,I b.fin.a,I b.fin.dst,I b.fin.f,g,I b.fin.to,I b.fin.els,I b.fin.pad]
 X:F2 (RFunc (some true)) xs X
 Y:F2 (RBlock (some true)) ys u.blocks
 xl:xs.length<=9223372036854775807
 yl:ys.length<=9223372036854775807
 c:RWords (some true) c b.pad.catches
 d:inI b.pad.dst
 i:RL (some true) 7 (RIns (some true)) i b.ins
 g:RInts (some true) g b.fin.args
 ok:b.fin.ok
 p:inI u.params
 r:inI u.regs
theorem openK {w:TV} {X:List DFunc} {n k:Nat} {u:DFunc} {b:DBlock} (h:RMod (some true) [w] ⟨X⟩) (hn:X[n]? = some u) (hk:u.blocks[k]? = some b):∃ xs ys c i g,OpK w X n k u b xs ys c i g:=by
 obtain ⟨_,hx,hw⟩:=h
 cases hx
 obtain ⟨e,he,hR⟩:=hw.pel hn
 obtain ⟨y,rfl,hy,ho1,ho2⟩:=hR
 rcases hw with ⟨rfl,_⟩ | ⟨o,xs,rfl,hq,hf,hb⟩
 ·cases he
 have ho:o=true:=hq true rfl
 subst ho
 have he:xs[n]? = some [I u.params,I u.regs,y]:=he
 obtain ⟨e2,he2,hR2⟩:=hy.pel hk
 rcases hy with ⟨rfl,_⟩ | ⟨o,ys,rfl,hq2,hf2,hb2⟩
 ·cases he2
 have ho:o=true:=hq2 true rfl
 subst ho
 obtain ⟨c,i,g,rfl,h1,h2,h3,h4,h5⟩:=hR2
 have hnl:=(B7.1 he).1
 refine ⟨xs,ys,c,i,g,?_,hnl,he2,hf,hf2,hb,hb2,h1,h2,h3,h4,h5,ho1,ho2⟩
 unfold TR
 rw [cG]
 congr 1
 exact (qE he).symm
theorem OpK.close {w:TV} {X:List DFunc} {n k:Nat} {u:DFunc} {b b':DBlock} {xs ys:List (List TV)} {c i g:TV} (h:OpK w X n k u b xs ys c i g) {e:List TV} (he:RBlock (some true) e b') :
  RMod (some true) [TR xs n (I u.params) (I u.regs) (ai ys k e)] ⟨X.set n ⟨u.params,u.regs,u.blocks.set k b'⟩⟩ :=
 ⟨_,rfl,.sl (fun _ h=>Option.some.inj h) (h.X.set ⟨_,rfl,.sl (fun _ h=>Option.some.inj h) (h.Y.set he) (by rw [bU]; exact h.yl),h.p,h.r⟩) (by rw [bU]; exact h.xl)⟩
end Go.Ab
namespace Go.Ab.C14
open Go Go.Ab Go.Proofs
open Classical in
noncomputable def b9 (m:DMod) (b:DBlock):DBlock:=if b.fin.kind=4/\¬ Thr m b.fin.f.toNat/\b.ins.length < 64 then jj b else b
theorem pD (m:DMod):jf m=⟨m.funcs.map fun u=>{ u with blocks:=u.blocks.map (b9 m) }⟩:=rfl
section
variable {m:DMod} {F:List Bool} {wF:TV} (hF:RBools (some true) wF F) (hFl:F.length=m.funcs.length) (hFt:∀ k:Nat,F[k]? = some true ↔ Thr m k)
include hF hFl hFt
theorem AZ {X:List DFunc} {n:Nat} (hn:n < X.length) (hn2:n<=1000) {p r:Int} {Y0:List DBlock} (hlen:Y0.length<=1000) (hc:∀ b ∈ Y0,b.ins.length<=1000/\(b.fin.kind=4->0<=b.fin.f/\b.fin.f.toNat < m.funcs.length)) {x0 y6 y7:TV} {Z:TV->Prop}
  (hz:∀ w,RMod (some true) [w] ⟨X.set n ⟨p,r,Y0.map (b9 m)⟩⟩->∃ y,aa prog 9 (f9_0 x0 (I ((n + 1:Nat):Int)) wF w) y/\Z y) :
  ∀ (d k:Nat) (w:TV),k + d=Y0.length->RMod (some true) [w] ⟨X.set n ⟨p,r,gu (b9 m) Y0 k⟩⟩->∃ y,aa prog 9 (f9_1 x0 (I (n:Int)) n (I Y0.length) (I (k:Int)) wF y6 y7 n w) y/\Z y:=by
 intro d
 induction d with
 | zero =>
  intro k w hk hw
  have hk:k=Y0.length:=by omega
  subst hk
  rw [ua] at hw
  obtain ⟨y,g1,g2⟩:=hz w hw
  refine ⟨y,?_,g2⟩
  unfold f9_1
  exact aa.tv rfl (aa.ite aV nofun fun _=>aa.tv (inc (k:=n) (n:=1001) (by omega) (by omega)) (f9_0_J g1))
 | succ d ih =>
  intro k w hk hw
  have hkl:k < Y0.length:=by omega
  obtain ⟨b,hb⟩:∃ b,Y0[k]? = some b:=⟨_,B8 hkl⟩
  obtain ⟨hci,hcf⟩:=hc b (Cg hb)
  have e1:(X.set n ⟨p,r,gu (b9 m) Y0 k⟩)[n]? = some ⟨p,r,gu (b9 m) Y0 k⟩:=List.getElem?_set_self hn
  obtain ⟨xs,ys,c,i,g,hO⟩:=openK hw e1 (lh hb)
  obtain ⟨rfl,on,ok,oX,oY,oxl,oyl,oc,od,oi,og,oo,op,orr⟩:=hO
  have hO:OpK _ _ n k ⟨p,r,gu (b9 m) Y0 k⟩ b xs ys c i g:=⟨rfl,on,ok,oX,oY,oxl,oyl,oc,od,oi,og,oo,op,orr⟩
  have oyk:=(B7.1 ok).1
  have oylen:ys.length=Y0.length:=by rw [oY.length]; exact lR
  have ank:aK (I (k:Int))=some k:=aR (by omega)
  have gz:=vf (ys:=ys) (P:=I p) (R:=I r) on
  have sl:∀ {zs:List (List TV)},zs.length=Y0.length->slLen (.sl true 14 zs)=some Y0.length/\(slSize (.sl true 14 zs) 14 && Nat.blt k Y0.length)=true:=fun h=>⟨by simp [slLen,h],by simp [slSize]; exact hkl⟩
  have hR:RBlock (some true) [B b.landing,I b.pad.dst,c,B b.pad.all,B b.pad.cleanup,i,I b.fin.kind,I b.fin.a,I b.fin.dst,I b.fin.f,g,I b.fin.to,I b.fin.els,I b.fin.pad] b:=⟨c,i,g,rfl,oc,od,oi,og,oo⟩
  have hnd:=xL hR.frz (hF.frz fun _ _ h=>h.frz) (fun h=>by rw [hFl]; exact hcf h)
  have hback:b9 m b=b->∃ y,aa prog 9 (f9_1 x0 (I (n:Int)) n (I Y0.length) (I ((k + 1:Nat):Int)) wF y6 y7 n (TR xs n (I p) (I r) ys)) y/\Z y:=fun h=>ih (k + 1) _ (by omega) (by rw [ym hb h]; exact hw)
  have front:∀ {y:TV},aa prog 9 (.ite (asBool (B (tt (b.fin.kind=4/\F[b.fin.f.toNat]? = some false)))) _ _) y->aa prog 9 (f9_1 x0 (I (n:Int)) n (I Y0.length) (I (k:Int)) wF y6 y7 n (TR xs n (I p) (I r) ys)) y:=fun {y} h=>by
   unfold f9_1
   refine aa.tv rfl (aa.ite (be hkl) (fun _=>?_) nofun)
   exact aa.tv gz (aa.nat (sl oylen).1 (aa.nat ank (aa.chk (sl oylen).2 (aa.tv gz (aa.tvs ok (aa.chk hR.AI (aa.tv (gC on ok) (aa.tv (gC on ok) (aa.tv (gC on ok) (aa.call hnd (aa.chk rfl h)))))))))))
  by_cases h4:b.fin.kind=4/\F[b.fin.f.toNat]? = some false
  ·have hnt:¬ Thr m b.fin.f.toNat:=fun h=>by rw [(hFt _).2 h] at h4; cases h4.2
   by_cases hl:b.ins.length < 64
   ·have hG:b9 m b=jj b:=if_pos ⟨h4.1,hnt,hl⟩
    have i11:inI 11:=by unfold inI; omega
    have i0:inI 0:=by unfold inI; omega
    have i2:inI 2:=by unfold inI; omega
    have w0:inW 0:=by unfold inW; omega
    have hrow:RIns (some true) [I 11,I b.fin.dst,I 0,I 0,W 0,I b.fin.f,g] ⟨11,b.fin.dst,0,0,0,b.fin.f,b.fin.args⟩:=⟨g,rfl,og,i11,oo.2.2.1,i0,i0,w0,oo.2.2.2.1⟩
    obtain ⟨i',a1,a2⟩:=oi.app hrow (by omega)
    have hB:RBlock (some true) [B b.landing,I b.pad.dst,c,B b.pad.all,B b.pad.cleanup,i',I 2,I 0,I 0,I 0,.lit bm,I b.fin.to,I 0,I 0] (jj b):=⟨c,i',.lit bm,rfl,oc,od,a2,RL.nil,i2,i0,i0,i0,oo.2.2.2.2.1,i0,i0⟩
    have hend:=hO.close hB
    simp only [List.set_set] at hend
    rw [<- hG,pH hb] at hend
    obtain ⟨y,g1,g2⟩:=ih (k + 1) _ (by omega) hend
    refine ⟨y,front (aa.ite (v:=true) (by rw [dH h4]; rfl) (fun _=>?_) nofun),g2⟩
    refine aa.tv (gC on ok) (aa.tv oi.len (aa.tv rfl (aa.ite (v:=true) (by simp [asBool]; omega) (fun _=>?_) nofun)))
    have k1:∀ {e:List TV},(ai ys k e)[k]? = some e:=qY oyk
    have k3:∀ {e:List TV} {zs:List (List TV)},zs.length=ys.length->(ai zs k e)[k]? = some e:=fun h=>qY (by omega)
    refine aa.tv (gC on ok) (aa.tv (sM on ok rfl) (aa.tv (gC on k1) (aa.tv (sM on k1 rfl) ?_)))
    refine aa.rws rfl (aa.tv (gC on (k3 (by simp only [bU]))) (aa.tv a1 (aa.tv (sM on (k3 (by simp only [bU])) rfl) ?_)))
    have hbq:Nat.beq n n=true:=Nat.beq_refl n
    refine aa.chk (by simp [j0]) (aa.chk (by simp [hbq]) (aa.chk (by simp [j0,hbq]) (aa.chk rfl (aa.chk (by simp [j0]) (aa.chk (by simp [hbq]) (aa.chk (by simp [j0,hbq]) ?_))))))
    have l2:(ai (ai (ai ys k (ai [B b.landing,I b.pad.dst,c,B b.pad.all,B b.pad.cleanup,i,I b.fin.kind,I b.fin.a,I b.fin.dst,I b.fin.f,g,I b.fin.to,I b.fin.els,I b.fin.pad] 2 TV.hole)) k (ai (ai [B b.landing,I b.pad.dst,c,B b.pad.all,B b.pad.cleanup,i,I b.fin.kind,I b.fin.a,I b.fin.dst,I b.fin.f,g,I b.fin.to,I b.fin.els,I b.fin.pad] 2 TV.hole) 10 TV.hole)) k (ai (ai (ai [B b.landing,I b.pad.dst,c,B b.pad.all,B b.pad.cleanup,i,I b.fin.kind,I b.fin.a,I b.fin.dst,I b.fin.f,g,I b.fin.to,I b.fin.els,I b.fin.pad] 2 TV.hole) 10 TV.hole) 5 TV.hole)).length=Y0.length:=by simp only [bU]; exact oylen
    have gz3:=vf (ys:=ai (ai (ai ys k (ai [B b.landing,I b.pad.dst,c,B b.pad.all,B b.pad.cleanup,i,I b.fin.kind,I b.fin.a,I b.fin.dst,I b.fin.f,g,I b.fin.to,I b.fin.els,I b.fin.pad] 2 TV.hole)) k (ai (ai [B b.landing,I b.pad.dst,c,B b.pad.all,B b.pad.cleanup,i,I b.fin.kind,I b.fin.a,I b.fin.dst,I b.fin.f,g,I b.fin.to,I b.fin.els,I b.fin.pad] 2 TV.hole) 10 TV.hole)) k (ai (ai (ai [B b.landing,I b.pad.dst,c,B b.pad.all,B b.pad.cleanup,i,I b.fin.kind,I b.fin.a,I b.fin.dst,I b.fin.f,g,I b.fin.to,I b.fin.els,I b.fin.pad] 2 TV.hole) 10 TV.hole) 5 TV.hole)) (P:=I p) (R:=I r) on
    refine aa.tv gz3 (aa.nat (sl l2).1 (aa.nat ank (aa.chk (sl l2).2 (aa.tv gz3 (aa.tvs (k3 (by simp only [bU])) (aa.chk ?_ (aa.tv (Bf on (k3 (by simp only [bU]))) (aa.tv (inc hkl (by omega)) ?_))))))))
    ·show (b8 dA [B b.landing,I b.pad.dst,.hole,B b.pad.all,B b.pad.cleanup,.hole,I b.fin.kind,I b.fin.a,I b.fin.dst,I b.fin.f,.hole,I b.fin.to,I b.fin.els,I b.fin.pad] 0 && ac dA [B b.landing,I b.pad.dst,c,B b.pad.all,B b.pad.cleanup,i',I 2,I 0,I 0,I 0,.lit bm,I b.fin.to,I 0,I 0] 0)=true
     rw [hB.AI,Bool.and_true]
     rfl
    ·refine f9_1_J ?_
     simp only [AP]
     have hE:∀ E,E=[B b.landing,I b.pad.dst,c,B b.pad.all,B b.pad.cleanup,i',I 2,I 0,I 0,I 0,.lit bm,I b.fin.to,I 0,I 0]->aa prog 9 (f9_1 x0 (I (n:Int)) n (I Y0.length) (I ((k + 1:Nat):Int)) wF y6 y7 n (TR xs n (I p) (I r) (ai ys k E))) y:=fun E h=>by rw [h]; exact g1
     exact hE _ (by kernel_rfl)
   ·have hG:b9 m b=b:=if_neg fun h=>hl h.2.2
    obtain ⟨y,g1,g2⟩:=hback hG
    refine ⟨y,front (aa.ite (v:=true) (by rw [dH h4]; rfl) (fun _=>?_) nofun),g2⟩
    refine aa.tv (gC on ok) (aa.tv oi.len (aa.tv rfl (aa.ite (v:=false) (by simp [asBool]; omega) nofun fun _=>?_)))
    exact aa.tv (inc hkl (by omega)) (f9_1_J g1)
  ·have hG:b9 m b=b:=if_neg fun h=>h4 ⟨h.1,by
    have h1:=(hcf h.1).2
    rw [<- hFl] at h1
    rw [B8 h1]
    cases hx:F[b.fin.f.toNat] with
    | false=>rfl
    | true=>exact absurd ((hFt _).1 (by rw [B8 h1,hx])) h.2.1⟩
   obtain ⟨y,g1,g2⟩:=hback hG
   refine ⟨y,front (aa.ite (v:=false) (by rw [ic h4]; rfl) nofun fun _=>?_),g2⟩
   exact aa.tv (inc hkl (by omega)) (f9_1_J g1)
end
end Go.Ab.C14
end
section
set_option maxRecDepth 10000
namespace Go.Ab
section
variable {α:Type} {q:Option Bool} {s:Nat} {R S:List TV->α->Prop} {x:TV} {l:List α}
end
theorem lB {x z:TV} {n j:Nat} {e:List TV} (h:Go.Ab.pel x n=some e) (hj:e[j]? = some z):aI [(n,j)] x=some z:=by
 cases x with
 | sl o s xs =>
  have h:xs[n]? = some e:=h
  simp [aI,h,hj]
 | _=>cases h
theorem tA {x y z:TV} {n i k j:Nat} {e:List TV} (h:aI [(n,i)] x=some y) (hk:Go.Ab.pel y k=some e) (hj:e[j]? = some z):aI [(n,i),(k,j)] x=some z:=by
 have:=qq [(n,i)] k j x y h
 rw [lB hk hj] at this
 exact this
theorem Bv {v:TV} (h:v.isSl=true):ac zSl [v] 0=true:=by
 show (v.isSl && true)=true
 rw [h]; rfl
end Go.Ab
namespace Go.Ab.C14
open Go Go.Ab Go.Proofs
theorem AW {e:List TV} {m:DMod} (he:RMod (some false) e m) (hs:gP m) (hM:¬ qJ m):∃ w,aw prog 9 [.agg e] (.tup [.agg [w],I 1])/\RMod (some true) [w] m:=by
 have c0:=r8 he
 rw [ic hM] at c0
 obtain ⟨e',c1,c2⟩:=r16 he hs
 obtain ⟨x,rfl,hx⟩:=he
 obtain ⟨w,rfl,hw⟩:=c2
 refine ⟨w,?_,w,rfl,hw⟩
 have hO:=hw.own fun _ _ h=>h.own
 refine aw.of (f9_MR _) ?_
 unfold f9_M
 refine aa.chk rfl (aa.call c0 (aa.chk rfl (aa.tv rfl (aa.ite (v:=true) rfl (fun _=>?_) nofun))))
 exact aa.call c1 (aa.chk (by simp [TV.isAgg,ac,zSl,au,TV.cellsL,hw.isSl]) (aa.chk (by show bF [.agg [w],I 1]=true; simp [bF,bT,hO]) aa.ret))
noncomputable def ji (m:DMod) (u:DFunc):DFunc:={ u with blocks:=u.blocks.map (b9 m) }
theorem uM {m:DMod} (hM:qJ m) {u:DFunc} (hu:u ∈ m.funcs) {b:DBlock} (hb:b ∈ u.blocks) (h4:b.fin.kind=4):0<=b.fin.f/\b.fin.f.toNat < m.funcs.length:=by
 obtain ⟨n,hn,rfl⟩:=List.mem_iff_getElem.1 hu
 obtain ⟨k,hk,rfl⟩:=List.mem_iff_getElem.1 hb
 exact ((uw hM (B8 hn) (B8 hk)).2 h4).1
theorem ng {m:DMod} (hs:gP m) {u:DFunc} (hu:u ∈ m.funcs):u.blocks.length<=70/\∀ b ∈ u.blocks,b.ins.length<=70:=by
 obtain ⟨n,hn,rfl⟩:=List.mem_iff_getElem.1 hu
 have h:=hs.2 n hn _ (B8 hn)
 refine ⟨h.1,fun b hb=>?_⟩
 obtain ⟨k,hk,rfl⟩:=List.mem_iff_getElem.1 hb
 exact (h.2 k hk _ (B8 hk)).1
theorem Ad {x:TV} {m:DMod} (hx:RL (some false) 3 (RFunc (some false)) x m.funcs) (hs:gP m) (hM:qJ m):∃ w,aw prog 9 [.agg [x]] (.tup [.agg [w],I 0])/\RMod (some true) [w] (jf m):=by
 have he:RMod (some false) [x] m:=⟨x,rfl,hx⟩
 have c0:=r8 he
 rw [dH hM] at c0
 obtain ⟨wF,F,a1,a2,a3,a4⟩:=rOut he hM
 obtain ⟨e',c1,c2⟩:=r16 he hs
 obtain ⟨w0,rfl,hw0⟩:=c2
 have hN:=hs.1
 have key:∀ (d i:Nat) (w:TV),i + d=m.funcs.length->RMod (some true) [w] ⟨gu (ji m) m.funcs i⟩->∃ y,aa prog 9 (f9_0 (I m.funcs.length) (I (i:Int)) wF w) y/\∃ w',y=.tup [.agg [w'],I 0]/\RMod (some true) [w'] (jf m):=by
  intro d
  induction d with
  | zero =>
   intro i w hi hw
   have hi:i=m.funcs.length:=by omega
   subst hi
   rw [ua] at hw
   refine ⟨_,?_,w,rfl,hw⟩
   obtain ⟨_,hx,hw⟩:=hw
   cases hx
   have hO:=hw.own fun _ _ h=>h.own
   unfold f9_0
   exact aa.tv rfl (aa.ite aV nofun fun _=>aa.chk (by show bF [.agg [w],I 0]=true; simp [bF,bT,hO]) aa.ret)
  | succ d ih =>
   intro i w hi hw
   have hil:i < m.funcs.length:=by omega
   obtain ⟨u,hu⟩:∃ u,m.funcs[i]? = some u:=⟨_,B8 hil⟩
   have hum:=Cg hu
   have hul:i < (gu (ji m) m.funcs i).length:=by rw [lR]; exact hil
   have hbd:=ng hs hum
   have hself:(gu (ji m) m.funcs i).set i ⟨u.params,u.regs,gu (b9 m) u.blocks 0⟩=gu (ji m) m.funcs i:=by
    rw [sa]
    exact qE (lh hu)
   have hw':=hw
   obtain ⟨_,hx,hwl⟩:=hw'
   cases hx
   obtain ⟨e,he,y,rfl,hy,ho⟩:=hwl.pel (lh (f:=ji m) hu)
   have l:=hwl.slLen
   rw [show (gu (ji m) m.funcs i).length=m.funcs.length from lR] at l
   obtain ⟨r,g1,g2⟩:=AZ a2 a3 a4 hul (by omega) (p:=u.params) (r:=u.regs) (Y0:=u.blocks) (by omega) (fun b hb=>⟨by have:=hbd.2 b hb; omega,uM hM hum hb⟩) (x0:=I m.funcs.length) (y6:=I u.params) (y7:=I u.regs)
    (Z:=fun y=>∃ w',y=.tup [.agg [w'],I 0]/\RMod (some true) [w'] (jf m)) (fun w2 hw2=>ih (i + 1) w2 (by omega) (by rw [<- pH hu]; exact hw2)) u.blocks.length 0 w (by omega) (by rw [hself]; exact hw)
   refine ⟨r,?_,g2⟩
   have ani:aK (I (i:Int))=some i:=aR (by omega)
   unfold f9_0
   refine aa.tv rfl (aa.ite (be hil) (fun _=>?_) nofun)
   exact aa.nat l (aa.nat ani (aa.chk (by rw [hwl.slSize]; simpa using hil) (aa.tvs he (aa.chk (by simp [ac,BL,au,TV.isSc,scV,hy.isSl]) (aa.tv (lB he rfl) (aa.tv hy.len (f9_1_J g1)))))))
 obtain ⟨y,g1,w,rfl,g2⟩:=key m.funcs.length 0 w0 (by omega) (by rw [sa]; exact ⟨_,rfl,hw0⟩)
 refine ⟨w,?_,g2⟩
 refine aw.of (f9_MR _) ?_
 unfold f9_M
 refine aa.chk rfl (aa.call c0 (aa.chk rfl (aa.tv rfl (aa.ite (v:=false) rfl nofun fun _=>?_))))
 exact aa.call a1 (aa.chk (Bv a2.isSl) (aa.call c1 (aa.chk (by simp [TV.isAgg,ac,zSl,au,TV.cellsL,hw0.isSl]) (aa.tv hw0.len (f9_0_J g1)))))
end Go.Ab.C14
end
section
set_option maxRecDepth 100000
namespace Go.Ab
end Go.Ab
namespace Go.Ab.C14
open Go Go.Ab Go.Proofs
theorem zJ:aw prog 6 [] (B true):=⟨100,by kernel_rfl⟩
theorem oL {m:DMod} (h:Bg m):Bg (jf m):=⟨by simpa [jf,mapU] using h.1,fun u hu=>by
 rw [pD] at hu
 obtain ⟨v,hv,rfl⟩:=List.mem_map.1 hu
 simpa using h.2 v hv⟩
end Go.Ab.C14
end
section
set_option maxRecDepth 100000
namespace Go.Ab.C14
open Go Go.Ab Go.Proofs
noncomputable def lM (m:DMod) (b:DBlock):Nat:=(b9 m b).ins.length - b.ins.length
noncomputable def nT (m:DMod) (bs:List DBlock):Nat:=(bs.map (lM m)).sum
noncomputable def ez (m:DMod) (i:Nat):Nat:=((m.funcs.take i).map fun u=>nT m u.blocks).sum
theorem jO (m:DMod) (b:DBlock):(b9 m b=b/\lM m b=0)\/(b9 m b=jj b/\lM m b=1/\b.fin.kind=4):=by
 by_cases h:b.fin.kind=4/\¬ Thr m b.fin.f.toNat/\b.ins.length < 64
 ·have e:b9 m b=jj b:=if_pos h
  exact .inr ⟨e,by simp [lM,e,jj],h.1⟩
 ·have e:b9 m b=b:=if_neg h
  exact .inl ⟨e,by simp [lM,e]⟩
theorem qk (m:DMod):∀ bs:List DBlock,mR (bs.map (b9 m)) + nT m bs=mR bs
 | []=>rfl
 | b :: bs=>by
  have ih:=qk m bs
  unfold mR nT at ih ⊢
  simp only [List.map_cons,List.countP_cons,List.sum_cons,decide_eq_true_eq]
  rcases jO m b with ⟨e,h⟩ | ⟨e,h,h4⟩
  ·rw [e,h]; omega
  ·rw [e,h,if_neg (by simp [jj]),if_pos h4]; omega
theorem xo (m:DMod):l8 (jf m) + ez m m.funcs.length=l8 m:=by
 unfold l8 ez
 rw [List.take_length,pD]
 simp only [List.map_map]
 generalize m.funcs=fs
 induction fs with
 | nil=>rfl
 | cons u fs ih =>
  simp only [List.map_cons,List.sum_cons,Function.comp_def] at ih ⊢
  have:=qk m u.blocks
  omega
theorem pK {m:DMod} {i:Nat} {u:DFunc} (h:m.funcs[i]? = some u):ez m (i + 1)=ez m i + nT m u.blocks:=by
 unfold ez
 rw [List.take_add_one,h]
 simp
theorem yk {m:DMod} {bs:List DBlock} {k:Nat} {b:DBlock} (h:bs[k]? = some b):nT m (bs.take (k + 1))=nT m (bs.take k) + lM m b:=by
 unfold nT
 rw [List.take_add_one,h]
 simp
theorem wd (m:DMod) (bs:List DBlock):nT m bs<=bs.length:=by
 have:=qk m bs
 have:=sA bs
 omega
theorem yC {m:DMod} (h:∀ u ∈ m.funcs,u.blocks.length<=1000):∀ i,ez m i<=i * 1000:=by
 intro i
 induction i with
 | zero=>simp [ez]
 | succ i ih =>
  cases hu:m.funcs[i]? with
  | none =>
   have:ez m (i + 1)=ez m i:=by unfold ez; rw [List.take_add_one,hu]; simp
   omega
  | some u =>
   rw [pK hu]
   have:=wd m u.blocks
   have:=h u (Cg hu)
   omega
theorem yG {m:DMod} {b:DBlock} {j:Nat} (hj:j < b.ins.length):(b9 m b).ins[j]? = b.ins[j]? /\ j < (b9 m b).ins.length:=by
 rcases jO m b with ⟨e,_⟩ | ⟨e,_⟩
 ·rw [e]; exact ⟨rfl,hj⟩
 ·rw [e]
  exact ⟨Ch hj,by simp [jj]; omega⟩
theorem rCalmCounts {e : List TV} {m : DMod} (he : RMod (some false) e m) : aw prog 5 [.agg e] (B true) := by
 obtain ⟨sh,hsh,hsm⟩:=r7 he
 have he0:=he
 obtain ⟨x,rfl,hx⟩:=he
 refine aw.of (f5_MR _) ?_
 unfold f5_M
 refine aa.chk rfl (aa.call zJ (aa.chk rfl (aa.tv rfl (aa.ite (v:=false) rfl nofun fun _=>?_))))
 refine aa.call hsh (aa.chk rfl (aa.tv rfl ?_))
 cases sh with
 | false=>exact aa.ite (v:=true) rfl (fun _=>aa.ret) nofun
 | true =>
  refine aa.ite (v:=false) rfl nofun fun _=>?_
  have hs:=hsm rfl
  have hfew:=xW hs
  by_cases hM:qJ m
  rotate_left
  ·obtain ⟨w,m1,m2⟩:=AW he0 hs hM
   obtain ⟨_,hq,hw⟩:=m2
   cases hq
   have t2:=r18 (a:=m) (b:=m) (q:=some false) (q':=some false) ⟨_,rfl,hw.frz fun _ _ h=>h.frz⟩ he0
   rw [dH rfl] at t2
   exact aa.call m1 (aa.chk rfl (aa.chk (by simp [TV.comp,nth,TV.isAgg,ac,zSl,au,TV.cellsL,hw.isSl]) (aa.chk rfl (aa.tv rfl (aa.ite (v:=true) rfl (fun _=>aa.call t2 (aa.chk rfl aa.ret)) nofun)))))
  obtain ⟨w,m1,m2⟩:=Ad hx hs hM
  obtain ⟨_,hq,hw⟩:=m2
  cases hq
  refine aa.call m1 (aa.chk rfl (aa.chk (by simp [TV.comp,nth,TV.isAgg,ac,zSl,au,TV.cellsL,hw.isSl]) (aa.chk rfl (aa.tv rfl (aa.ite (v:=false) rfl nofun fun _=>f5_0_J ?_)))))
  have hN:=hs.1
  have hfl:=yC hfew.2
  have zm:RMod (some false) [frz w] (jf m):=⟨_,rfl,hw.frz fun _ _ h=>h.frz⟩
  have cnt1:=BY zm (oL hfew)
  have cnt2:=BY he0 hfew
  have hmany:=xo m
  have last:aa prog 5 (f5_2 (I ((ez m m.funcs.length:Nat):Int)) x w .hole) (B true):=by
   have b1:=hfl m.funcs.length
   have b2:=vX (oL hfew).2 (jf m).funcs.length
   rw [pG] at b2
   have b3:=(oL hfew).1
   unfold f5_2
   refine aa.call cnt1 (aa.chk rfl (aa.tv (Br (by omega)) (aa.call cnt2 (aa.chk rfl (aa.tv (v:=B true) ?_ aa.ret)))))
   rw [hmany]
   show some (TV.lit (.bool (((l8 m:Nat):Int) == ((l8 m:Nat):Int))))=_
   rw [beq_self_eq_true]
  have key : ∀ (d i : Nat), i + d = m.funcs.length → aa prog 5 (f5_0 (I ((ez m i : Nat) : Int)) (I (i : Int)) x w .hole) (B true) := by
   intro d
   induction d with
   | zero =>
    intro i hi
    have hi:i=m.funcs.length:=by omega
    subst hi
    unfold f5_0
    exact aa.tv hx.len (aa.tv rfl (aa.ite aV nofun fun _=>f5_2_J last))
   | succ d ih =>
    intro i hi
    have hil:i < m.funcs.length:=by omega
    obtain ⟨u,hu⟩:∃ u,m.funcs[i]? = some u:=⟨_,B8 hil⟩
    have hum:=Cg hu
    have hbd:=ng hs hum
    have hcu:(jf m).funcs[i]? = some (ji m u):=by rw [pD,Cd,hu]; rfl
    obtain ⟨e0,he1,y,rfl,hy,ho⟩:=hx.idx (k:=.i64) hu
    obtain ⟨e2,he2,yw,rfl,hyw,ho2⟩:=hw.pel hcu
    have lw:=hw.slLen
    rw [show (jf m).funcs.length=m.funcs.length by simp [jf,mapU]] at lw
    have ani:aK (I (i:Int))=some i:=aR (by omega)
    have z1:(slSize w 3 && Nat.blt i m.funcs.length)=true:=by rw [hw.slSize]; simpa using hil
    have fz:ac zSl [I (ji m u).params,I (ji m u).regs,yw] 2=true:=by simp [ac,zSl,au,hyw.isSl]
    have gy:=lB (j:=2) he2 rfl
    have hfi:=hfl i
    have hwl:(ji m u).blocks.length=u.blocks.length:=by simp [ji]
    have inner : ∀ (d k : Nat), k + d = u.blocks.length → aa prog 5 (f5_1 (I ((ez m i + nT m (u.blocks.take k) : Nat) : Int)) (I (i : Int)) (I (k : Int)) x w .hole) (B true) := by
     intro d
     induction d with
     | zero =>
      intro k hk
      have hk:k=u.blocks.length:=by omega
      subst hk
      have:=ih (i + 1) (by omega)
      rw [pK hu] at this
      rw [List.take_length]
      unfold f5_1
      exact aa.tvs he1 (aa.chk rfl (aa.tv hy.len (aa.tv rfl (aa.ite aV nofun fun _=>aa.tv (inc hil (by omega)) (f5_0_J this)))))
     | succ d ihk =>
      intro k hk
      have hkl:k < u.blocks.length:=by omega
      obtain ⟨b,hb⟩:∃ b,u.blocks[k]? = some b:=⟨_,B8 hkl⟩
      have hcb:(ji m u).blocks[k]? = some (b9 m b):=by show (u.blocks.map (b9 m))[k]? = _; rw [Cd,hb]; rfl
      obtain ⟨e3,he3,hR⟩:=hy.idx (k:=.i64) hb
      obtain ⟨e4,he4,hRw⟩:=hyw.pel hcb
      have fitb:=hRw.AI
      obtain ⟨c,ii,g,rfl,oc,od,oi,og,oo⟩:=hR
      obtain ⟨c',i',g',rfl,oc',od',oi',og',oo'⟩:=hRw
      have lyw:=hyw.slLen
      rw [hwl] at lyw
      have ank:aK (I (k:Int))=some k:=aR (by omega)
      have z2:(slSize yw 14 && Nat.blt k u.blocks.length)=true:=by rw [hyw.slSize]; simpa using hkl
      have gi:=tA (j:=5) gy he4 rfl
      have gg:=tA (j:=10) gy he4 rfl
      have tE:=r45 (q:=some false) (q':=some false) (a:=b.fin) (b:=(b9 m b).fin) ⟨g,rfl,og,oo⟩ ⟨frz g',rfl,og'.frz fun _ _ h=>h.frz,oo'⟩
      have hins:=hbd.2 b (Cg hb)
      have next:=ihk (k + 1) (by omega)
      rw [yk hb] at next
      have hau:=wd m (u.blocks.take k)
      simp only [List.length_take] at hau
      have hcase:(b9 m b).ins.length=b.ins.length + lM m b/\lM m b<=1/\(lM m b=0 ↔ b.fin=(b9 m b).fin):=by
       rcases jO m b with ⟨e,h⟩ | ⟨e,h,h4⟩
       ·rw [e,h]; exact ⟨rfl,by omega,⟨fun _=>rfl,fun _=>rfl⟩⟩
       ·rw [e,h]
        refine ⟨by simp [jj],by omega,⟨fun h=>by omega,fun h=>?_⟩⟩
        have:=congrArg DEnd.kind h
        rw [h4] at this
        simp [jj] at this
      obtain ⟨k1,k2,k3⟩:=hcase
      have hsub:pbin (.int .i64) .sub (I ((b9 m b).ins.length:Int)) (I (b.ins.length:Int))=some (I ((lM m b:Nat):Int)):=by
       rw [psub (by constructor <;> omega),k1,show (((b.ins.length + lM m b:Nat):Int) - (b.ins.length:Int))=((lM m b:Nat):Int) by omega]
      have insL:∀ {y19 y20 y23 y24 y27 y28 y29 y30 y33 y34 y35 y5 y6 y7 y8 y9 y11 y12 y13 y14 y15 y16 y17 y18:TV} (d j:Nat),j + d=b.ins.length->aa prog 5 (f5_3 (I ((ez m i + nT m (u.blocks.take k) + lM m b:Nat):Int)) (I (i:Int)) (I (k:Int)) (I (j:Int)) x y5 y6 y7 y8 y9 ii y11 y12 y13 y14 y15 y16 y17 y18 y19 y20 i k y23 y24 i k y27 y28 y29 y30 i k y33 y34 y35 w .hole) (B true):=by
       intro y19 y20 y23 y24 y27 y28 y29 y30 y33 y34 y35 y5 y6 y7 y8 y9 y11 y12 y13 y14 y15 y16 y17 y18 d
       induction d with
       | zero =>
        intro j hj
        have hj:j=b.ins.length:=by omega
        subst hj
        unfold f5_3
        exact aa.tv oi.len (aa.tv rfl (aa.ite aV nofun fun _=>aa.tv (inc hkl (by omega)) (f5_1_J (by rw [Nat.add_assoc]; exact next))))
       | succ d ihj =>
        intro j hj
        have hjl:j < b.ins.length:=by omega
        obtain ⟨z,hz⟩:∃ z,b.ins[j]? = some z:=⟨_,B8 hjl⟩
        obtain ⟨c1,c2⟩:=yG (m:=m) hjl
        have hz':=c1.trans hz
        obtain ⟨e5,he5,hI⟩:=oi.idx (k:=.i64) hz
        obtain ⟨e6,he6,hI'⟩:=oi'.pel hz'
        obtain ⟨a1,rfl,ha1,hao1⟩:=hI
        obtain ⟨a2,rfl,ha2,hao2⟩:=hI'
        have tI:=r46 (q:=some false) (q':=some false) (a:=z) (b:=z) ⟨a1,rfl,ha1,hao1⟩ ⟨frz a2,rfl,ha2.frz fun _ _ h=>h.frz,hao2⟩
        rw [dH rfl] at tI
        have anj:aK (I (j:Int))=some j:=aR (by omega)
        have gz:aI [(i,2),(k,5),(j,6)] w=some a2:=by
         have:=qq [(i,2),(k,5)] j 6 w i' gi
         rw [lB he6 rfl] at this
         exact this
        unfold f5_3
        refine aa.tv oi.len (aa.tv rfl (aa.ite (be hjl) (fun _=>?_) nofun))
        refine aa.tvs he5 (aa.chk rfl (aa.tv gi (aa.nat oi'.slLen (aa.nat anj (aa.chk (by rw [oi'.slSize]; simpa using c2) (aa.tv gi (aa.tvs he6 (aa.chk ?_ (aa.tv gz (aa.call tI (aa.chk rfl (aa.tv rfl (aa.ite (v:=false) rfl nofun fun _=>?_)))))))))))))
        ·simp [ac,zIns,au,TV.isSc,scV,ha2.isSl]
        ·exact aa.tv (inc hjl (by omega)) (f5_3_J (ihj (j + 1) (by omega)))
      unfold f5_1
      refine aa.tvs he1 (aa.chk rfl (aa.tv hy.len (aa.tv rfl (aa.ite (be hkl) (fun _=>?_) nofun))))
      refine aa.tvs he1 (aa.chk rfl (aa.tvs he3 (aa.chk rfl (aa.nat lw (aa.nat ani (aa.chk z1 (aa.tvs he2 (aa.chk fz (aa.tv gy (aa.nat lyw (aa.nat ank (aa.chk z2 (aa.tv gy (aa.tvs he4 (aa.chk fitb ?_)))))))))))))))
      refine aa.tv gi (aa.tv oi'.len (aa.tv oi.len (aa.tv hsub (aa.tv (Br (by omega)) ?_))))
      refine aa.tv gi (aa.tv oi'.len (aa.tv oi.len (aa.tv rfl (aa.ite (v:=false) (by simp [asBool]; omega) nofun fun _=>?_))))
      refine aa.tv gi (aa.tv oi'.len (aa.tv oi.len (aa.tv (Br (b:=1) (by omega)) (aa.tv rfl (aa.ite (v:=false) (by simp [asBool]; omega) nofun fun _=>?_)))))
      refine aa.tv gi (aa.tv oi'.len (aa.tv oi.len (aa.tv rfl (aa.tv gg (aa.call tE (aa.chk rfl (aa.tv (v:=B false) ?_ (aa.ite (v:=false) rfl nofun fun _=>f5_3_J (insL b.ins.length 0 (by omega))))))))))
      have e1:(((b9 m b).ins.length:Int) == (b.ins.length:Int))=tt (b.fin=(b9 m b).fin):=by
       by_cases h0:lM m b=0
       ·rw [dH (k3.1 h0),k1,h0]; simp
       ·rw [ic fun h=>h0 (k3.2 h),k1]
        simp
        omega
      show some (TV.lit (.bool ((((b9 m b).ins.length:Int) == (b.ins.length:Int)) != tt (b.fin=(b9 m b).fin))))=_
      rw [e1]
      simp
    have:=inner u.blocks.length 0 (by omega)
    rw [show ez m i + nT m (u.blocks.take 0)=ez m i by simp [nT]] at this
    unfold f5_0
    exact aa.tv hx.len (aa.tv rfl (aa.ite (be hil) (fun _=>f5_1_J this) nofun))
  have:=key m.funcs.length 0 (by omega)
  rw [show ez m 0=0 by simp [ez]] at this
  exact this
end Go.Ab.C14
end
section
namespace Go.Ab
open Go.RowKit
theorem aU {α:Type} (d:α):∀ (l:List α) (n:Nat),nth d l n=(l[n]?).getD d
 | [],n=>by simp [nth]
 | a :: l,0=>rfl
 | a :: l,n + 1=>by simp [nth,aU d l n]
theorem ag {α:Type}:∀ (l:List α) (n:Nat) (b:α),ai l n b=l.set n b
 | [],n,b=>by simp [ai]
 | a :: l,0,b=>rfl
 | a :: l,n + 1,b=>by simp [ai,ag l n b]
theorem bw {α:Type} {d:α} {l:List α} {n:Nat} {a:α} (h:l[n]? = some a):nth d l n=a:=by rw [aU,h]; rfl
theorem aA (a b:Nat):a.beq b=true ↔ a=b:=⟨Nat.eq_of_beq_eq_true,fun h=>h ▸ Nat.beq_refl a⟩
theorem bv (n:Nat):∀ l:List Nat,bq n l=true ↔ n ∈ l
 | []=>by simp [bq]
 | a :: l => by
  cases h:a.beq n
  ·have:a≠n:=fun e=>by simp [e] at h
   simp only [bq,h,cond_false,bv n l,List.mem_cons]
   constructor
   ·exact .inr
   ·rintro (e | e)
    ·exact absurd e.symm this
    ·exact e
  ·simp only [bq,h,cond_true,List.mem_cons,true_iff]
   exact .inl ((aA a n).1 h).symm
theorem dX (a:Addr) (k:Nat):(a.add k).block=a.block:=by unfold Addr.add; split <;> rfl
theorem dL (a:Addr) (i j:Nat):(a.add i).add j=a.add (i + j):=by
 unfold Addr.add
 by_cases hi:i=0 <;> by_cases hj:j=0 <;> simp [hi,hj,Nat.add_assoc]
theorem eT (b o k:Nat):(⟨b,o,none⟩:Addr).add k=⟨b,o + k,none⟩:=by unfold Addr.add; split <;> simp_all
def spl {α:Type} (l:List α) (o:Nat) (ys:List α):List α:=l.take o ++ ys ++ l.drop (o + ys.length)
theorem fM {α:Type} {l ys:List α} {o:Nat} (h:o + ys.length<=l.length):(spl l o ys).length=l.length:=by
 simp only [spl,List.length_append,List.length_take,List.length_drop]
 omega
theorem cj {α:Type} {l ys:List α} {o:Nat} (h:o + ys.length<=l.length) (k:Nat):(spl l o ys)[k]? = if o<=k/\k < o + ys.length then ys[k - o]? else l[k]? := by
 have e1:(l.take o).length=o:=by simp; omega
 unfold spl
 by_cases h1:k < o
 ·rw [List.append_assoc,Ch (by omega),List.getElem?_take,if_pos h1,if_neg (by omega)]
 ·by_cases h2:k < o + ys.length
  ·rw [List.append_assoc,Ci (by omega),e1,Ch (by omega),if_pos (by omega)]
  ·rw [Ci (by simp; omega),List.getElem?_drop,if_neg (by omega)]
   congr 1
   simp
   omega
theorem d0 {α:Type}:∀ (ps l:List α) (off:Nat),off + ps.length<=l.length->bj l off ps=spl l off ps
 | [],l,off,h=>by simp [bj,spl]
 | p :: ps, l, off, h => by
  have hlt:off < l.length:=by simp at h; omega
  simp only [bj]
  rw [ag,d0 ps (l.set off p) (off + 1) (by simp at h ⊢; omega)]
  apply List.ext_getElem?
  intro k
  rw [cj (by simp at h ⊢; omega),cj h]
  simp only [List.length_cons,List.getElem?_set]
  by_cases h1:k < off
  ·rw [if_neg (by omega),if_neg (by omega),if_neg (by omega)]
  ·by_cases h2:k=off
   ·subst h2
    rw [if_neg (by omega),if_pos (by omega)]
    simp [hlt]
   ·by_cases h3:k < off + (ps.length + 1)
    ·rw [if_pos (by omega),if_pos (by omega)]
     rw [show k - off=(k - (off + 1)) + 1 by omega,List.getElem?_cons_succ]
    ·rw [if_neg (by omega),if_neg (by omega),if_neg (by omega)]
theorem dQ {α:Type}:∀ (l:List α) (o n:Nat) (r:List α),jg l o n=some r->r.length=n/\(n=0\/o + n<=l.length)/\∀ j,j < n->r[j]? = l[o + j]?
 | l,o,0,r,h=>by cases l <;> simp [jg] at h <;> subst h <;> simp
 | [],o,n + 1,r,h=>by simp [jg] at h
 | a :: l, 0, n + 1, r, h => by
  simp only [jg] at h
  cases h1:jg l 0 n with
  | none=>simp [h1] at h
  | some r' =>
   simp only [h1,B9] at h
   subst h
   obtain ⟨i1,i2,i3⟩:=dQ l 0 n r' h1
   refine ⟨by simp [i1],.inr (by simp; omega),fun j hj=>?_⟩
   cases j with
   | zero=>simp
   | succ j=>simpa using i3 j (by omega)
 | a :: l,o + 1,n + 1,r,h=>by
  simp only [jg] at h
  obtain ⟨i1,i2,i3⟩:=dQ l o (n + 1) r h
  refine ⟨i1,.inr (by rcases i2 with i2 | i2 <;> simp <;> omega),fun j hj=>?_⟩
  rw [i3 j hj,show o + 1 + j=(o + j) + 1 by omega,List.getElem?_cons_succ]
theorem bP {α:Type} {s:Nat}:∀ {xs:List (List α)},(∀ x ∈ xs,x.length=s)->xs.flatten.length=xs.length * s
 | [],_=>by simp
 | x :: xs,h=>by
  simp only [List.flatten_cons,List.length_append,List.length_cons,h x Ce,bP (fun y hy=>h y (Cf _ hy)),Nat.add_mul]
  omega
theorem ei {α:Type} {s:Nat}:∀ {xs:List (List α)} {i j:Nat} {x:List α} {c:α},(∀ x ∈ xs,x.length=s)->xs[i]? = some x->x[j]? = some c->xs.flatten[i * s + j]? = some c
 | x :: xs,0,j,_,c,h,hi,hj=>by
  simp at hi
  subst hi
  rw [List.flatten_cons,Ch (by simp; exact (B7.1 hj).1)]
  simpa using hj
 | x :: xs,i + 1,j,y,c,h,hi,hj=>by
  simp at hi
  have hx:=h x Ce
  rw [List.flatten_cons,Ci (by rw [hx,Nat.add_mul]; omega),hx,show (i + 1) * s + j - s=i * s + j by rw [Nat.add_mul]; omega]
  exact ei (fun z hz=>h z (Cf _ hz)) hi hj
theorem take_add {α:Type} {x l:List α} {s n:Nat} (h:x.length=s):(x ++ l).take (s + n)=x ++ l.take n:=by
 subst h
 exact List.take_length_add_append n
theorem tU {α:Type} {x l:List α} {s n:Nat} (h:x.length=s):(x ++ l).drop (s + n)=l.drop n:=by
 subst h
 exact List.drop_length_add_append n
theorem mV (n s:Nat):(n + 1) * s=s + n * s:=by rw [Nat.add_mul]; omega
theorem mC {α:Type} {s:Nat}:∀ {xs:List (List α)} (n:Nat),(∀ x ∈ xs,x.length=s)->(xs.take n).flatten=xs.flatten.take (n * s)
 | [],n,_=>by simp
 | x :: xs,0,_=>by simp
 | x :: xs,n + 1,h=>by
  have hx:=h x Ce
  rw [List.take_succ_cons,List.flatten_cons,List.flatten_cons,mC n (fun z hz=>h z (Cf _ hz)),mV,take_add hx]
theorem mD {α:Type} {s:Nat}:∀ {xs:List (List α)} (n:Nat),(∀ x ∈ xs,x.length=s)->(xs.drop n).flatten=xs.flatten.drop (n * s)
 | [],n,_=>by simp
 | x :: xs,0,_=>by simp
 | x :: xs,n + 1,h=>by
  have hx:=h x Ce
  rw [List.drop_succ_cons,List.flatten_cons,mD n (fun z hz=>h z (Cf _ hz)),mV,tU hx]
theorem uH {α:Type} {s:Nat}:∀ {xs:List (List α)} {i:Nat} {x y:List α},(∀ x ∈ xs,x.length=s)->xs[i]? = some x->y.length=s->(xs.set i y).flatten=spl xs.flatten (i * s) y
 | x :: xs,0,_,y,h,hi,hy=>by
  simp at hi
  subst hi
  have hx:=h x Ce
  simp only [List.set_cons_zero,List.flatten_cons,Nat.zero_mul,spl,List.take_zero,List.nil_append,Nat.zero_add,hy,List.drop_append,hx,Nat.sub_self,List.drop_zero]
  rw [List.drop_of_length_le (by omega),List.nil_append]
 | x :: xs,i + 1,z,y,h,hi,hy=>by
  simp at hi
  have hx:=h x Ce
  have ih:=uH (fun z hz=>h z (Cf _ hz)) hi hy
  simp only [List.set_cons_succ,List.flatten_cons,ih,spl,mV,take_add hx,hy]
  rw [show s + i * s + s=s + (i * s + s) by omega,tU hx]
  simp only [List.append_assoc]
theorem wj {α:Type} {s:Nat} {xs:List (List α)} {i:Nat} {y:List α} (h:∀ x ∈ xs,x.length=s) (hy:y.length=s):∀ x ∈ xs.set i y,x.length=s:=by
 intro x hx
 rcases List.mem_or_eq_of_mem_set hx with h' | h'
 ·exact h x h'
 ·rw [h']; exact hy
theorem uz {α:Type} {s:Nat} {xs:List (List α)} {i j:Nat} {x ys:List α} (h:∀ x ∈ xs,x.length=s) (hi:xs[i]? = some x) (hj:j + ys.length<=x.length) :
  (xs.set i (spl x j ys)).flatten=spl xs.flatten (i * s + j) ys/\i * s + j + ys.length<=xs.flatten.length:=by
 have hx:=h x (Cg hi)
 have hlt:i < xs.length:=(B7.1 hi).1
 have hle:i * s + s<=xs.flatten.length:=by
  rw [bP h]
  have:=Nat.mul_le_mul_right s (Nat.succ_le_of_lt hlt)
  rw [Nat.succ_mul] at this
  exact this
 refine ⟨?_,by omega⟩
 rw [uH h hi (by rw [fM hj,hx])]
 apply List.ext_getElem?
 intro k
 rw [cj (l:=xs.flatten) (ys:=spl x j ys) (by rw [fM hj]; omega),cj (l:=xs.flatten) (ys:=ys) (by omega),fM hj,hx]
 by_cases h1:i * s<=k/\k < i * s + s
 ·rw [if_pos h1,cj hj]
  by_cases h2:j<=k - i * s/\k - i * s < j + ys.length
  ·rw [if_pos h2,if_pos (by omega)]
   congr 1
   omega
  ·rw [if_neg h2,if_neg (by omega)]
   have hk:k - i * s < x.length:=by omega
   have:=ei h hi (B8 hk)
   rw [show i * s + (k - i * s)=k by omega] at this
   rw [this,B8 hk]
 ·rw [if_neg h1,if_neg (by omega)]
inductive Rep (w:World) (I:Nat->Prop):TV->Value->Prop
 | lit (v:Value):Rep w I (.lit v) v
 | hole (v:Value):Rep w I .hole v
 | buf {s:ByteArray} (e:TypeId) (h:s.size=0):Rep w I (.buf s e) bm
 | sl {size : Nat} {xs : List (List TV)} {a : Addr} {cap : Nat} (cell : Nat → Value) (hI : 0 < xs.length → I a.block) (hc : xs.length ≤ cap) (hm : cap ≤ maxLen)
   (hl:∀ x ∈ xs,x.length=size) (hcell:∀ k,k < xs.length * size->w.cell? (a.add k)=some (cell k)) (h1:∀ k,k < xs.length * size->(cell k).oneCell'=true)
   (hr:∀ (i:Nat) (x:List TV),xs[i]? = some x->∀ (j:Nat) (c:TV),x[j]? = some c->Rep w I c (cell (i * size + j))):Rep w I (.sl false size xs) (.slice (some a) xs.length cap)
 | agg {cs : List TV} {vs : Array Value} (hl : vs.size = cs.length) (h1 : ∀ j, j < vs.size → (vs.getD j undef).oneCell' = true)
   (hr:∀ (j:Nat) (c:TV),cs[j]? = some c->Rep w I c (vs.getD j undef)):Rep w I (.agg cs) (.agg vs)
 | tup {cs:List TV} {vs:Array Value} (hl:vs.size=cs.length) (hr:∀ (j:Nat) (c:TV),cs[j]? = some c->Rep w I c (vs.getD j undef)):Rep w I (.tup cs) (.tuple vs)
theorem Rep.mv {w w':World} {I I':Nat->Prop} (hh:∀ b,I b->w'.heap[b]? = w.heap[b]?) (hI:∀ b,I b->I' b) {x:TV} {v:Value} (h:Rep w I x v):Rep w' I' x v:=by
 induction h with
 | lit v=>exact .lit v
 | hole v=>exact .hole v
 | buf e h=>exact .buf e h
 | sl cell i c m l hcell h1 _ ih =>
  exact .sl cell (fun h=>hI _ (i h)) c m l (fun k hk=>by rw [<- hcell k hk]; exact World.cell?_of_block (by rw [dX]; exact hh _ (i (Nat.pos_of_ne_zero (fun e=>by simp [e] at hk))))) h1 ih
 | agg hl h1 _ ih=>exact .agg hl h1 ih
 | tup hl _ ih=>exact .tup hl ih
structure Row (w:World) (a:Addr) (n cap size:Nat) (us:List Value) (vs:Array Value) (ty:TypeId):Prop where
 heap:w.heap[a.block]? = some (.cells vs ty (0,0))
 spot:a.spot=none
 le:n<=cap
 max:cap<=maxLen
 fit:a.off + cap * size<=vs.size
 len:us.length=n * size
 cells:∀ k,k < n * size->vs[a.off + k]? = us[k]?
 one:∀ u ∈ us,u.oneCell'=true
theorem Row.cell {w:World} {a:Addr} {n cap size:Nat} {us:List Value} {vs:Array Value} {ty:TypeId} (h:Row w a n cap size us vs ty) {k:Nat} {u:Value} (hk:us[k]? = some u):w.cell? (a.add k)=some u:=by
 have hlt:k < n * size:=by rw [<- h.len]; exact (B7.1 hk).1
 have:a.add k=⟨a.block,a.off + k,none⟩:=by
  have:=h.spot
  obtain ⟨b,o,sp⟩:=a
  simp at this
  subst this
  exact eT b o k
 rw [this]
 simp only [World.cell?,h.heap]
 simp only [Option.isSome_none,Bool.false_eq_true,if_false]
 rw [h.cells k hlt,hk]
inductive ak (w:World) (I:Nat->Prop):TV->Value->(Nat->Prop)->Prop
 | fr {x:TV} {v:Value} {S:Nat->Prop} (h:Rep w I x v):ak w I x v S
 | sl {size : Nat} {xs : List (List TV)} {a : Addr} {cap : Nat} {S : Nat → Prop} (us : List Value) (vs : Array Value) (ty : TypeId) (F : Nat → Nat → Prop) (hS : S a.block)
   (row:Row w a xs.length cap size us vs ty) (hl:∀ x ∈ xs,x.length=size) (hr:∀ (k:Nat) (c:TV),xs.flatten[k]? = some c->ak w I c (us.getD k undef) (F k))
   (hF:∀ k b,F k b->S b/\b≠a.block) (hd:∀ k k' b,F k b->F k' b->k=k'):ak w I (.sl true size xs) (.slice (some a) xs.length cap) S
 | agg {cs : List TV} {vs : Array Value} {S : Nat → Prop} (F : Nat → Nat → Prop) (hl : vs.size = cs.length) (h1 : ∀ j, j < vs.size → (vs.getD j undef).oneCell' = true)
   (hr:∀ (j:Nat) (c:TV),cs[j]? = some c->ak w I c (vs.getD j undef) (F j)) (hF:∀ j b,F j b->S b) (hd:∀ k k' b,F k b->F k' b->k=k'):ak w I (.agg cs) (.agg vs) S
 | buf {s:ByteArray} {e:TypeId} {v:Value} {S:Nat->Prop} (h:w.ownsRowF 0 e 1 v s.size (Lib.strCells s)) (hS:∀ b,v.ownBlock=some b->S b):ak w I (.buf s e) v S
 | tup {cs : List TV} {vs : Array Value} {S : Nat → Prop} (F : Nat → Nat → Prop) (hl : vs.size = cs.length)
   (hr:∀ (j:Nat) (c:TV),cs[j]? = some c->ak w I c (vs.getD j undef) (F j)) (hF:∀ j b,F j b->S b) (hd:∀ k k' b,F k b->F k' b->k=k'):ak w I (.tup cs) (.tuple vs) S
theorem _root_.Go.World.ownsRowF.moved {w w':World} {base:Nat} {e:TypeId} {size:Nat} {v:Value} {n:Nat} {xs:List Value} (h:w.ownsRowF base e size v n xs) (hh:∀ b,v.ownBlock=some b->w'.heap[b]? = w.heap[b]?):w'.ownsRowF base e size v n xs:=by
 refine ⟨h.1,?_⟩
 rcases h.2 with hn | ⟨g,cap,cur,fz,rfl,hb,hgg,rest⟩
 ·exact .inl hn
 ·exact .inr ⟨g,cap,cur,fz,rfl,hb,by rw [hh g rfl]; exact hgg,rest⟩
theorem ak.mv {w w':World} {I I':Nat->Prop} (hI:∀ b,I b->w'.heap[b]? = w.heap[b]?) (hs:∀ b,I b->I' b) {x:TV} {v:Value} {S:Nat->Prop} (h:ak w I x v S) :
  ∀ {S':Nat->Prop},(∀ b,S b->w'.heap[b]? = w.heap[b]?)->(∀ b,S b->S' b)->ak w' I' x v S':=by
 induction h with
 | fr h=>intro S' _ _; exact .fr (h.mv hI hs)
 | @sl size xs a cap S us vs ty F hS row hl hr hF hd ih =>
  intro S' hh hSS
  exact .sl us vs ty F (hSS _ hS) ⟨by rw [hh _ hS]; exact row.heap,row.spot,row.le,row.max,row.fit,row.len,row.cells,row.one⟩ hl (fun k c hk=>ih k c hk (fun b hb=>hh b (hF k b hb).1) (fun b hb=>hb))
   (fun k b hb=>⟨hSS b (hF k b hb).1,(hF k b hb).2⟩) hd
 | @buf s e v S h hS =>
  intro S' hh hSS
  exact .buf (h.moved (fun b hb=>hh b (hS b hb))) (fun b hb=>hSS b (hS b hb))
 | @agg cs vs S F hl h1 hr hF hd ih =>
  intro S' hh hSS
  exact .agg F hl h1 (fun k c hk=>ih k c hk (fun b hb=>hh b (hF k b hb)) (fun b hb=>hb)) (fun k b hb=>hSS b (hF k b hb)) hd
 | @tup cs vs S F hl hr hF hd ih =>
  intro S' hh hSS
  exact .tup F hl (fun k c hk=>ih k c hk (fun b hb=>hh b (hF k b hb)) (fun b hb=>hb)) (fun k b hb=>hSS b (hF k b hb)) hd
theorem ak.mono {w:World} {I:Nat->Prop} {x:TV} {v:Value} {S S':Nat->Prop} (h:ak w I x v S) (hS:∀ b,S b->S' b):ak w I x v S' :=
 h.mv (fun _ _=>rfl) (fun _ h=>h) (fun _ _=>rfl) hS
theorem bk {w:World} {I:Nat->Prop} {v u:Value} (h:Rep w I (.lit v) u):u=v:=by cases h; rfl
theorem aW {w:World} {I:Nat->Prop} {v u:Value} {S:Nat->Prop} (h:ak w I (.lit v) u S):u=v:=by cases h with | fr h=>exact bk h
theorem zk {w:World} {I:Nat->Prop} {s:Nat} {xs:List (List TV)} {u:Value} {S:Nat->Prop} (h:ak w I (.sl false s xs) u S):Rep w I (.sl false s xs) u:=by cases h with | fr h=>exact h
theorem oD {w:World} {I:Nat->Prop} {o:Bool} {s:Nat} {xs:List (List TV)} {u:Value} {S:Nat->Prop} (h:ak w I (.sl o s xs) u S):∃ a cap,u=.slice (some a) xs.length cap:=by
 cases h with
 | fr h=>cases h; exact ⟨_,_,rfl⟩
 | sl=>exact ⟨_,_,rfl⟩
theorem fU {w:World} {I:Nat->Prop} {x:TV} {u:Value} {S:Nat->Prop} (h:ak w I x u S) (hx:x.isSl=true):∃ a n cap,u=.slice a n cap:=by
 cases x with
 | lit v =>
  have:=aW h
  subst this
  cases u <;> simp [TV.isSl,au] at hx ⊢
 | sl o s xs=>obtain ⟨a,cap,rfl⟩:=oD h; exact ⟨_,_,_,rfl⟩
 | _=>simp [TV.isSl] at hx
theorem nX {v:Value} (h:scV v=true):v.oneCell'=true:=by cases v <;> first | rfl | simp [scV] at h
theorem eD {w:World} {I:Nat->Prop} {x:TV} {u:Value} {S:Nat->Prop} (h:ak w I x u S) (hx:x.isSc=true):x=.lit u/\scV u=true:=by
 cases x with
 | lit v =>
  have:=aW h
  subst this
  exact ⟨rfl,hx⟩
 | _=>simp [TV.isSc] at hx
theorem BD {w:World} {I:Nat->Prop} {x:TV} {u:Value} {S:Nat->Prop} (h:ak w I x u S):Rep w I x.lf u:=by
 cases x with
 | lit v=>have:=aW h; subst this; exact .lit _
 | _=>exact .hole _
theorem j5:∀ l:List TV,la l=l.map frz
 | []=>rfl
 | x :: l=>by simp [la,j5 l]
theorem fm:∀ l:List (List TV),oN l=l.map fun x=>x.map frz
 | []=>rfl
 | x :: l=>by simp [oN,fm l,j5]
theorem yX:∀ l:List TV,lfL l=l.map TV.lf
 | []=>rfl
 | x :: l=>by simp [lfL,yX l]
theorem wb:∀ l:List (List TV),Aa l=l.map fun x=>x.map TV.lf
 | []=>rfl
 | x :: l=>by simp [Aa,wb l,yX]
theorem Rep.frz {w:World} {I:Nat->Prop} {x:TV} {v:Value} (h:Rep w I x v):Rep w I (frz x) v:=by
 induction h with
 | lit v=>exact .lit v
 | hole v=>exact .hole v
 | buf e h=>exact .hole _
 | @sl size xs a cap cell hI hc hm hl hcell h1 _ ih =>
  simp only [Ab.frz,fm]
  have hlen:(xs.map fun x=>x.map Ab.frz).length=xs.length:=by simp
  have key:Rep w I (.sl false size (xs.map fun x=>x.map Ab.frz)) (.slice (some a) (xs.map fun x=>x.map Ab.frz).length cap):=by
   refine .sl cell (by rw [hlen]; exact hI) (by rw [hlen]; exact hc) hm (fun x hx=>?_) (by rw [hlen]; exact hcell) (by rw [hlen]; exact h1) (fun i y hy j c hj=>?_)
   ·obtain ⟨y,hy,rfl⟩:=List.mem_map.1 hx
    simpa using hl y hy
   ·rw [Cd] at hy
    cases hxi:xs[i]? with
    | none=>simp [hxi] at hy
    | some x =>
     simp only [hxi,Ck,B9] at hy
     subst hy
     rw [Cd] at hj
     cases hxj:x[j]? with
     | none=>simp [hxj] at hj
     | some c' =>
      simp only [hxj,Ck,B9] at hj
      subst hj
      exact ih i x hxi j c' hxj
  rwa [hlen] at key
 | @agg cs vs hl h1 _ ih =>
  simp only [Ab.frz,j5]
  refine .agg (by simpa using hl) h1 (fun j c hj=>?_)
  rw [Cd] at hj
  cases hxj:cs[j]? with
  | none=>simp [hxj] at hj
  | some c'=>simp only [hxj,Ck,B9] at hj; subst hj; exact ih j c' hxj
 | @tup cs vs hl _ ih =>
  simp only [Ab.frz,j5]
  refine .tup (by simpa using hl) (fun j c hj=>?_)
  rw [Cd] at hj
  cases hxj:cs[j]? with
  | none=>simp [hxj] at hj
  | some c'=>simp only [hxj,Ck,B9] at hj; subst hj; exact ih j c' hxj
theorem ak.frz {w:World} {I I':Nat->Prop} (hI:∀ b,I b->I' b) {x:TV} {v:Value} {S:Nat->Prop} (h:ak w I x v S):(∀ b,S b->I' b)->Rep w I' (frz x) v:=by
 induction h with
 | fr h=>intro _; exact (h.mv (fun _ _=>rfl) hI).frz
 | buf _ _=>intro _; exact .hole _
 | @sl size xs a cap S us vs ty F hS row hl hr hF hd ih =>
  intro hSI
  simp only [Ab.frz,fm]
  have hlen:(xs.map fun x=>x.map Ab.frz).length=xs.length:=by simp
  have key:Rep w I' (.sl false size (xs.map fun x=>x.map Ab.frz)) (.slice (some a) (xs.map fun x=>x.map Ab.frz).length cap):=by
   refine .sl (fun k=>us.getD k undef) (fun _=>hSI _ hS) (by rw [hlen]; exact row.le) row.max (fun x hx=>?_) (fun k hk=>?_) (fun k hk=>?_) (fun i y hy j c hj=>?_)
   ·obtain ⟨y,hy,rfl⟩:=List.mem_map.1 hx
    simpa using hl y hy
   ·rw [hlen] at hk
    have:k < us.length:=by rw [row.len]; exact hk
    exact row.cell (by simp [B8 this])
   ·rw [hlen] at hk
    have:k < us.length:=by rw [row.len]; exact hk
    simp only [Cl,B8 this,Option.getD_some]
    exact row.one _ (List.getElem_mem this)
   ·rw [Cd] at hy
    cases hxi:xs[i]? with
    | none=>simp [hxi] at hy
    | some x =>
     simp only [hxi,Ck,B9] at hy
     subst hy
     rw [Cd] at hj
     cases hxj:x[j]? with
     | none=>simp [hxj] at hj
     | some c' =>
      simp only [hxj,Ck,B9] at hj
      subst hj
      exact ih _ c' (ei hl hxi hxj) (fun b hb=>hSI b (hF _ b hb).1)
  rwa [hlen] at key
 | @agg cs vs S F hl h1 hr hF hd ih =>
  intro hSI
  simp only [Ab.frz,j5]
  refine .agg (by simpa using hl) h1 (fun j c hj=>?_)
  rw [Cd] at hj
  cases hxj:cs[j]? with
  | none=>simp [hxj] at hj
  | some c'=>simp only [hxj,Ck,B9] at hj; subst hj; exact ih j c' hxj (fun b hb=>hSI b (hF j b hb))
 | @tup cs vs S F hl hr hF hd ih =>
  intro hSI
  simp only [Ab.frz,j5]
  refine .tup (by simpa using hl) (fun j c hj=>?_)
  rw [Cd] at hj
  cases hxj:cs[j]? with
  | none=>simp [hxj] at hj
  | some c'=>simp only [hxj,Ck,B9] at hj; subst hj; exact ih j c' hxj (fun b hb=>hSI b (hF j b hb))
theorem eA:∀ {l:List TV},bF l=true->∀ x ∈ l,bT x=true
 | [],_,x,hx=>by simp at hx
 | y :: l,h,x,hx=>by
  simp only [bF,Ca] at h
  rcases List.mem_cons.1 hx with rfl | hx
  ·exact h.1
  ·exact eA h.2 x hx
theorem nO:∀ {l:List (List TV)},j9 l=true->∀ x ∈ l,bF x=true
 | [],_,x,hx=>by simp at hx
 | y :: l,h,x,hx=>by
  simp only [j9,Ca] at h
  rcases List.mem_cons.1 hx with rfl | hx
  ·exact h.1
  ·exact nO h.2 x hx
theorem Rep.own {w:World} {I I':Nat->Prop} {x:TV} {v:Value} (h:Rep w I x v):bT x=true->Rep w I' x v:=by
 induction h with
 | lit v=>intro _; exact .lit v
 | hole v=>intro _; exact .hole v
 | buf e h=>intro _; exact .buf e h
 | sl=>intro h; simp [bT] at h
 | @agg cs vs hl h1 _ ih=>intro h; simp only [bT] at h; exact .agg hl h1 (fun j c hj=>ih j c hj (eA h c (Cg hj)))
 | @tup cs vs hl _ ih=>intro h; simp only [bT] at h; exact .tup hl (fun j c hj=>ih j c hj (eA h c (Cg hj)))
theorem ak.own {w:World} {I I':Nat->Prop} {x:TV} {v:Value} {S:Nat->Prop} (h:ak w I x v S):bT x=true->ak w I' x v S:=by
 induction h with
 | fr h=>intro ho; exact .fr (h.own ho)
 | buf h hS=>intro _; exact .buf h hS
 | @sl size xs a cap S us vs ty F hS row hl hr hF hd ih =>
  intro ho
  simp only [bT,Bool.true_and] at ho
  refine .sl us vs ty F hS row hl (fun k c hk=>ih k c hk ?_) hF hd
  obtain ⟨x,hx,hc⟩:=List.mem_flatten.1 (Cg hk)
  exact eA (nO ho x hx) c hc
 | @agg cs vs S F hl h1 hr hF hd ih=>intro ho; simp only [bT] at ho; exact .agg F hl h1 (fun j c hj=>ih j c hj (eA ho c (Cg hj))) hF hd
 | @tup cs vs S F hl hr hF hd ih=>intro ho; simp only [bT] at ho; exact .tup F hl (fun j c hj=>ih j c hj (eA ho c (Cg hj))) hF hd
end Go.Ab
end

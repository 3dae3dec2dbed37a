import Derived.Test.YthfcodidfelpoaaGD13F208
import Derived.Test.YthfcodidfelpoaaGD13F205
import Derived.Test.YthfcodidfelpoaaGM0
import Derived.Below
import Derived.Orders
import Derived.Laws.Cells
import Derived.Laws.OwnMore
import Derived.Laws.CopyOwn
import Derived.Maps.AppendAt
import Derived.Lib.FrozenHead
set_option linter.all false
section
set_option maxRecDepth 10000
namespace Go.Ab.D13
open Go Go.Ab Go.Proofs
theorem oT {m:DMod} (hs:jk m):∀ v ∈ (clC m).funcs,ji v:=by
 intro v hv
 obtain ⟨k,hk,rfl⟩:=List.mem_iff_getElem.1 hv
 obtain ⟨u,hu,e⟩:=zb (Eu hk)
 rw [e]
 have:=(Et.1 hu).1
 exact rU (hs.2 k this u hu)
theorem oz {m:DMod} (hM:kL m) {v:DFunc} (hv:v ∈ (clC m).funcs) {b:DBlock} (hb:b ∈ v.blocks):(∀ x ∈ b.ins,x.op=11->0<=x.f/\x.f.toNat < m.funcs.length)/\(b.fin.kind=4->0<=b.fin.f/\b.fin.f.toNat < m.funcs.length):=by
 obtain ⟨k,hk,rfl⟩:=List.mem_iff_getElem.1 hv
 obtain ⟨u,hu,e⟩:=zb (Eu hk)
 rw [e] at hb
 obtain ⟨b0,hb0,ψ,e⟩:=vV hb
 have:=Ay hM hu hb0
 rcases e with e | e
 ·subst e; exact this
 ·subst e; exact this
theorem Ak {m:DMod} (hM:kL m):∀ i,∀ g ∈ nmd (clC m).funcs i,0<=g/\g.toNat < (clC m).funcs.length:=by
 intro i g hg
 rw [nO]
 unfold nmd at hg
 cases hu:(clC m).funcs[i]? with
 | none=>rw [hu] at hg; cases hg
 | some v =>
  rw [hu] at hg
  obtain ⟨b,hb,h⟩:=wP hg
  have hc:=oz hM (EC hu) hb
  rcases h with ⟨x,hx,h11,rfl⟩ | ⟨h4,rfl⟩
  ·exact hc.1 x hx h11
  ·exact hc.2 h4
theorem AK {fs:List DFunc} {i:Nat} {g:Int} (hg:g ∈ nmd fs i) (h0:0<=g):∃ u,fs[i]? = some u/\gk u g.toNat:=by
 unfold nmd at hg
 cases hu:fs[i]? with
 | none=>rw [hu] at hg; cases hg
 | some v =>
  rw [hu] at hg
  refine ⟨v,rfl,tR.1 ?_⟩
  rwa [show ((g.toNat:Nat):Int)=g by omega]
theorem tg {fs:List DFunc} {i k:Nat} {u:DFunc} (hu:fs[i]? = some u) (h:gk u k):(k:Int) ∈ nmd fs i:=by
 rw [BP hu]
 exact tR.2 h
theorem zR {e:List TV} {m:DMod} (he:RMod (some false) e m) (hs:jk m) (hM:¬ kL m):∃ w,aj prog 8 [.agg e] (.tup [.agg [w],I 1])/\RMod (some true) [w] m:=by
 have c0:=r8 he
 rw [lq hM] at c0
 obtain ⟨e',c1,c2⟩:=r16 he hs
 obtain ⟨x,rfl,hx⟩:=he
 obtain ⟨w,rfl,hw⟩:=c2
 refine ⟨w,?_,w,rfl,hw⟩
 have hO:=hw.own fun _ _ h=>h.own
 refine aj.of (f8_MR _) ?_
 unfold f8_M
 refine aa.chk rfl (aa.call c0 (aa.chk rfl (aa.tv rfl (aa.ite (v:=true) rfl (fun _=>?_) nofun))))
 exact aa.call c1 (aa.chk (by simp [TV.isAgg,ab,zSl,aE,TV.cellsL,hw.isSl]) (aa.chk (by show ci [.agg [w],I 1]=true; simp [ci,bj,hO]) aa.ret))
section
variable {x:TV} {m:DMod} (hx:RL (some false) 3 (RFunc (some false)) x m.funcs) (hs:jk m) (hM:kL m)
include hs hM
theorem Dy {w:TV} (hw:RL (some true) 3 (RFunc (some true)) w (clC m).funcs):∃ w',aa prog 8 (f8_1 w) (.tup [.agg [w'],I 0])/\RMod (some true) [w'] (clM m):=by
 have hN:(clC m).funcs.length<=20:=by rw [nO]; exact hs.1
 have h0:0 < m.funcs.length:=by
  obtain ⟨u,hu,_⟩:=hM.2.1
  exact (Et.1 hu).1
 have hz:RL (some false) 3 (RFunc (some false)) (frz w) (clC m).funcs:=hw.frz fun _ _ h=>h.frz
 have hnm:=Ak hM
 obtain ⟨v15,c1,c2⟩:=Dq hz (fun u hu=>lk (oT hs u hu)) (by omega) (R:=dz (clC m)) hnm (fun i hi g hg=>by
  obtain ⟨h1,h2⟩:=hnm i g hg
  obtain ⟨u,hu,hc⟩:=AK hg h1
  exact pb hi hu hc h2) (fun P h0 hP i hi=>by
  rcases hi with rfl | hi
  ·exact h0
  ·induction hi with
   | one h =>
    obtain ⟨h1,u,hu,hc⟩:=h
    have:=hP 0 h0 _ (tg hu hc)
    simpa using this
   | more _ h ih =>
    obtain ⟨h1,u,hu,hc⟩:=h
    have:=hP _ ih _ (tg hu hc)
    simpa using this) (by rw [nO]; exact h0) (.inl rfl)
 obtain ⟨v16,c3,c4⟩:=D7 (c2.frz (S:=RB1) fun _ _ h=>h.frz) (by omega)
 generalize hC:clC m=c at *
 have hcl:c.funcs.length=m.funcs.length:=by rw [<- hC]; exact nO m
 have eA:((bA (dz c) c.funcs id c.funcs.length).map (gF (aA (dz c))))=(clM m).funcs:=by
  rw [tT]
  unfold clM
  rw [hC,hcl]
  rfl
 have hAl:(bA (dz c) c.funcs id c.funcs.length).length<=c.funcs.length:=fo
 have key:∀ (d i:Nat) (w3 w4:TV),i + d=c.funcs.length->RL (some true) 3 (RFunc (some true)) w3 (bA (dz c) c.funcs id i)->W4 w4 c.funcs i->∃ w',aa prog 8 (f8_2 (I c.funcs.length) (I i) v15 w3 w4 v16) (.tup [.agg [w'],I 0])/\RMod (some true) [w'] (clM m):=by
  intro d
  induction d with
  | zero =>
   intro i w3 w4 hi h3 h4
   have hi:i=c.funcs.length:=by omega
   subst hi
   obtain ⟨w',g1,g2⟩:=DV c4 (A:=bA (dz c) c.funcs id c.funcs.length) (by omega) (fun u hu=>by
    obtain ⟨j,a,_,hj,ha,e⟩:=tL hu
    have e:u=a:=e
    subst e
    have hsm:=lk (oT hs u (by rw [hC]; exact EC ha))
    refine ⟨hsm.1,fun b hb=>?_⟩
    have hcc:=oz hM (v:=u) (by rw [hC]; exact EC ha) hb
    rw [<- hcl] at hcc
    constructor
    ·intro x hx h11
     obtain ⟨a1,a2⟩:=hcc.1 x hx h11
     exact ⟨a1,a2,pb hj ha ⟨b,hb,.inl ⟨x,hx,h11,by omega⟩⟩ a2⟩
    ·intro h4
     obtain ⟨a1,a2⟩:=hcc.2 h4
     exact ⟨a1,a2,pb hj ha ⟨b,hb,.inr ⟨h4,by omega⟩⟩ a2⟩) (bA (dz c) c.funcs id c.funcs.length).length 0 w3 (by omega) (by rw [iJ]; exact ⟨w3,rfl,h3⟩)
   rw [eA] at g2
   refine ⟨w',?_,g2⟩
   unfold f8_2
   exact aa.tv rfl (aa.ite ap nofun fun _=>aa.tv h3.len (f8_3_J g1))
  | succ d ih =>
   intro i w3 w4 hi h3 h4
   have hil:i < c.funcs.length:=by omega
   obtain ⟨u,hu⟩:∃ u,c.funcs[i]? = some u:=⟨_,Eu hil⟩
   obtain ⟨e,b,a1,rfl,a2,a3,a4,a5,a6,w4',a7,a8⟩:=h4.take hu
   have ani:af (I (i:Int))=some i:=am (by omega)
   have hp:=RBArr.get c2 hil
   have l2:=c2.slLen
   rw [ck] at l2
   have hfe:ab ez [I u.params,I u.regs,b] 0=true:=by simp [ab,ez,aE,TV.isSc,scV,a2.isSl]
   have front:∀ {y:TV},(dz c i->aa prog 8 (.ite (frB b) (.rws (pelems 3 (.sl true 3 (chunks 3 1 [I u.params,I u.regs,b]))) fun r26=>.tv (papp 3 w3 r26) fun v27=>.tv (pbin (.int .i64) .add (I (i:Int)) (I 1)) fun v28=>.jmp [0,0,1,0,1,1,6,0,1,1,1,1,1,1] (f8_2_S (I c.funcs.length) v28 v15 v27 w4 v16)) (.tv (fD [(i,2)] w4 .hole) fun v29=>.rws (pelems 3 (.sl true 3 (chunks 3 1 [I u.params,I u.regs,b]))) fun r30=>.tv (papp 3 w3 r30) fun v31=>.tv (pbin (.int .i64) .add (I (i:Int)) (I 1)) fun v32=>.jmp [0,0,1,0,1,1,6,0,1,1,1,1,1,1] (f8_2_S (I c.funcs.length) v32 v15 v31 v29 v16))) y)->(¬ dz c i->aa prog 8 (f8_2 (I c.funcs.length) (I (i + 1:Nat)) v15 w3 w4 v16) y)->aa prog 8 (f8_2 (I c.funcs.length) (I i) v15 w3 w4 v16) y:=by
    intro y k1 k2
    unfold f8_2
    refine aa.tv rfl (aa.ite (aq hil) (fun _=>?_) nofun)
    refine aa.nat a4 (aa.nat ani (aa.chk (by rw [a5]; simpa using hil) (aa.tvs a1 (aa.chk hfe (aa.nat l2 (aa.nat ani (aa.chk (by rw [c2.slSize]; simpa using hil) (aa.tvs hp (aa.chk rfl (aa.ite rfl (fun h=>?_) fun h=>?_))))))))))
    ·exact aa.tv a6 (k1 (yD h))
    ·exact aa.tv (inc hil (by omega)) (f8_2_J (k2 (wV h)))
   by_cases hP:dz c i
   ·have hsl:=fo (P:=dz c) (l:=c.funcs) (f:=id) (k:=i)
    obtain ⟨w3',b1,b2⟩:=h3.app a3 (by omega)
    have b2:RL (some true) 3 (RFunc (some true)) w3' (bA (dz c) c.funcs id (i + 1)):=by rw [gi hP hu]; exact b2
    rcases a2 with ⟨rfl,hnil⟩ | ⟨o,xs,rfl,hq,hf,hbd⟩
    ·obtain ⟨w',g1,g2⟩:=ih (i + 1) w3' w4 (by omega) b2 h4.next
     refine ⟨w',front (fun _=>?_) (fun h=>absurd hP h),g2⟩
     exact aa.ite (v:=true) rfl (fun _=>aa.rws rfl (aa.tv b1 (aa.tv (inc hil (by omega)) (f8_2_J g1)))) nofun
    ·have:o=true:=hq true rfl
     subst this
     obtain ⟨w',g1,g2⟩:=ih (i + 1) w3' w4' (by omega) b2 a8
     refine ⟨w',front (fun _=>?_) (fun h=>absurd hP h),g2⟩
     exact aa.ite (v:=false) rfl nofun fun _=>aa.tv a7 (aa.rws rfl (aa.tv b1 (aa.tv (inc hil (by omega)) (f8_2_J g1))))
   ·obtain ⟨w',g1,g2⟩:=ih (i + 1) w3 w4 (by omega) (by rw [jt hP]; exact h3) h4.next
    exact ⟨w',front (fun h=>absurd h hP) (fun _=>g1),g2⟩
 obtain ⟨w',g1,g2⟩:=key c.funcs.length 0 (.lit aB) w (by omega) (by rw [gd]; exact RL.nil) (by
  rcases hw with ⟨rfl,hnil⟩ | ⟨o,xs,rfl,hq,hf,hbd⟩
  ·rw [hnil] at hcl
   simp at hcl
   omega
  ·have:o=true:=hq true rfl
   subst this
   exact ⟨xs,rfl,hf.length,fun j u _ hu=>hf.get hu⟩)
 refine ⟨w',?_,g2⟩
 unfold f8_1
 exact aa.call c1 (aa.chk (bp c2.isSl) (aa.call c3 (aa.chk (bp c4.isSl) (aa.tv hw.len (aa.chk rfl (f8_2_J g1))))))
include hx
theorem rF:∃ w,aj prog 8 [.agg [x]] (.tup [.agg [w],I 0])/\RMod (some true) [w] (clM m):=by
 have hN:=hs.1
 have key : ∀ (d i : Nat) (w : TV), i + d = m.funcs.length → RL (some true) 3 (RFunc (some true)) w (dc m.funcs.length fun k => if k < i then clF (vk m.funcs k) else ⟨0, 0, []⟩) → ∃ w', aa prog 8 (f8_0 x (I m.funcs.length) (I i) w) (.tup [.agg [w'], I 0]) ∧ RMod (some true) [w'] (clM m) := by
  intro d
  induction d with
  | zero =>
   intro i w hi hw
   have hi:i=m.funcs.length:=by omega
   subst hi
   rw [bU (h:=fun k=>clF (vk m.funcs k)) fun k hk=>if_pos hk,CJ] at hw
   obtain ⟨w',g1,g2⟩:=Dy hs hM hw
   refine ⟨w',?_,g2⟩
   unfold f8_0
   exact aa.tv rfl (aa.ite ap nofun fun _=>f8_1_J g1)
  | succ d ih =>
   intro i w hi hw
   have hil:i < m.funcs.length:=by omega
   obtain ⟨u,hu⟩:∃ u,m.funcs[i]? = some u:=⟨_,Eu hil⟩
   obtain ⟨e,he,hR⟩:=hx.idx (k:=.i64) hu
   obtain ⟨e',c1,c2⟩:=uD hR (by have:=(hs.2 i hil u hu).1; omega) (rU (hs.2 i hil u hu))
   obtain ⟨b0,rfl,_⟩:=hR
   obtain ⟨e2,he2,hR2⟩:=hw.pel (cp hil)
   have c3:=c2
   obtain ⟨b,rfl,hb,_⟩:=c2
   obtain ⟨b2,rfl,hb2,_⟩:=hR2
   obtain ⟨w',a1,a2⟩:=hw.gT he2 (d:=0) (ys:=[I (clF u).params,I (clF u).regs,b]) (a:=clF u) c3
   have a2:RL (some true) 3 (RFunc (some true)) w' (dc m.funcs.length fun k=>if k < i + 1 then clF (vk m.funcs k) else ⟨0,0,[]⟩):=by
    rw [rI,bU (h:=fun k=>if k < i + 1 then clF (vk m.funcs k) else ⟨0,0,[]⟩) fun k hk=>by
     by_cases e:k=i
     ·subst e; rw [nS,if_pos (by omega),yR hu]
     ·rw [nJ e]
      by_cases h:k < i
      ·rw [if_pos h,if_pos (by omega)]
      ·rw [if_neg h,if_neg (by omega)]] at a2
    exact a2
   obtain ⟨w2,g1,g2⟩:=ih (i + 1) w' (by omega) a2
   refine ⟨w2,?_,g2⟩
   have ani:af (I (i:Int))=some i:=am (by omega)
   have l:=hw.slLen
   rw [ck] at l
   have f1:ab ez [I (if i < i then clF (vk m.funcs i) else ⟨0,0,[]⟩).params,I (if i < i then clF (vk m.funcs i) else ⟨0,0,[]⟩).regs,b2] 0=true:=by simp [ab,ez,aE,TV.isSc,scV,hb2.isSl]
   have f2:ab ez [I (clF u).params,I (clF u).regs,b] 0=true:=by simp [ab,ez,aE,TV.isSc,scV,hb.isSl]
   unfold f8_0
   refine aa.tv rfl (aa.ite (aq hil) (fun _=>?_) nofun)
   exact aa.tvs he (aa.chk rfl (aa.call c1 (aa.chk f2 (aa.nat l (aa.nat ani (aa.chk (by rw [hw.slSize]; simpa using hil) (aa.tvs he2 (aa.chk (by rw [l8 f1]; exact f2) (aa.tv a1 (aa.tv (inc hil (by omega)) (f8_0_J g1)))))))))))
 have hzero:RFunc (some true) [I 0,I 0,.lit aB] ⟨0,0,[]⟩:=⟨.lit aB,rfl,RL.nil,(by show inI 0; unfold inI; omega),(by show inI 0; unfold inI; omega)⟩
 have hr:=RL.rep (s:=3) hzero (n:=m.funcs.length) (by omega)
 obtain ⟨w,g1,g2⟩:=key m.funcs.length 0 _ (by omega) (by rw [bU (h:=fun _=>(⟨0,0,[]⟩:DFunc)) fun k _=>if_neg (Nat.not_lt_zero _)]; exact hr)
 refine ⟨w,?_,g2⟩
 have c0:=r8 (q:=some false) (e:=[x]) (m:=m) ⟨x,rfl,hx⟩
 rw [i5 hM] at c0
 have lx:=hx.len (t:=27)
 have han:af (I (m.funcs.length:Int))=some m.funcs.length:=am (by omega)
 refine aj.of (f8_MR _) ?_
 unfold f8_M
 refine aa.chk rfl (aa.call c0 (aa.chk rfl (aa.tv rfl (aa.ite (v:=false) rfl nofun fun _=>?_))))
 exact aa.tv lx (aa.nat han (aa.nat han (aa.chk (by simp; omega) (aa.tv lx (f8_0_J g1)))))
end
end Go.Ab.D13
end
section
set_option maxRecDepth 10000
namespace Go.Ab
theorem DS {bs:List DBlock} {i:Nat} {b:DBlock} (h:(aC bs i).length=(nx b).length) (hb:bs[i]? = some b):∀ g ∈ nx b,0<=g/\g.toNat < bs.length:=by
 intro g hg
 have e:aC bs i=(nx b).filter (bh bs.length):=by unfold aC; rw [hb]
 rw [e] at h
 have h2:=List.length_filter_eq_length_iff.1 h g hg
 have h3:g ∈ aC bs i:=by rw [e]; exact List.mem_filter.2 ⟨hg,h2⟩
 exact dm h3
end Go.Ab
namespace Go.Ab.D13
open Go Go.Ab Go.Proofs
theorem qJ {e : List TV} {u : DFunc} (he : RFunc (some false) e u) (hl : u.blocks.length ≤ 1000) : ∃ e', aj prog 12 [.agg e] (.agg e') ∧ RFunc none e' (clF u) := by
 have hF:=he
 obtain ⟨b,rfl,hb,hp,hr⟩:=he
 obtain ⟨w4,M,c0,c1,c2⟩:=r84 hF hl
 have hM:=wx c2
 subst hM
 have cz:=c1.frz (S:=RB1) fun _ _ h=>h.frz
 have l4:=c1.slLen
 rw [ck] at l4
 have num:∀ {t:Int},0<=t/\t.toNat < u.blocks.length->aj prog 32 [frz w4,I t] (I (aA (Rc u.blocks (-1)) t.toNat)):=fun {t} ht=>by
  have:=yG cz hl (n:=t.toNat) (by omega)
  rwa [show ((t.toNat:Nat):Int)=t by omega] at this
 have hbn:=hb.bnd
 have key : ∀ (d n : Nat) (w : TV), n + d = u.blocks.length → RL (some true) 14 (RBlock (some false)) w (bA (Rc u.blocks (-1)) u.blocks (fV (aA (Rc u.blocks (-1)))) n) → (∀ k c, k < n → Rc u.blocks (-1) k → u.blocks[k]? = some c → (aC u.blocks k).length = (nx c).length) →
   ∃ e',aa prog 12 (f12_0 (I n) (I u.params) (I u.regs) b w4 w) (.agg e')/\RFunc none e' (clF u):=by
  intro d
  induction d with
  | zero =>
   intro n w hn hw hgd
   have hn:n=u.blocks.length:=by omega
   subst hn
   have hg:fU u:=fun i c hi hc=>hgd i c hi.lt hi hc
   have eC:=jV hg
   have hw:RL (some true) 14 (RBlock (some false)) w (se u.blocks):=hw
   by_cases h0:(se u.blocks).length=0
   ·have hb0:u.blocks=[]:=by
     cases hbb:u.blocks with
     | nil=>rfl
     | cons c t =>
      have hr0:Rc u.blocks (-1) 0:=.start (by omega) (by rw [hbb]; simp)
      have:=Br (P:=Rc u.blocks (-1)) (f:=fV (aA (Rc u.blocks (-1)))) (Nat.le_refl u.blocks.length) hr0.lt hr0
      have h1:(se u.blocks)[aA (Rc u.blocks (-1)) 0]? = (u.blocks[0]?).map (fV (aA (Rc u.blocks (-1)))):=this
      rw [EF (by omega),hbb] at h1
      cases h1
    refine ⟨[I u.params,I u.regs,b],?_,?_⟩
    ·unfold f12_0
     refine aa.tv hb.len (aa.tv rfl (aa.ite ap nofun fun _=>f12_2_J ?_))
     unfold f12_2
     exact aa.tv hw.len (aa.tv rfl (aa.ite (v:=false) (by rw [h0]; rfl) nofun fun _=>aa.ret))
    ·have e:clF u=u:=by
      rw [eC,show se u.blocks=u.blocks by rw [hb0] at h0 ⊢; exact List.eq_nil_of_length_eq_zero h0]
     rw [e]
     exact hF.weak
   ·refine ⟨[I u.params,I u.regs,w],?_,?_⟩
    ·unfold f12_0
     refine aa.tv hb.len (aa.tv rfl (aa.ite ap nofun fun _=>f12_2_J ?_))
     unfold f12_2
     exact aa.tv hw.len (aa.tv rfl (aa.ite (v:=true) (by simp [asBool]; omega) (fun _=>aa.ret) nofun))
    ·rw [eC]
     exact ⟨w,rfl,hw.weak fun _ _ h=>h.weak,hp,hr⟩
  | succ d ih =>
   intro n w hn hw hgd
   have hnl:n < u.blocks.length:=by omega
   obtain ⟨a,ha⟩:∃ a,u.blocks[n]? = some a:=⟨_,Eu hnl⟩
   have ann:af (I (n:Int))=some n:=am (by omega)
   have hpel:=RBArr.get c1 hnl
   have hck:(Bool.and (slSize w4 1) (Nat.blt n u.blocks.length))=true:=by rw [c1.slSize]; simpa using hnl
   by_cases hP:Rc u.blocks (-1) n
   ·rw [dF hP] at hpel
    obtain ⟨eb,heb,hRb⟩:=hb.idx (k:=.i64) ha
    obtain ⟨c,t,g,rfl,q1,q2,q3,q4,q5⟩:=hRb
    obtain ⟨v,n1,n2⟩:=r72 hF (n:Int)
    rw [jw] at n2
    have hml:=DE a
    have start:∀ {y:TV},aa prog 12 (f12_3 (I n) (I ((nx a).length:Int)) (I u.params) (I u.regs) b w4 w (B a.landing) (I a.pad.dst) c (B a.pad.all) (B a.pad.cleanup) t (I a.fin.kind) (I a.fin.a) (I a.fin.dst) (I a.fin.f) g (I a.fin.to) (I a.fin.els) (I a.fin.pad)) y->aa prog 12 (f12_0 (I n) (I u.params) (I u.regs) b w4 w) y:=by
     intro y h3
     unfold f12_0
     refine aa.tv hb.len (aa.tv rfl (aa.ite (aq hnl) (fun _=>?_) nofun))
     refine aa.nat l4 (aa.nat ann (aa.chk hck (aa.tvs hpel (aa.chk rfl (aa.tv rfl (aa.ite (v:=false) rfl nofun fun _=>?_))))))
     refine aa.tvs heb (aa.chk rfl (aa.tv rfl ?_))
     by_cases k2:a.fin.kind=2
     ·refine aa.ite (v:=true) (by simp [asBool,k2]) (fun _=>f12_1_J ?_) nofun
      rw [if_neg (by omega),if_pos k2] at hml
      rw [hml] at h3
      unfold f12_1
      exact aa.tv rfl (aa.ite (v:=false) (by simp [asBool,k2]) nofun fun _=>aa.tv rfl (aa.ite (v:=false) (by simp [asBool,k2]) nofun fun _=>f12_3_J h3))
     ·refine aa.ite (v:=false) (by simp [asBool,k2]) nofun fun _=>f12_1_J ?_
      unfold f12_1
      by_cases k3:a.fin.kind=3
      ·rw [if_pos (.inl k3)] at hml
       rw [hml] at h3
       exact aa.tv rfl (aa.ite (v:=true) (by simp [asBool,k3]) (fun _=>f12_3_J h3) nofun)
      ·by_cases k4:a.fin.kind=4
       ·rw [if_pos (.inr k4)] at hml
        rw [hml] at h3
        exact aa.tv rfl (aa.ite (v:=false) (by simp [asBool,k3]) nofun fun _=>aa.tv rfl (aa.ite (v:=true) (by simp [asBool,k4]) (fun _=>f12_3_J h3) nofun))
       ·rw [if_neg (by omega),if_neg k2] at hml
        rw [hml] at h3
        exact aa.tv rfl (aa.ite (v:=false) (by simp [asBool,k3]) nofun fun _=>aa.tv rfl (aa.ite (v:=false) (by simp [asBool,k4]) nofun fun _=>f12_3_J h3))
    by_cases hlen:(aC u.blocks n).length=(nx a).length
    ·have hga:=DS hlen ha
     have g2:a.fin.kind=2\/a.fin.kind=3\/a.fin.kind=4->0<=a.fin.to/\a.fin.to.toNat < u.blocks.length:=fun h=>hga _ (by unfold nx gl; simp [h])
     have g3:a.fin.kind=3->0<=a.fin.els/\a.fin.els.toNat < u.blocks.length:=fun h=>hga _ (by unfold nx gl; simp [h])
     have g4:a.fin.kind=4->0<=a.fin.pad/\a.fin.pad.toNat < u.blocks.length:=fun h=>hga _ (by unfold nx gl; simp [h])
     have inr:∀ {x:Int},inI (((aA (Rc u.blocks (-1)) x.toNat:Nat):Int))\/u.blocks.length<=x.toNat:=fun {x}=>by
      by_cases h:x.toNat < u.blocks.length
      ·left
       have:=qj (Rc u.blocks (-1)) x.toNat
       unfold inI
       omega
      ·right; omega
     generalize hψ:aA (Rc u.blocks (-1))=ψ at *
     have o1:inI (eJ ψ a.fin).to:=by
      show inI (if a.fin.kind=2\/a.fin.kind=3\/a.fin.kind=4 then ((ψ a.fin.to.toNat:Nat):Int) else a.fin.to)
      split
      ·rename_i h
       exact inr.resolve_right (by have:=g2 h; omega)
      ·exact q5.2.2.2.2.1
     have o2:inI (eJ ψ a.fin).els:=by
      show inI (if a.fin.kind=3 then ((ψ a.fin.els.toNat:Nat):Int) else a.fin.els)
      split
      ·rename_i h
       exact inr.resolve_right (by have:=g3 h; omega)
      ·exact q5.2.2.2.2.2.1
     have o3:inI (eJ ψ a.fin).pad:=by
      show inI (if a.fin.kind=4 then ((ψ a.fin.pad.toNat:Nat):Int) else a.fin.pad)
      split
      ·rename_i h
       exact inr.resolve_right (by have:=g4 h; omega)
      ·exact q5.2.2.2.2.2.2
     have hRB:RBlock (some false) [B a.landing,I a.pad.dst,c,B a.pad.all,B a.pad.cleanup,t,I a.fin.kind,I a.fin.a,I a.fin.dst,I a.fin.f,g,I (eJ ψ a.fin).to,I (eJ ψ a.fin).els,I (eJ ψ a.fin).pad] (fV ψ a):=⟨c,t,g,rfl,q1,q2,q3,q4,q5.1,q5.2.1,q5.2.2.1,q5.2.2.2.1,o1,o2,o3⟩
     have hsl:=fo (P:=Rc u.blocks (-1)) (l:=u.blocks) (f:=fV ψ) (k:=n)
     obtain ⟨w',b1,b2⟩:=hw.app hRB (by omega)
     obtain ⟨e',k1,k2⟩:=ih (n + 1) w' (by omega) (by rw [gi hP ha]; exact b2) (fun k c hk hr hc=>by
      by_cases e:k=n
      ·subst e; rw [ha] at hc; cases hc; exact hlen
      ·exact hgd k c (by omega) hr hc)
     refine ⟨e',start ?_,k2⟩
     have s6:aa prog 12 (f12_6 (I n) (I u.params) (I u.regs) b w4 w (B a.landing) (I a.pad.dst) c (B a.pad.all) (B a.pad.cleanup) t (I a.fin.kind) (I a.fin.a) (I a.fin.dst) (I a.fin.f) g (I (eJ ψ a.fin).to) (I (eJ ψ a.fin).els) (I (eJ ψ a.fin).pad)) (.agg e'):=by
      unfold f12_6
      exact aa.rws rfl (aa.tv b1 (aa.tv (inc hnl hbn) (f12_0_J k1)))
     have s5:aa prog 12 (f12_5 (I n) (I u.params) (I u.regs) b w4 w (B a.landing) (I a.pad.dst) c (B a.pad.all) (B a.pad.cleanup) t (I a.fin.kind) (I a.fin.a) (I a.fin.dst) (I a.fin.f) g (I (eJ ψ a.fin).to) (I (eJ ψ a.fin).els) (I a.fin.pad)) (.agg e'):=by
      unfold f12_5
      by_cases k4:a.fin.kind=4
      ·have e3:(eJ ψ a.fin).pad=((ψ a.fin.pad.toNat:Nat):Int):=if_pos k4
       rw [e3] at s6
       exact aa.tv rfl (aa.ite (v:=true) (by simp [asBool,k4]) (fun _=>aa.call (num (g4 k4)) (aa.chk rfl (f12_6_J s6))) nofun)
      ·have e3:(eJ ψ a.fin).pad=a.fin.pad:=if_neg k4
       rw [e3] at s6
       exact aa.tv rfl (aa.ite (v:=false) (by simp [asBool,k4]) nofun fun _=>f12_6_J s6)
     have s4:aa prog 12 (f12_4 (I n) (I u.params) (I u.regs) b w4 w (B a.landing) (I a.pad.dst) c (B a.pad.all) (B a.pad.cleanup) t (I a.fin.kind) (I a.fin.a) (I a.fin.dst) (I a.fin.f) g (I (eJ ψ a.fin).to) (I a.fin.els) (I a.fin.pad)) (.agg e'):=by
      unfold f12_4
      by_cases k3:a.fin.kind=3
      ·have e3:(eJ ψ a.fin).els=((ψ a.fin.els.toNat:Nat):Int):=if_pos k3
       rw [e3] at s5
       exact aa.tv rfl (aa.ite (v:=true) (by simp [asBool,k3]) (fun _=>aa.call (num (g3 k3)) (aa.chk rfl (f12_5_J s5))) nofun)
      ·have e3:(eJ ψ a.fin).els=a.fin.els:=if_neg k3
       rw [e3] at s5
       exact aa.tv rfl (aa.ite (v:=false) (by simp [asBool,k3]) nofun fun _=>f12_5_J s5)
     unfold f12_3
     refine aa.call n1 (aa.chk (bp n2.isSl) (aa.tv n2.len (aa.tv rfl (aa.ite (v:=false) (by rw [hlen]; simp [asBool]) nofun fun _=>aa.tv rfl ?_))))
     by_cases kk:a.fin.kind=2\/a.fin.kind=3\/a.fin.kind=4
     ·have e3:(eJ ψ a.fin).to=((ψ a.fin.to.toNat:Nat):Int):=if_pos kk
      rw [e3] at s4
      have h0:0 < (nx a).length:=by rw [hml]; split <;> first | omega | (split <;> omega)
      exact aa.ite (v:=true) (by simp [asBool]; omega) (fun _=>aa.call (num (g2 kk)) (aa.chk rfl (f12_4_J s4))) nofun
     ·have e3:(eJ ψ a.fin).to=a.fin.to:=if_neg kk
      rw [e3] at s4
      have h0:(nx a).length=0:=by rw [hml,if_neg (by omega),if_neg (by omega)]
      exact aa.ite (v:=false) (by rw [h0]; rfl) nofun fun _=>f12_4_J s4
    ·have e:clF u=u:=so fun h=>hlen (h n a hP ha)
     refine ⟨[I u.params,I u.regs,b],start ?_,by rw [e]; exact hF.weak⟩
     unfold f12_3
     exact aa.call n1 (aa.chk (bp n2.isSl) (aa.tv n2.len (aa.tv rfl (aa.ite (v:=true) (by simp [asBool]; omega) (fun _=>aa.ret) nofun))))
   ·rw [fS hP] at hpel
    obtain ⟨e',k1,k2⟩:=ih (n + 1) w (by omega) (by rw [jt hP]; exact hw) (fun k c hk hr hc=>by
     by_cases e:k=n
     ·subst e; exact absurd hr hP
     ·exact hgd k c (by omega) hr hc)
    refine ⟨e',?_,k2⟩
    unfold f12_0
    refine aa.tv hb.len (aa.tv rfl (aa.ite (aq hnl) (fun _=>?_) nofun))
    exact aa.nat l4 (aa.nat ann (aa.chk hck (aa.tvs hpel (aa.chk rfl (aa.tv rfl (aa.ite (v:=true) rfl (fun _=>aa.tv (inc hnl hbn) (f12_0_J k1)) nofun))))))
 obtain ⟨e',k1,k2⟩:=key u.blocks.length 0 (.lit aB) (by omega) (by rw [gd]; exact RL.nil) (fun k c hk=>absurd hk (Nat.not_lt_zero _))
 refine ⟨e',?_,k2⟩
 refine aj.of (f12_MR _) ?_
 unfold f12_M
 exact aa.chk rfl (aa.call c0 (aa.chk (bp c1.isSl) (aa.chk rfl (f12_0_J k1))))
end Go.Ab.D13
end
section
set_option maxRecDepth 10000
namespace Go.Ab
theorem Dx {p:Prop} [h:Decidable p]:decide p=dP p:=by
 by_cases hp:p
 ·rw [dF hp]; exact decide_eq_true hp
 ·rw [fS hp]; exact decide_eq_false hp
theorem RL.appD {α:Type} {s:Nat} {R:List TV->α->Prop} {m:List α} {rows:List (List TV)} (hr:F2 R rows m) (hl:m.length<=4294967296):∃ y',papp s (.sl true s []) rows=some y'/\RL (some true) s R y' m:=by
 have hlen:=hr.length
 refine ⟨.sl true s rows,?_,.sl (by simp) hr (by omega)⟩
 simp [papp,room]
 omega
end Go.Ab
namespace Go.Ab.D13
open Go Go.Ab Go.Proofs
section
variable {N:Nat} {P:Nat->Prop} {w4:TV} (hn:RBools (some true) w4 (dc N fun i=>dP (P i))) (hN:N<=100)
include hn hN
theorem Ej {t:Int} (h0:0<=t) (h1:t.toNat < N):aj prog 32 [frz w4,I t] (I (aA P t.toNat))/\inI (aA P t.toNat:Int):=by
 have:=yG (hn.frz (S:=RB1) fun _ _ h=>h.frz) (by omega) (n:=t.toNat) (by omega)
 rw [show ((t.toNat:Nat):Int)=t by omega] at this
 have hc:=qj P t.toNat
 exact ⟨this,by unfold inI; omega⟩
theorem refIns {l:List DIns} (hll:l.length<=1000) (hc:∀ x ∈ l,x.op=11->0<=x.f/\x.f.toNat < N) {x0 x1 y3 y5 y6 y7 w8 d0 d1 d2 d3 d4 d6 d7 d8 d9 d10 d11 d12 d13 w22:TV} {Z:TV->Prop}
  (hz:∀ w,RL (some true) 7 (RIns (some false)) w (l.map (fZ (aA P)))->∃ y,aa prog 14 (f14_8 x0 x1 y3 w4 y5 y6 y7 w8 d0 d1 d2 d3 d4 d6 d7 d8 d9 d10 d11 d12 d13 w22 w) y/\Z y) :
  ∀ (d t:Nat) (w:TV),t + d=l.length->RL (some true) 7 (RIns (some false)) w (bu (fZ (aA P)) l t)->∃ y,aa prog 14 (f14_6 x0 x1 (I t) y3 w4 y5 y6 y7 w8 d0 d1 d2 d3 d4 d6 d7 d8 d9 d10 d11 d12 d13 w22 w) y/\Z y:=by
 intro d
 induction d with
 | zero =>
  intro t w ht hw
  have ht:t=l.length:=by omega
  subst ht
  have lw:=hw.len (t:=50)
  rw [cX] at lw
  rw [jr] at hw
  obtain ⟨y,g1,g2⟩:=hz w hw
  refine ⟨y,?_,g2⟩
  unfold f14_6
  exact aa.tv lw (aa.tv rfl (aa.ite ap nofun fun _=>f14_8_J g1))
 | succ d ih =>
  intro t w ht hw
  have htl:t < l.length:=by omega
  obtain ⟨x,hx⟩:∃ x,l[t]? = some x:=⟨_,Eu htl⟩
  obtain ⟨e,he,hR⟩:=hw.pel (iC hx)
  obtain ⟨ga,rfl,hga,ho⟩:=hR
  have lw:=hw.len (t:=50)
  have ls:=hw.slLen
  rw [cX] at lw ls
  have ant:af (I (t:Int))=some t:=am (by omega)
  have hck:(Bool.and (slSize w 7) (Nat.blt t l.length))=true:=by rw [hw.slSize]; simpa using htl
  unfold f14_6
  by_cases h11:x.op=11
  ·obtain ⟨c0,c1⟩:=hc x (EC hx) h11
   obtain ⟨n1,n2⟩:=Ej hn hN c0 c1
   obtain ⟨w',a1,a2⟩:=hw.gT he (d:=5) (ys:=[I (aA P x.f.toNat:Int)]) (a:=fZ (aA P) x) (by
    have:fZ (aA P) x={ x with f:=(aA P x.f.toNat:Int) }:=if_pos h11
    rw [this]
    exact ⟨ga,rfl,hga,ho.1,ho.2.1,ho.2.2.1,ho.2.2.2.1,ho.2.2.2.2.1,n2⟩)
   rw [iv hx] at a2
   obtain ⟨y,g1,g2⟩:=ih (t + 1) w' (by omega) a2
   refine ⟨y,?_,g2⟩
   refine aa.tv lw (aa.tv rfl (aa.ite (aq htl) (fun _=>?_) nofun))
   refine aa.nat ls (aa.nat ant (aa.chk hck (aa.tvs he (aa.chk rfl (aa.tv rfl (aa.ite (v:=true) (by simp [asBool,h11]) (fun _=>?_) nofun))))))
   refine aa.nat ls (aa.nat ant (aa.chk hck (aa.tvs he (aa.chk rfl (aa.call n1 (aa.chk rfl ?_))))))
   exact aa.nat ls (aa.nat ant (aa.chk hck (aa.tvs he (aa.chk rfl (aa.tv a1 (aa.tv (inc htl (by omega)) (f14_6_J g1)))))))
  ·have:fZ (aA P) x=x:=if_neg h11
   rw [<- qG hx this] at hw
   obtain ⟨y,g1,g2⟩:=ih (t + 1) w (by omega) hw
   refine ⟨y,?_,g2⟩
   refine aa.tv lw (aa.tv rfl (aa.ite (aq htl) (fun _=>?_) nofun))
   refine aa.nat ls (aa.nat ant (aa.chk hck (aa.tvs he (aa.chk rfl (aa.tv rfl (aa.ite (v:=false) (by simp [asBool,h11]) nofun fun _=>?_))))))
   exact aa.tv (inc htl (by omega)) (f14_6_J g1)
theorem refBlk {b:TV} {bs:List DBlock} (hb:RL (some false) 14 (RBlock (some false)) b bs) (hbl:bs.length<=1000) (hc:∀ c ∈ bs,c.ins.length<=1000/\(∀ x ∈ c.ins,x.op=11->0<=x.f/\x.f.toNat < N)/\(c.fin.kind=4->0<=c.fin.f/\c.fin.f.toNat < N)) {x0 y2 y4 y5 w8:TV} {Z:TV->Prop}
  (hz:∀ w,RL (some true) 14 (RBlock none) w (bs.map (fT (aA P)))->∃ y,aa prog 14 (f14_7 x0 y2 w4 y4 y5 b w w8) y/\Z y) :
  ∀ (d k:Nat) (w:TV),k + d=bs.length->RL (some true) 14 (RBlock none) w ((bs.take k).map (fT (aA P)))->∃ y,aa prog 14 (f14_5 x0 (I k) y2 w4 y4 y5 b w w8) y/\Z y:=by
 intro d
 induction d with
 | zero =>
  intro k w hk hw
  have hk:k=bs.length:=by omega
  subst hk
  rw [List.take_length] at hw
  obtain ⟨y,g1,g2⟩:=hz w hw
  refine ⟨y,?_,g2⟩
  unfold f14_5
  exact aa.tv hb.len (aa.tv rfl (aa.ite ap nofun fun _=>f14_7_J g1))
 | succ d ih =>
  intro k w hk hw
  have hkl:k < bs.length:=by omega
  obtain ⟨a,ha⟩:∃ a,bs[k]? = some a:=⟨_,Eu hkl⟩
  obtain ⟨hil,hci,hc4⟩:=hc a (EC ha)
  obtain ⟨eb,heb,hRb⟩:=hb.idx (k:=.i64) ha
  obtain ⟨c,t,g,rfl,q1,q2,q3,q4,q5⟩:=hRb
  obtain ⟨rows,r1,r2⟩:=q3.elems
  obtain ⟨v,p1,p2⟩:=RL.appD r2 (by omega)
  have etk:(bs.take (k + 1)).map (fT (aA P))=(bs.take k).map (fT (aA P)) ++ [fT (aA P) a]:=by
   rw [List.take_add_one,ha,List.map_append]
   rfl
  have fin9:∀ {wi:TV} {f':Int},RL (some true) 7 (RIns (some false)) wi (a.ins.map (fZ (aA P)))->f'=(fT (aA P) a).fin.f->inI f'->∃ y,aa prog 14 (f14_9 x0 (I k) y2 w4 y4 y5 b w (B a.landing) (I a.pad.dst) c (B a.pad.all) (B a.pad.cleanup) (I a.fin.kind) (I a.fin.a) (I a.fin.dst) (I f') g (I a.fin.to) (I a.fin.els) (I a.fin.pad) w8 wi) y/\Z y:=by
   intro wi f' hwi ef hf
   have hRB:RBlock none [B a.landing,I a.pad.dst,c,B a.pad.all,B a.pad.cleanup,wi,I a.fin.kind,I a.fin.a,I a.fin.dst,I f',g,I a.fin.to,I a.fin.els,I a.fin.pad] (fT (aA P) a):=by
    subst ef
    exact ⟨c,wi,g,rfl,q1.weak fun _ _ h=>h,q2,hwi.weak fun _ _ h=>h.weak,q4.weak fun _ _ h=>h,q5.1,q5.2.1,q5.2.2.1,hf,q5.2.2.2.2⟩
   obtain ⟨w',b1,b2⟩:=hw.app hRB (by simp; omega)
   obtain ⟨y,g1,g2⟩:=ih (k + 1) w' (by omega) (by rw [etk]; exact b2)
   refine ⟨y,?_,g2⟩
   unfold f14_9
   exact aa.rws rfl (aa.tv b1 (aa.tv (inc hkl (by omega)) (f14_5_J g1)))
  have all:∀ {w22:TV},w22=w8->∃ y,aa prog 14 (f14_6 x0 (I k) (I ((0:Nat):Int)) y2 w4 y4 y5 b w (B a.landing) (I a.pad.dst) c (B a.pad.all) (B a.pad.cleanup) (I a.fin.kind) (I a.fin.a) (I a.fin.dst) (I a.fin.f) g (I a.fin.to) (I a.fin.els) (I a.fin.pad) w22 v) y/\Z y:=by
   intro w22 e22
   subst e22
   refine refIns hn hN hil hci (fun wi hwi=>?_) a.ins.length 0 v (by omega) (by rw [iJ]; exact p2)
   by_cases k4:a.fin.kind=4
   ·obtain ⟨c0,c1⟩:=hc4 k4
    obtain ⟨n1,n2⟩:=Ej hn hN c0 c1
    obtain ⟨y,g1,g2⟩:=fin9 (f':=(aA P a.fin.f.toNat:Int)) hwi (by show _=(if a.fin.kind=4 then ((aA P a.fin.f.toNat:Nat):Int) else a.fin.f); rw [if_pos k4]) n2
    refine ⟨y,?_,g2⟩
    unfold f14_8
    exact aa.tv rfl (aa.ite (v:=true) (by simp [asBool,k4]) (fun _=>aa.call n1 (aa.chk rfl (f14_9_J g1))) nofun)
   ·obtain ⟨y,g1,g2⟩:=fin9 (f':=a.fin.f) hwi (by show _=(if a.fin.kind=4 then ((aA P a.fin.f.toNat:Nat):Int) else a.fin.f); rw [if_neg k4]) q5.2.2.2.1
    refine ⟨y,?_,g2⟩
    unfold f14_8
    exact aa.tv rfl (aa.ite (v:=false) (by simp [asBool,k4]) nofun fun _=>f14_9_J g1)
  obtain ⟨y,g1,g2⟩:=all rfl
  refine ⟨y,?_,g2⟩
  unfold f14_5
  exact aa.tv hb.len (aa.tv rfl (aa.ite (aq hkl) (fun _=>aa.tvs heb (aa.chk rfl (aa.rws r1 (aa.tv p1 (f14_6_J g1))))) nofun))
theorem refAll {y:TV} {fs:List DFunc} (hy:RL (some false) 3 (RFunc (some false)) y fs) (hfs:fs.length=N) (hc:∀ u ∈ fs,u.blocks.length<=1000/\∀ c ∈ u.blocks,c.ins.length<=1000/\(∀ x ∈ c.ins,x.op=11->0<=x.f/\x.f.toNat < N)/\(c.fin.kind=4->0<=c.fin.f/\c.fin.f.toNat < N)) :
  ∀ (d n:Nat) (w:TV),n + d=N->RL (some true) 3 (RFunc none) w (bA P fs (gF (aA P)) n)->∃ w',aa prog 14 (f14_4 (I n) y w4 w) (.agg [w'])/\RMod none [w'] ⟨bA P fs (gF (aA P)) N⟩:=by
 have l4:=hn.slLen
 have p4:=hn.len (t:=4)
 rw [ck] at l4 p4
 intro d
 induction d with
 | zero =>
  intro n w hk hw
  have hk:n=N:=by omega
  subst hk
  refine ⟨w,?_,w,rfl,hw.weak fun _ _ h=>h⟩
  unfold f14_4
  exact aa.tv p4 (aa.tv rfl (aa.ite ap nofun fun _=>aa.ret))
 | succ d ih =>
  intro n w hk hw
  have hnl:n < N:=by omega
  obtain ⟨u,hu⟩:∃ u,fs[n]? = some u:=⟨_,Eu (by omega)⟩
  have hp:=RBArr.get hn hnl
  have ann:af (I (n:Int))=some n:=am (by omega)
  have hck:(Bool.and (slSize w4 1) (Nat.blt n N))=true:=by rw [hn.slSize]; simpa using hnl
  by_cases hP:P n
  ·rw [dF hP] at hp
   obtain ⟨e,he,hR⟩:=hy.idx (k:=.i64) hu
   obtain ⟨b,rfl,hb,hpp,hrr⟩:=hR
   obtain ⟨hbl,hcb⟩:=hc u (EC hu)
   have hsl:=fo (P:=P) (l:=fs) (f:=gF (aA P)) (k:=n)
   obtain ⟨y',g1,w',rfl,g2⟩:=refBlk hn hN hb hbl hcb (x0:=I n) (y2:=y) (y4:=I u.params) (y5:=I u.regs) (w8:=w) (Z:=fun r=>∃ w',r=.agg [w']/\RMod none [w'] ⟨bA P fs (gF (aA P)) N⟩) (fun wb hwb=>by
    have hRF:RFunc none [I u.params,I u.regs,wb] (gF (aA P) u):=⟨wb,rfl,hwb.weak fun _ _ h=>h,hpp,hrr⟩
    obtain ⟨w2,b1,b2⟩:=hw.app hRF (by omega)
    obtain ⟨w',g1,g2⟩:=ih (n + 1) w2 (by omega) (by rw [gi hP hu]; exact b2)
    refine ⟨_,?_,w',rfl,g2⟩
    unfold f14_7
    exact aa.rws rfl (aa.tv b1 (aa.tv (inc hnl (by omega)) (f14_4_J g1)))) u.blocks.length 0 (.lit aB) (by omega) RL.nil
   refine ⟨w',?_,g2⟩
   unfold f14_4
   refine aa.tv p4 (aa.tv rfl (aa.ite (aq hnl) (fun _=>?_) nofun))
   refine aa.nat l4 (aa.nat ann (aa.chk hck (aa.tvs hp (aa.chk rfl (aa.tv rfl (aa.ite (v:=false) rfl nofun fun _=>?_))))))
   exact aa.tvs he (aa.chk rfl (aa.chk rfl (f14_5_J g1)))
  ·rw [fS hP] at hp
   obtain ⟨w',g1,g2⟩:=ih (n + 1) w (by omega) (by rw [jt hP]; exact hw)
   refine ⟨w',?_,g2⟩
   unfold f14_4
   refine aa.tv p4 (aa.tv rfl (aa.ite (aq hnl) (fun _=>?_) nofun))
   refine aa.nat l4 (aa.nat ann (aa.chk hck (aa.tvs hp (aa.chk rfl (aa.tv rfl (aa.ite (v:=true) rfl (fun _=>?_) nofun))))))
   exact aa.tv (inc hnl (by omega)) (f14_4_J g1)
end
theorem vb {x : TV} {m : DMod} (hx : RL (some false) 3 (RFunc (some false)) x m.funcs) (hs : jk m) (hM : kL m) : ∃ w, aj prog 14 [.agg [x]] (.agg [w]) ∧ RMod none [w] (clM m) := by
 have hN:=hs.1
 have first : ∀ (d n : Nat) (w : TV), n + d = m.funcs.length → RL (some true) 3 (RFunc none) w ((m.funcs.take n).map clF) → ∃ w', aa prog 14 (f14_0 (I n) x w) (.agg [w']) ∧ RMod none [w'] (clM m) := by
  intro d
  induction d with
  | zero =>
   intro n w hn hw
   have hn:n=m.funcs.length:=by omega
   subst hn
   rw [List.take_length] at hw
   have hw:RL (some true) 3 (RFunc none) w (clC m).funcs:=hw
   have hz:RL (some false) 3 (RFunc (some false)) (frz w) (clC m).funcs:=hw.frz fun _ _ h=>h.frz
   have hcl:=nO m
   have hNc:(clC m).funcs.length<=100:=by omega
   obtain ⟨v7,l,t1,t2,t3⟩:=rTo hz hNc 0
   have lw:=hw.len (t:=27)
   rw [hcl] at lw
   have han:af (I (m.funcs.length:Int))=some m.funcs.length:=am (by omega)
   have co:∀ {k:Nat},k≠0->(((k:Int) ∈ fq l) ↔ dz (clC m) k):=fun {k} hk=>by
    have e1:(k:Int) ∈ fq l ↔ k ∈ l:=by
     unfold fq
     rw [List.mem_map]
     constructor
     ·rintro ⟨j,hj,e⟩
      have:j=k:=by omega
      subst this
      exact hj
     ·intro h; exact ⟨k,h,rfl⟩
    rw [e1,t3 k]
    constructor
    ·rintro ⟨n,e,h⟩
     have:n=0:=by omega
     subst this
     exact .inr h
    ·rintro (e | h)
     ·exact absurd e hk
     ·exact ⟨0,rfl,h⟩
   have last:∀ {w3:TV},RBools (some true) w3 (dc m.funcs.length fun i=>dP (dz (clC m) i))->∃ w',aa prog 14 (f14_3 (frz w) w3) (.agg [w'])/\RMod none [w'] (clM m):=by
    intro w3 h3
    obtain ⟨w',g1,g2⟩:=refAll h3 (by omega) hz hcl (fun u hu=>by
     have hsm:=lk (oT hs u hu)
     refine ⟨by have:=hsm.1; omega,fun c hc=>⟨by have:=hsm.2 c hc; omega,?_⟩⟩
     exact oz hM hu hc) m.funcs.length 0 (.lit aB) (by omega) (by rw [gd]; exact RL.nil)
    refine ⟨w',?_,g2⟩
    unfold f14_3
    exact aa.chk rfl (f14_4_J g1)
   have mark : ∀ (d n : Nat) (w3 : TV), n + d = m.funcs.length → RBools (some true) w3 (dc m.funcs.length fun i => if i < n then dP (dz (clC m) i) else false) → ∃ w', aa prog 14 (f14_2 (I n) (frz w) v7 w3) (.agg [w']) ∧ RMod none [w'] (clM m) := by
    intro d
    induction d with
    | zero =>
     intro n w3 hn h3
     have hn:n=m.funcs.length:=by omega
     subst hn
     have p3:=h3.len (t:=4)
     rw [ck] at p3
     rw [bU (h:=fun i=>dP (dz (clC m) i)) fun i hi=>if_pos hi] at h3
     obtain ⟨w',g1,g2⟩:=last h3
     refine ⟨w',?_,g2⟩
     unfold f14_2
     exact aa.tv p3 (aa.tv rfl (aa.ite ap nofun fun _=>f14_3_J g1))
    | succ d ih =>
     intro n w3 hn h3
     have hnl:n < m.funcs.length:=by omega
     have p3:=h3.len (t:=4)
     have l3:=h3.slLen
     rw [ck] at p3 l3
     have hp:=RBArr.get h3 hnl
     have ann:af (I (n:Int))=some n:=am (by omega)
     have hck:(Bool.and (slSize w3 1) (Nat.blt n m.funcs.length))=true:=by rw [h3.slSize]; simpa using hnl
     obtain ⟨w3',a1,a2⟩:=RBArr.set h3 hnl (dP (dz (clC m) n))
     have a2:RBools (some true) w3' (dc m.funcs.length fun i=>if i < n + 1 then dP (dz (clC m) i) else false):=by
      rw [bU (h:=wZ (fun i=>if i < n then dP (dz (clC m) i) else false) n (dP (dz (clC m) n))) fun i hi=>by
       by_cases e:i=n
       ·subst e; rw [nS,if_pos (by omega)]
       ·rw [nJ e]
        by_cases h:i < n
        ·rw [if_pos h,if_pos (by omega)]
        ·rw [if_neg h,if_neg (by omega)]]
      exact a2
     obtain ⟨w',g1,g2⟩:=ih (n + 1) w3' (by omega) a2
     refine ⟨w',?_,g2⟩
     unfold f14_2
     refine aa.tv p3 (aa.tv rfl (aa.ite (aq hnl) (fun _=>aa.tv rfl ?_) nofun))
     by_cases e0:n=0
     ·subst e0
      rw [dF (.inl rfl)] at a1
      exact aa.ite (v:=true) rfl (fun _=>aa.nat l3 (aa.nat ann (aa.chk hck (aa.tvs hp (aa.chk rfl (aa.tv a1 (aa.tv (inc hnl (by omega)) (f14_2_J g1)))))))) nofun
     ·have hh:=r75 (t2.frz (S:=RI1) fun _ _ h=>h.frzZ) (n:Int)
      rw [Dx,lB (co e0)] at hh
      exact aa.ite (v:=false) (by simp [asBool]; omega) nofun fun _=>aa.call hh (aa.chk rfl (aa.nat l3 (aa.nat ann (aa.chk hck (aa.tvs hp (aa.chk rfl (aa.tv a1 (aa.tv (inc hnl (by omega)) (f14_2_J g1)))))))))
   have hfalse:RB1 [B false] false:=rfl
   have hr:=RL.rep (s:=1) hfalse (n:=m.funcs.length) (by omega)
   obtain ⟨w',g1,g2⟩:=mark m.funcs.length 0 _ (by omega) (by rw [bU (h:=fun _=>false) fun k _=>if_neg (Nat.not_lt_zero _)]; exact hr)
   refine ⟨w',?_,g2⟩
   unfold f14_0
   refine aa.tv hx.len (aa.tv rfl (aa.ite ap nofun fun _=>f14_1_J ?_))
   unfold f14_1
   exact aa.call t1 (aa.chk (bp t2.isSl) (aa.tv lw (aa.nat han (aa.nat han (aa.chk (by simp; omega) (f14_2_J g1))))))
  | succ d ih =>
   intro n w hn hw
   have hnl:n < m.funcs.length:=by omega
   obtain ⟨u,hu⟩:∃ u,m.funcs[n]? = some u:=⟨_,Eu hnl⟩
   obtain ⟨e,he,hR⟩:=hx.idx (k:=.i64) hu
   have hsu:=hs.2 n hnl u hu
   obtain ⟨e',c1,c2⟩:=qJ hR (by have:=hsu.1; omega)
   obtain ⟨b0,rfl,_⟩:=hR
   have c3:=c2
   obtain ⟨b,rfl,hb,_⟩:=c2
   obtain ⟨w',b1,b2⟩:=hw.app c3 (by simp; omega)
   obtain ⟨w2,g1,g2⟩:=ih (n + 1) w' (by omega) (by
    rw [List.take_add_one,hu,List.map_append]
    exact b2)
   refine ⟨w2,?_,g2⟩
   unfold f14_0
   refine aa.tv hx.len (aa.tv rfl (aa.ite (aq hnl) (fun _=>?_) nofun))
   exact aa.tvs he (aa.chk rfl (aa.call c1 (aa.chk (by simp [TV.isAgg,TV.cellsL,ab,ez,aE,TV.isSc,scV,hb.isSl]) (aa.rws rfl (aa.tv b1 (aa.tv (inc hnl (by omega)) (f14_0_J g1)))))))
 obtain ⟨w',g1,g2⟩:=first m.funcs.length 0 (.lit aB) (by omega) RL.nil
 refine ⟨w',?_,g2⟩
 refine aj.of (f14_MR _) ?_
 unfold f14_M
 exact aa.chk rfl (aa.chk rfl (f14_0_J g1))
end Go.Ab.D13
end
section
set_option maxRecDepth 100000
namespace Go.Ab
def bJ (t:Int):DBlock:=⟨false,⟨0,[],false,false⟩,[],⟨2,0,0,0,[],t,0,0⟩⟩
def bR:DBlock:=⟨false,⟨0,[],false,false⟩,[],⟨1,0,0,0,[],0,0,0⟩⟩
def fnA:DFunc:=⟨0,1,[bJ 2,bR,bR]⟩
def fnB:DFunc:=⟨0,1,[bJ 1,bR]⟩
def jT (t:Int):List TV:=[B false,I 0,.lit aB,B false,B false,.lit aB,I 2,I 0,I 0,I 0,.lit aB,I t,I 0,I 0]
def rT:List TV:=[B false,I 0,.lit aB,B false,B false,.lit aB,I 1,I 0,I 0,I 0,.lit aB,I 0,I 0,I 0]
theorem iV:inI 0:=by unfold inI; omega
theorem rJ {t:Int} (h:inI t):RBlock (some false) (jT t) (bJ t):=⟨_,_,_,rfl,RL.nil,iV,RL.nil,RL.nil,(by show inI 2; unfold inI; omega),iV,iV,iV,h,iV,iV⟩
theorem rR:RBlock (some false) rT bR:=⟨_,_,_,rfl,RL.nil,iV,RL.nil,RL.nil,(by show inI 1; unfold inI; omega),iV,iV,iV,iV,iV,iV⟩
theorem rcA (i:Nat):Rc fnA.blocks (-1) i ↔ i=0\/i=2:=by
 have e0:aC fnA.blocks 0=[2]:=rfl
 have e2:aC fnA.blocks 2=[]:=rfl
 constructor
 ·intro h
  induction h with
  | start=>exact .inl rfl
  | next _ hg _ ih =>
   rcases ih with rfl | rfl
   ·rw [e0] at hg
    rw [List.mem_singleton.1 hg]
    exact .inr rfl
   ·rw [e2] at hg
    cases hg
 ·have h0:Rc fnA.blocks (-1) 0:=.start (by omega) (by decide)
  rintro (rfl | rfl)
  ·exact h0
  ·exact .next h0 (g:=2) (by rw [e0]; exact List.mem_singleton.2 rfl) (by omega)
theorem clA:clF fnA=fnB:=by
 have hg:fU fnA:=by
  intro i b hi hb
  rcases (rcA i).1 hi with rfl | rfl
  ·have:bJ 2=b:=Option.some.inj hb
   subst this
   rfl
  ·have:bR=b:=Option.some.inj hb
   subst this
   rfl
 rw [jV hg]
 have hP:Rc fnA.blocks (-1)=fun i=>i=0\/i=2:=funext fun i=>propext (rcA i)
 have e:se fnA.blocks=fnB.blocks:=by
  unfold se
  rw [hP]
  show bA (fun i=>i=0\/i=2) fnA.blocks (fV (aA fun i=>i=0\/i=2)) 3=_
  have c2:aA (fun i:Nat=>i=0\/i=2) 2=1:=by rw [ot (k:=1) (by omega),md (k:=0) (.inl rfl),lI]
  rw [gi (k:=2) (a:=bR) (.inr rfl) rfl,jt (k:=1) (by omega),gi (k:=0) (a:=bJ 2) (.inl rfl) rfl,gd]
  have a1:fV (aA fun i=>i=0\/i=2) (bJ 2)=bJ 1:=by
   have:fV (aA fun i=>i=0\/i=2) (bJ 2)=bJ ((aA (fun i:Nat=>i=0\/i=2) 2:Nat):Int):=rfl
   rw [this,c2]
   rfl
  have a2:fV (aA fun i=>i=0\/i=2) bR=bR:=rfl
  rw [a1,a2]
  rfl
 show (⟨0,1,se fnA.blocks⟩:DFunc)=fnB
 rw [e]
 rfl
theorem clB:clF fnB=fnB:=by
 have h:=BZ (v:=fnB) (by
  intro b hb g hg
  have hb:b ∈ [bJ 1,bR]:=hb
  rcases List.mem_cons.1 hb with rfl | hb
  ·have hg:g ∈ [(1:Int)]:=hg
   rw [List.mem_singleton.1 hg]
   decide
  ·rw [List.mem_singleton.1 hb] at hg
   cases hg) (fun i hi=>by
  have h0:Rc fnB.blocks (-1) 0:=.start (by omega) (by decide)
  have hi:i < 2:=hi
  have:i=0\/i=1:=by omega
  rcases this with rfl | rfl
  ·exact h0
  ·exact .next h0 (g:=1) (by show (1:Int) ∈ [(1:Int)]; exact List.mem_singleton.2 rfl) (by omega)) (by intro h; cases h) []
 exact h
theorem clMB:(clM ⟨[fnB,fnB]⟩).funcs.length=1:=by
 have eC:clC ⟨[fnB,fnB]⟩=⟨[fnB,fnB]⟩:=by
  show (⟨[clF fnB,clF fnB]⟩:DMod)=_
  rw [clB]
 have no:∀ {a k:Nat},¬ ofP ⟨[fnB,fnB]⟩ a k:=by
  rintro a k ⟨_,u,hu,b,hb,h⟩
  have hu:u ∈ [fnB,fnB]:=EC hu
  have:u=fnB:=by simpa using hu
  subst this
  have hb:b ∈ [bJ 1,bR]:=hb
  rcases h with ⟨x,hx,_⟩ | ⟨h4,_⟩
  ·rcases List.mem_cons.1 hb with rfl | hb
   ·cases hx
   ·rw [List.mem_singleton.1 hb] at hx
    cases hx
  ·rcases List.mem_cons.1 hb with rfl | hb
   ·exact absurd h4 (by decide)
   ·rw [List.mem_singleton.1 hb] at h4
    exact absurd h4 (by decide)
 have hP:dz ⟨[fnB,fnB]⟩=fun k=>k=0:=by
  funext k
  apply propext
  constructor
  ·rintro (h | h)
   ·exact h
   ·cases h with
    | one h=>exact absurd h no
    | more _ h=>exact absurd h no
  ·intro h; exact .inl h
 unfold clM
 rw [eC,hP]
 show (bA (fun k=>k=0) [fnB,fnB] _ 2).length=1
 rw [jt (k:=1) (by omega),gi (P:=fun k=>k=0) (k:=0) (a:=fnB) rfl rfl,gd]
 rfl
end Go.Ab
namespace Go.Ab.D13
open Go Go.Ab Go.Proofs
theorem DB:aj prog 15 [.agg [.sl false 3 [[I 0,I 1,.sl false 14 [jT 1,rT]],[I 0,I 1,.sl false 14 [jT 1,rT]]]]] (B true):=⟨40,by kernel_rfl⟩
theorem oneI:inI 1:=by unfold inI; omega
theorem mayB:kL ⟨[fnB,fnB]⟩:=by
 have hb:RL (some false) 14 (RBlock (some false)) (.sl false 14 [jT 1,rT]) fnB.blocks:=.sl (by simp) (.cons (rJ oneI) (.cons rR .nil)) (by simp)
 have hf:RFunc (some false) [I 0,I 1,.sl false 14 [jT 1,rT]] fnB:=⟨_,rfl,hb,iV,oneI⟩
 have hM:RMod (some false) [.sl false 3 [[I 0,I 1,.sl false 14 [jT 1,rT]],[I 0,I 1,.sl false 14 [jT 1,rT]]]] ⟨[fnB,fnB]⟩:=⟨_,rfl,.sl (by simp) (.cons hf (.cons hf .nil)) (by simp)⟩
 have h:=r8 hM
 have:=h.det DB
 have e:tt (kL ⟨[fnB,fnB]⟩)=true:=by
  have:(TV.lit (.bool (tt (kL ⟨[fnB,fnB]⟩))))=TV.lit (.bool true):=this
  simpa using this
 exact aL.1 e
theorem CO:aj prog 5 [] (B true):=by
 have hA:RFunc (some false) [I 0,I 1,.sl false 14 [jT 2,rT,rT]] fnA:=⟨_,rfl,.sl (by simp) (.cons (rJ (by unfold inI; omega)) (.cons rR (.cons rR .nil))) (by simp),iV,oneI⟩
 have hsB:ji fnB:=by
  refine ⟨by show 2<=70; omega,fun i hi b hb=>?_⟩
  have hb:b ∈ [bJ 1,bR]:=EC hb
  rcases List.mem_cons.1 hb with rfl | hb
  ·exact ⟨by decide,by decide,by decide,fun j hj=>absurd hj (Nat.not_lt_zero _)⟩
  ·rw [List.mem_singleton.1 hb]
   exact ⟨by decide,by decide,by decide,fun j hj=>absurd hj (Nat.not_lt_zero _)⟩
 obtain ⟨e,k1,k2⟩:=uD hA (by show 3<=1000; omega) (by rw [clA]; exact hsB)
 rw [clA] at k2
 obtain ⟨b,rfl,hb,hp,hr⟩:=k2
 have hz:RL (some false) 14 (RBlock (some false)) (frz b) fnB.blocks:=hb.frz fun _ _ h=>h.frz
 have hzz:RL (some false) 14 (RBlock (some false)) (frz (frz b)) fnB.blocks:=hz.frz fun _ _ h=>h.frz
 have hF:RFunc (some false) [I 0,I 1,frz (frz b)] fnB:=⟨_,rfl,hzz,hp,hr⟩
 have hM:RL (some false) 3 (RFunc (some false)) (frz (.sl true 3 (chunks 3 2 [I 0,I 1,frz b,I 0,I 1,frz b]))) (DMod.funcs ⟨[fnB,fnB]⟩):=by
  show RL (some false) 3 (RFunc (some false)) (.sl false 3 [[I 0,I 1,frz (frz b)],[I 0,I 1,frz (frz b)]]) [fnB,fnB]
  exact .sl (by simp) (.cons hF (.cons hF .nil)) (by simp)
 obtain ⟨w,m1,m2⟩:=rF hM ⟨by show 2<=20; omega,fun i hi f hf=>by
  have hf:f ∈ [fnB,fnB]:=EC hf
  have:f=fnB:=by simpa using hf
  subst this
  exact hsB⟩ mayB
 obtain ⟨_,hw,hwl⟩:=m2
 cases hw
 obtain ⟨e0,he0,hR0⟩:=hz.idx (k:=.i64) (i:=0) (a:=bJ 1) rfl
 obtain ⟨c,t,g,rfl,_⟩:=hR0
 refine aj.of f5_MR ?_
 unfold f5_M
 refine aa.call k1 (aa.chk (by simp [TV.isAgg,TV.cellsL,ab,ez,aE,TV.isSc,scV,hb.isSl]) (aa.tv hb.len (aa.tv rfl (aa.ite (v:=false) rfl nofun fun _=>f5_0_J ?_))))
 unfold f5_0
 refine aa.call m1 (aa.chk rfl (aa.chk (by simp [TV.comp,nth,TV.isAgg,ab,zSl,aE,TV.cellsL,hwl.isSl]) (aa.chk rfl ?_)))
 refine aa.tv hz.len (aa.tv rfl (aa.ite (v:=true) rfl (fun _=>aa.tvs he0 (aa.chk rfl (aa.tv rfl (aa.ite (v:=true) rfl (fun _=>aa.tv rfl (aa.ite (v:=true) rfl (fun _=>?_) nofun)) nofun)))) nofun))
 refine aa.tv hwl.len (aa.tv (v:=B true) ?_ aa.ret)
 rw [clMB]
 rfl
end Go.Ab.D13
end
section
set_option maxRecDepth 10000
namespace Go.Ab
end Go.Ab
namespace Go.Ab.D13
open Go Go.Ab Go.Proofs
theorem rDeadRight {e e':List TV} {m:DMod} {f:DFunc} (he:RMod (some false) e m) (hf:RFunc (some false) e' f):aj prog 3 [.agg e,.agg e'] (B true):=by
 have he0:=he
 have hf0:=hf
 obtain ⟨x,rfl,hx⟩:=he
 obtain ⟨b,rfl,hb,hp,hr⟩:=hf
 obtain ⟨s1,c1,d1⟩:=r7 he0
 have hMf:RMod (some false) [frz (.sl true 3 (chunks 3 1 [I f.params,I f.regs,b]))] ⟨[f]⟩:=by
  refine ⟨_,rfl,?_⟩
  show RL (some false) 3 (RFunc (some false)) (.sl false 3 [[I f.params,I f.regs,frz b]]) [f]
  exact .sl (by simp) (.cons ⟨frz b,rfl,hb.frz fun _ _ h=>h.frz,hp,hr⟩ .nil) (by simp)
 obtain ⟨s2,c2,d2⟩:=r7 hMf
 refine aj.of (f3_MR _ _) ?_
 unfold f3_M
 refine aa.chk rfl (aa.chk rfl (aa.call CO (aa.chk rfl (aa.tv rfl (aa.ite (v:=false) rfl nofun fun _=>?_)))))
 refine aa.call c1 (aa.chk rfl (aa.tv rfl ?_))
 cases s1 with
 | false=>exact aa.ite (v:=true) rfl (fun _=>aa.ret) nofun
 | true =>
  refine aa.ite (v:=false) rfl nofun fun _=>aa.call c2 (aa.chk rfl (aa.tv rfl ?_))
  cases s2 with
  | false=>exact aa.ite (v:=true) rfl (fun _=>aa.ret) nofun
  | true =>
   have hs:=d1 rfl
   have hsf:ji f:=(d2 rfl).2 0 (by simp) f rfl
   obtain ⟨ec,k1,k2⟩:=r16 he0 hs
   obtain ⟨w6,rfl,h6⟩:=k2
   obtain ⟨e10,k3,k4⟩:=uD hf0 (by have:=hsf.1; omega) (rU hsf)
   obtain ⟨e11,k5,k6⟩:=qJ hf0 (by have:=hsf.1; omega)
   have h6z:RMod (some false) [frz w6] m:=⟨_,rfl,h6.frz fun _ _ h=>h.frz⟩
   have t1:=r18 h6z he0
   rw [i5 rfl] at t1
   obtain ⟨b10,rfl,hb10,hp10,hr10⟩:=k4
   obtain ⟨b11,rfl,hb11,hp11,hr11⟩:=k6
   have t2:=r31 (a:=clF f) (b:=clF f) (q:=some false) (q':=some false) ⟨frz b10,rfl,hb10.frz fun _ _ h=>h.frz,hp10,hr10⟩ ⟨frz b11,rfl,hb11.frz fun _ _ h=>h.frz,hp11,hr11⟩
   rw [i5 rfl] at t2
   have t3:=r9 he0
   refine aa.ite (v:=false) rfl nofun fun _=>aa.call k1 (aa.chk (by simp [TV.isAgg,ab,zSl,aE,TV.cellsL,h6.isSl]) ?_)
   have mod:∃ w n M,aj prog 8 [.agg [x]] (.tup [.agg [w],I n])/\RL (some true) 3 (RFunc (some true)) w M.funcs/\(kL m->n=0/\M=clM m)/\(¬ kL m->n=1/\M=m):=by
    by_cases hM:kL m
    ·obtain ⟨w,m1,m2⟩:=rF hx hs hM
     obtain ⟨_,hw,hwl⟩:=m2
     cases hw
     exact ⟨w,0,clM m,m1,hwl,fun _=>⟨rfl,rfl⟩,fun h=>absurd hM h⟩
    ·obtain ⟨w,m1,m2⟩:=zR he0 hs hM
     obtain ⟨_,hw,hwl⟩:=m2
     cases hw
     exact ⟨w,1,m,m1,hwl,fun h=>absurd h hM,fun _=>⟨rfl,rfl⟩⟩
   obtain ⟨w,n,M,m1,hwl,my,mn⟩:=mod
   refine aa.call m1 (aa.chk rfl (aa.chk (by simp [TV.comp,nth,TV.isAgg,ab,zSl,aE,TV.cellsL,hwl.isSl]) (aa.chk rfl ?_)))
   refine aa.call t1 (aa.chk rfl (aa.tv rfl (aa.ite (v:=false) rfl nofun fun _=>?_)))
   refine aa.call k3 (aa.chk (by simp [TV.isAgg,TV.cellsL,ab,ez,aE,TV.isSc,scV,hb10.isSl]) (aa.call k5 (aa.chk (by simp [TV.isAgg,TV.cellsL,ab,ez,aE,TV.isSc,scV,hb11.isSl]) ?_)))
   refine aa.call t2 (aa.chk rfl (aa.tv rfl (aa.ite (v:=false) rfl nofun fun _=>?_)))
   by_cases hM:kL m
   ·obtain ⟨rfl,rfl⟩:=my hM
    obtain ⟨w',m3,m4⟩:=vb hx hs hM
    rw [i5 hM] at t3
    obtain ⟨_,hw',hwl'⟩:=m4
    cases hw'
    have t4:=r18 (a:=clM m) (b:=clM m) (q:=some false) (q':=some false) ⟨_,rfl,hwl.frz fun _ _ h=>h.frz⟩ ⟨_,rfl,hwl'.frz fun _ _ h=>h.frz⟩
    rw [i5 rfl] at t4
    refine aa.call t3 (aa.chk rfl (aa.tv rfl (aa.ite (v:=false) rfl nofun fun _=>aa.tv rfl (aa.ite (v:=true) rfl (fun _=>?_) nofun))))
    exact aa.call m3 (aa.chk (by simp [TV.isAgg,ab,zSl,aE,TV.cellsL,hwl'.isSl]) (aa.call t4 (aa.chk rfl aa.ret)))
   ·obtain ⟨rfl,rfl⟩:=mn hM
    rw [lq hM] at t3
    have t4:=r18 (a:=M) (b:=M) (q:=some false) (q':=some false) ⟨_,rfl,hwl.frz fun _ _ h=>h.frz⟩ he0
    rw [i5 rfl] at t4
    exact aa.call t3 (aa.chk rfl (aa.tv rfl (aa.ite (v:=true) rfl (fun _=>aa.tv rfl (aa.ite (v:=true) rfl (fun _=>aa.call t4 (aa.chk rfl aa.ret)) nofun)) nofun)))
end Go.Ab.D13
end
section
namespace Go.Ab
open Go.RowKit
theorem bm {α:Type} (d:α):∀ (l:List α) (n:Nat),nth d l n=(l[n]?).getD d
 | [],n=>by simp [nth]
 | a :: l,0=>rfl
 | a :: l,n + 1=>by simp [nth,bm d l n]
theorem ak {α:Type}:∀ (l:List α) (n:Nat) (b:α),ar l n b=l.set n b
 | [],n,b=>by simp [ar]
 | a :: l,0,b=>rfl
 | a :: l,n + 1,b=>by simp [ar,ak l n b]
theorem bT {α:Type} {d:α} {l:List α} {n:Nat} {a:α} (h:l[n]? = some a):nth d l n=a:=by rw [bm,h]; rfl
theorem aM (a b:Nat):a.beq b=true ↔ a=b:=⟨Nat.eq_of_beq_eq_true,fun h=>h ▸ Nat.beq_refl a⟩
theorem cl (n:Nat):∀ l:List Nat,bY n l=true ↔ n ∈ l
 | []=>by simp [bY]
 | a :: l => by
  cases h:a.beq n
  ·have:a≠n:=fun e=>by simp [e] at h
   simp only [bY,h,cond_false,cl n l,List.mem_cons]
   constructor
   ·exact .inr
   ·rintro (e | e)
    ·exact absurd e.symm this
    ·exact e
  ·simp only [bY,h,cond_true,List.mem_cons,true_iff]
   exact .inl ((aM a n).1 h).symm
theorem fy (a:Addr) (k:Nat):(a.add k).block=a.block:=by unfold Addr.add; split <;> rfl
theorem eP (a:Addr) (i j:Nat):(a.add i).add j=a.add (i + j):=by
 unfold Addr.add
 by_cases hi:i=0 <;> by_cases hj:j=0 <;> simp [hi,hj,Nat.add_assoc]
theorem gr (b o k:Nat):(⟨b,o,none⟩:Addr).add k=⟨b,o + k,none⟩:=by unfold Addr.add; split <;> simp_all
def spl {α:Type} (l:List α) (o:Nat) (ys:List α):List α:=l.take o ++ ys ++ l.drop (o + ys.length)
theorem ij {α:Type} {l ys:List α} {o:Nat} (h:o + ys.length<=l.length):(spl l o ys).length=l.length:=by
 simp only [spl,List.length_append,List.length_take,List.length_drop]
 omega
theorem cK {α:Type} {l ys:List α} {o:Nat} (h:o + ys.length<=l.length) (k:Nat):(spl l o ys)[k]? = if o<=k/\k < o + ys.length then ys[k - o]? else l[k]? := by
 have e1:(l.take o).length=o:=by simp; omega
 unfold spl
 by_cases h1:k < o
 ·rw [List.append_assoc,ED (by omega),List.getElem?_take,if_pos h1,if_neg (by omega)]
 ·by_cases h2:k < o + ys.length
  ·rw [List.append_assoc,EE (by omega),e1,ED (by omega),if_pos (by omega)]
  ·rw [EE (by simp; omega),List.getElem?_drop,if_neg (by omega)]
   congr 1
   simp
   omega
theorem fm {α:Type}:∀ (ps l:List α) (off:Nat),off + ps.length<=l.length->bv l off ps=spl l off ps
 | [],l,off,h=>by simp [bv,spl]
 | p :: ps, l, off, h => by
  have hlt:off < l.length:=by simp at h; omega
  simp only [bv]
  rw [ak,fm ps (l.set off p) (off + 1) (by simp at h ⊢; omega)]
  apply List.ext_getElem?
  intro k
  rw [cK (by simp at h ⊢; omega),cK h]
  simp only [List.length_cons,List.getElem?_set]
  by_cases h1:k < off
  ·rw [if_neg (by omega),if_neg (by omega),if_neg (by omega)]
  ·by_cases h2:k=off
   ·subst h2
    rw [if_neg (by omega),if_pos (by omega)]
    simp [hlt]
   ·by_cases h3:k < off + (ps.length + 1)
    ·rw [if_pos (by omega),if_pos (by omega)]
     rw [show k - off=(k - (off + 1)) + 1 by omega,List.getElem?_cons_succ]
    ·rw [if_neg (by omega),if_neg (by omega),if_neg (by omega)]
theorem eV {α:Type}:∀ (l:List α) (o n:Nat) (r:List α),kI l o n=some r->r.length=n/\(n=0\/o + n<=l.length)/\∀ j,j < n->r[j]? = l[o + j]?
 | l,o,0,r,h=>by cases l <;> simp [kI] at h <;> subst h <;> simp
 | [],o,n + 1,r,h=>by simp [kI] at h
 | a :: l, 0, n + 1, r, h => by
  simp only [kI] at h
  cases h1:kI l 0 n with
  | none=>simp [h1] at h
  | some r' =>
   simp only [h1,Ev] at h
   subst h
   obtain ⟨i1,i2,i3⟩:=eV l 0 n r' h1
   refine ⟨by simp [i1],.inr (by simp; omega),fun j hj=>?_⟩
   cases j with
   | zero=>simp
   | succ j=>simpa using i3 j (by omega)
 | a :: l,o + 1,n + 1,r,h=>by
  simp only [kI] at h
  obtain ⟨i1,i2,i3⟩:=eV l o (n + 1) r h
  refine ⟨i1,.inr (by rcases i2 with i2 | i2 <;> simp <;> omega),fun j hj=>?_⟩
  rw [i3 j hj,show o + 1 + j=(o + j) + 1 by omega,List.getElem?_cons_succ]
theorem b9 {α:Type} {s:Nat}:∀ {xs:List (List α)},(∀ x ∈ xs,x.length=s)->xs.flatten.length=xs.length * s
 | [],_=>by simp
 | x :: xs,h=>by
  simp only [List.flatten_cons,List.length_append,List.length_cons,h x EA,b9 (fun y hy=>h y (EB _ hy)),Nat.add_mul]
  omega
theorem fP {α:Type} {s:Nat}:∀ {xs:List (List α)} {i j:Nat} {x:List α} {c:α},(∀ x ∈ xs,x.length=s)->xs[i]? = some x->x[j]? = some c->xs.flatten[i * s + j]? = some c
 | x :: xs,0,j,_,c,h,hi,hj=>by
  simp at hi
  subst hi
  rw [List.flatten_cons,ED (by simp; exact (Et.1 hj).1)]
  simpa using hj
 | x :: xs,i + 1,j,y,c,h,hi,hj=>by
  simp at hi
  have hx:=h x EA
  rw [List.flatten_cons,EE (by rw [hx,Nat.add_mul]; omega),hx,show (i + 1) * s + j - s=i * s + j by rw [Nat.add_mul]; omega]
  exact fP (fun z hz=>h z (EB _ hz)) hi hj
theorem take_add {α:Type} {x l:List α} {s n:Nat} (h:x.length=s):(x ++ l).take (s + n)=x ++ l.take n:=by
 subst h
 exact List.take_length_add_append n
theorem vq {α:Type} {x l:List α} {s n:Nat} (h:x.length=s):(x ++ l).drop (s + n)=l.drop n:=by
 subst h
 exact List.drop_length_add_append n
theorem oX (n s:Nat):(n + 1) * s=s + n * s:=by rw [Nat.add_mul]; omega
theorem lJ {α:Type} {s:Nat}:∀ {xs:List (List α)} (n:Nat),(∀ x ∈ xs,x.length=s)->(xs.take n).flatten=xs.flatten.take (n * s)
 | [],n,_=>by simp
 | x :: xs,0,_=>by simp
 | x :: xs,n + 1,h=>by
  have hx:=h x EA
  rw [List.take_succ_cons,List.flatten_cons,List.flatten_cons,lJ n (fun z hz=>h z (EB _ hz)),oX,take_add hx]
theorem lQ {α:Type} {s:Nat}:∀ {xs:List (List α)} (n:Nat),(∀ x ∈ xs,x.length=s)->(xs.drop n).flatten=xs.flatten.drop (n * s)
 | [],n,_=>by simp
 | x :: xs,0,_=>by simp
 | x :: xs,n + 1,h=>by
  have hx:=h x EA
  rw [List.drop_succ_cons,List.flatten_cons,lQ n (fun z hz=>h z (EB _ hz)),oX,vq hx]
theorem vO {α:Type} {s:Nat}:∀ {xs:List (List α)} {i:Nat} {x y:List α},(∀ x ∈ xs,x.length=s)->xs[i]? = some x->y.length=s->(xs.set i y).flatten=spl xs.flatten (i * s) y
 | x :: xs,0,_,y,h,hi,hy=>by
  simp at hi
  subst hi
  have hx:=h x EA
  simp only [List.set_cons_zero,List.flatten_cons,Nat.zero_mul,spl,List.take_zero,List.nil_append,Nat.zero_add,hy,List.drop_append,hx,Nat.sub_self,List.drop_zero]
  rw [List.drop_of_length_le (by omega),List.nil_append]
 | x :: xs,i + 1,z,y,h,hi,hy=>by
  simp at hi
  have hx:=h x EA
  have ih:=vO (fun z hz=>h z (EB _ hz)) hi hy
  simp only [List.set_cons_succ,List.flatten_cons,ih,spl,oX,take_add hx,hy]
  rw [show s + i * s + s=s + (i * s + s) by omega,vq hx]
  simp only [List.append_assoc]
theorem ze {α:Type} {s:Nat} {xs:List (List α)} {i:Nat} {y:List α} (h:∀ x ∈ xs,x.length=s) (hy:y.length=s):∀ x ∈ xs.set i y,x.length=s:=by
 intro x hx
 rcases List.mem_or_eq_of_mem_set hx with h' | h'
 ·exact h x h'
 ·rw [h']; exact hy
theorem vQ {α:Type} {s:Nat} {xs:List (List α)} {i j:Nat} {x ys:List α} (h:∀ x ∈ xs,x.length=s) (hi:xs[i]? = some x) (hj:j + ys.length<=x.length) :
  (xs.set i (spl x j ys)).flatten=spl xs.flatten (i * s + j) ys/\i * s + j + ys.length<=xs.flatten.length:=by
 have hx:=h x (EC hi)
 have hlt:i < xs.length:=(Et.1 hi).1
 have hle:i * s + s<=xs.flatten.length:=by
  rw [b9 h]
  have:=Nat.mul_le_mul_right s (Nat.succ_le_of_lt hlt)
  rw [Nat.succ_mul] at this
  exact this
 refine ⟨?_,by omega⟩
 rw [vO h hi (by rw [ij hj,hx])]
 apply List.ext_getElem?
 intro k
 rw [cK (l:=xs.flatten) (ys:=spl x j ys) (by rw [ij hj]; omega),cK (l:=xs.flatten) (ys:=ys) (by omega),ij hj,hx]
 by_cases h1:i * s<=k/\k < i * s + s
 ·rw [if_pos h1,cK hj]
  by_cases h2:j<=k - i * s/\k - i * s < j + ys.length
  ·rw [if_pos h2,if_pos (by omega)]
   congr 1
   omega
  ·rw [if_neg h2,if_neg (by omega)]
   have hk:k - i * s < x.length:=by omega
   have:=fP h hi (Eu hk)
   rw [show i * s + (k - i * s)=k by omega] at this
   rw [this,Eu hk]
 ·rw [if_neg h1,if_neg (by omega)]
inductive Rep (w:World) (I:Nat->Prop):TV->Value->Prop
 | lit (v:Value):Rep w I (.lit v) v
 | hole (v:Value):Rep w I .hole v
 | buf {s:ByteArray} (e:TypeId) (h:s.size=0):Rep w I (.buf s e) aB
 | sl {size : Nat} {xs : List (List TV)} {a : Addr} {cap : Nat} (cell : Nat → Value) (hI : 0 < xs.length → I a.block) (hc : xs.length ≤ cap) (hm : cap ≤ maxLen)
   (hl:∀ x ∈ xs,x.length=size) (hcell:∀ k,k < xs.length * size->w.cell? (a.add k)=some (cell k)) (h1:∀ k,k < xs.length * size->(cell k).oneCell'=true)
   (hr:∀ (i:Nat) (x:List TV),xs[i]? = some x->∀ (j:Nat) (c:TV),x[j]? = some c->Rep w I c (cell (i * size + j))):Rep w I (.sl false size xs) (.slice (some a) xs.length cap)
 | agg {cs : List TV} {vs : Array Value} (hl : vs.size = cs.length) (h1 : ∀ j, j < vs.size → (vs.getD j undef).oneCell' = true)
   (hr:∀ (j:Nat) (c:TV),cs[j]? = some c->Rep w I c (vs.getD j undef)):Rep w I (.agg cs) (.agg vs)
 | tup {cs:List TV} {vs:Array Value} (hl:vs.size=cs.length) (hr:∀ (j:Nat) (c:TV),cs[j]? = some c->Rep w I c (vs.getD j undef)):Rep w I (.tup cs) (.tuple vs)
theorem Rep.mv {w w':World} {I I':Nat->Prop} (hh:∀ b,I b->w'.heap[b]? = w.heap[b]?) (hI:∀ b,I b->I' b) {x:TV} {v:Value} (h:Rep w I x v):Rep w' I' x v:=by
 induction h with
 | lit v=>exact .lit v
 | hole v=>exact .hole v
 | buf e h=>exact .buf e h
 | sl cell i c m l hcell h1 _ ih =>
  exact .sl cell (fun h=>hI _ (i h)) c m l (fun k hk=>by rw [<- hcell k hk]; exact World.cell?_of_block (by rw [fy]; exact hh _ (i (Nat.pos_of_ne_zero (fun e=>by simp [e] at hk))))) h1 ih
 | agg hl h1 _ ih=>exact .agg hl h1 ih
 | tup hl _ ih=>exact .tup hl ih
structure Row (w:World) (a:Addr) (n cap size:Nat) (us:List Value) (vs:Array Value) (ty:TypeId):Prop where
 heap:w.heap[a.block]? = some (.cells vs ty (0,0))
 spot:a.spot=none
 le:n<=cap
 max:cap<=maxLen
 fit:a.off + cap * size<=vs.size
 len:us.length=n * size
 cells:∀ k,k < n * size->vs[a.off + k]? = us[k]?
 one:∀ u ∈ us,u.oneCell'=true
theorem Row.cell {w:World} {a:Addr} {n cap size:Nat} {us:List Value} {vs:Array Value} {ty:TypeId} (h:Row w a n cap size us vs ty) {k:Nat} {u:Value} (hk:us[k]? = some u):w.cell? (a.add k)=some u:=by
 have hlt:k < n * size:=by rw [<- h.len]; exact (Et.1 hk).1
 have:a.add k=⟨a.block,a.off + k,none⟩:=by
  have:=h.spot
  obtain ⟨b,o,sp⟩:=a
  simp at this
  subst this
  exact gr b o k
 rw [this]
 simp only [World.cell?,h.heap]
 simp only [Option.isSome_none,Bool.false_eq_true,if_false]
 rw [h.cells k hlt,hk]
inductive aw (w:World) (I:Nat->Prop):TV->Value->(Nat->Prop)->Prop
 | fr {x:TV} {v:Value} {S:Nat->Prop} (h:Rep w I x v):aw w I x v S
 | sl {size : Nat} {xs : List (List TV)} {a : Addr} {cap : Nat} {S : Nat → Prop} (us : List Value) (vs : Array Value) (ty : TypeId) (F : Nat → Nat → Prop) (hS : S a.block)
   (row:Row w a xs.length cap size us vs ty) (hl:∀ x ∈ xs,x.length=size) (hr:∀ (k:Nat) (c:TV),xs.flatten[k]? = some c->aw w I c (us.getD k undef) (F k))
   (hF:∀ k b,F k b->S b/\b≠a.block) (hd:∀ k k' b,F k b->F k' b->k=k'):aw w I (.sl true size xs) (.slice (some a) xs.length cap) S
 | agg {cs : List TV} {vs : Array Value} {S : Nat → Prop} (F : Nat → Nat → Prop) (hl : vs.size = cs.length) (h1 : ∀ j, j < vs.size → (vs.getD j undef).oneCell' = true)
   (hr:∀ (j:Nat) (c:TV),cs[j]? = some c->aw w I c (vs.getD j undef) (F j)) (hF:∀ j b,F j b->S b) (hd:∀ k k' b,F k b->F k' b->k=k'):aw w I (.agg cs) (.agg vs) S
 | buf {s:ByteArray} {e:TypeId} {v:Value} {S:Nat->Prop} (h:w.ownsRowF 0 e 1 v s.size (Lib.strCells s)) (hS:∀ b,v.ownBlock=some b->S b):aw w I (.buf s e) v S
 | tup {cs : List TV} {vs : Array Value} {S : Nat → Prop} (F : Nat → Nat → Prop) (hl : vs.size = cs.length)
   (hr:∀ (j:Nat) (c:TV),cs[j]? = some c->aw w I c (vs.getD j undef) (F j)) (hF:∀ j b,F j b->S b) (hd:∀ k k' b,F k b->F k' b->k=k'):aw w I (.tup cs) (.tuple vs) S
theorem _root_.Go.World.ownsRowF.moved {w w':World} {base:Nat} {e:TypeId} {size:Nat} {v:Value} {n:Nat} {xs:List Value} (h:w.ownsRowF base e size v n xs) (hh:∀ b,v.ownBlock=some b->w'.heap[b]? = w.heap[b]?):w'.ownsRowF base e size v n xs:=by
 refine ⟨h.1,?_⟩
 rcases h.2 with hn | ⟨g,cap,cur,fz,rfl,hb,hgg,rest⟩
 ·exact .inl hn
 ·exact .inr ⟨g,cap,cur,fz,rfl,hb,by rw [hh g rfl]; exact hgg,rest⟩
theorem aw.mv {w w':World} {I I':Nat->Prop} (hI:∀ b,I b->w'.heap[b]? = w.heap[b]?) (hs:∀ b,I b->I' b) {x:TV} {v:Value} {S:Nat->Prop} (h:aw w I x v S) :
  ∀ {S':Nat->Prop},(∀ b,S b->w'.heap[b]? = w.heap[b]?)->(∀ b,S b->S' b)->aw w' I' x v S':=by
 induction h with
 | fr h=>intro S' _ _; exact .fr (h.mv hI hs)
 | @sl size xs a cap S us vs ty F hS row hl hr hF hd ih =>
  intro S' hh hSS
  exact .sl us vs ty F (hSS _ hS) ⟨by rw [hh _ hS]; exact row.heap,row.spot,row.le,row.max,row.fit,row.len,row.cells,row.one⟩ hl (fun k c hk=>ih k c hk (fun b hb=>hh b (hF k b hb).1) (fun b hb=>hb))
   (fun k b hb=>⟨hSS b (hF k b hb).1,(hF k b hb).2⟩) hd
 | @buf s e v S h hS =>
  intro S' hh hSS
  exact .buf (h.moved (fun b hb=>hh b (hS b hb))) (fun b hb=>hSS b (hS b hb))
 | @agg cs vs S F hl h1 hr hF hd ih =>
  intro S' hh hSS
  exact .agg F hl h1 (fun k c hk=>ih k c hk (fun b hb=>hh b (hF k b hb)) (fun b hb=>hb)) (fun k b hb=>hSS b (hF k b hb)) hd
 | @tup cs vs S F hl hr hF hd ih =>
  intro S' hh hSS
  exact .tup F hl (fun k c hk=>ih k c hk (fun b hb=>hh b (hF k b hb)) (fun b hb=>hb)) (fun k b hb=>hSS b (hF k b hb)) hd
theorem aw.mono {w:World} {I:Nat->Prop} {x:TV} {v:Value} {S S':Nat->Prop} (h:aw w I x v S) (hS:∀ b,S b->S' b):aw w I x v S' :=
 h.mv (fun _ _=>rfl) (fun _ h=>h) (fun _ _=>rfl) hS
theorem bF {w:World} {I:Nat->Prop} {v u:Value} (h:Rep w I (.lit v) u):u=v:=by cases h; rfl
theorem bg {w:World} {I:Nat->Prop} {v u:Value} {S:Nat->Prop} (h:aw w I (.lit v) u S):u=v:=by cases h with | fr h=>exact bF h
theorem A8 {w:World} {I:Nat->Prop} {s:Nat} {xs:List (List TV)} {u:Value} {S:Nat->Prop} (h:aw w I (.sl false s xs) u S):Rep w I (.sl false s xs) u:=by cases h with | fr h=>exact h
theorem qd {w:World} {I:Nat->Prop} {o:Bool} {s:Nat} {xs:List (List TV)} {u:Value} {S:Nat->Prop} (h:aw w I (.sl o s xs) u S):∃ a cap,u=.slice (some a) xs.length cap:=by
 cases h with
 | fr h=>cases h; exact ⟨_,_,rfl⟩
 | sl=>exact ⟨_,_,rfl⟩
theorem iE {w:World} {I:Nat->Prop} {x:TV} {u:Value} {S:Nat->Prop} (h:aw w I x u S) (hx:x.isSl=true):∃ a n cap,u=.slice a n cap:=by
 cases x with
 | lit v =>
  have:=bg h
  subst this
  cases u <;> simp [TV.isSl,aE] at hx ⊢
 | sl o s xs=>obtain ⟨a,cap,rfl⟩:=qd h; exact ⟨_,_,_,rfl⟩
 | _=>simp [TV.isSl] at hx
theorem ql {v:Value} (h:scV v=true):v.oneCell'=true:=by cases v <;> first | rfl | simp [scV] at h
theorem gm {w:World} {I:Nat->Prop} {x:TV} {u:Value} {S:Nat->Prop} (h:aw w I x u S) (hx:x.isSc=true):x=.lit u/\scV u=true:=by
 cases x with
 | lit v =>
  have:=bg h
  subst this
  exact ⟨rfl,hx⟩
 | _=>simp [TV.isSc] at hx
theorem C0 {w:World} {I:Nat->Prop} {x:TV} {u:Value} {S:Nat->Prop} (h:aw w I x u S):Rep w I x.lf u:=by
 cases x with
 | lit v=>have:=bg h; subst this; exact .lit _
 | _=>exact .hole _
theorem lZ:∀ l:List TV,mN l=l.map frz
 | []=>rfl
 | x :: l=>by simp [mN,lZ l]
theorem gG:∀ l:List (List TV),sk l=l.map fun x=>x.map frz
 | []=>rfl
 | x :: l=>by simp [sk,gG l,lZ]
theorem CC:∀ l:List TV,lfL l=l.map TV.lf
 | []=>rfl
 | x :: l=>by simp [lfL,CC l]
theorem yo:∀ l:List (List TV),jR l=l.map fun x=>x.map TV.lf
 | []=>rfl
 | x :: l=>by simp [jR,yo l,CC]
theorem Rep.frz {w:World} {I:Nat->Prop} {x:TV} {v:Value} (h:Rep w I x v):Rep w I (frz x) v:=by
 induction h with
 | lit v=>exact .lit v
 | hole v=>exact .hole v
 | buf e h=>exact .hole _
 | @sl size xs a cap cell hI hc hm hl hcell h1 _ ih =>
  simp only [Ab.frz,gG]
  have hlen:(xs.map fun x=>x.map Ab.frz).length=xs.length:=by simp
  have key:Rep w I (.sl false size (xs.map fun x=>x.map Ab.frz)) (.slice (some a) (xs.map fun x=>x.map Ab.frz).length cap):=by
   refine .sl cell (by rw [hlen]; exact hI) (by rw [hlen]; exact hc) hm (fun x hx=>?_) (by rw [hlen]; exact hcell) (by rw [hlen]; exact h1) (fun i y hy j c hj=>?_)
   ·obtain ⟨y,hy,rfl⟩:=List.mem_map.1 hx
    simpa using hl y hy
   ·rw [Ez] at hy
    cases hxi:xs[i]? with
    | none=>simp [hxi] at hy
    | some x =>
     simp only [hxi,EG,Ev] at hy
     subst hy
     rw [Ez] at hj
     cases hxj:x[j]? with
     | none=>simp [hxj] at hj
     | some c' =>
      simp only [hxj,EG,Ev] at hj
      subst hj
      exact ih i x hxi j c' hxj
  rwa [hlen] at key
 | @agg cs vs hl h1 _ ih =>
  simp only [Ab.frz,lZ]
  refine .agg (by simpa using hl) h1 (fun j c hj=>?_)
  rw [Ez] at hj
  cases hxj:cs[j]? with
  | none=>simp [hxj] at hj
  | some c'=>simp only [hxj,EG,Ev] at hj; subst hj; exact ih j c' hxj
 | @tup cs vs hl _ ih =>
  simp only [Ab.frz,lZ]
  refine .tup (by simpa using hl) (fun j c hj=>?_)
  rw [Ez] at hj
  cases hxj:cs[j]? with
  | none=>simp [hxj] at hj
  | some c'=>simp only [hxj,EG,Ev] at hj; subst hj; exact ih j c' hxj
theorem aw.frz {w:World} {I I':Nat->Prop} (hI:∀ b,I b->I' b) {x:TV} {v:Value} {S:Nat->Prop} (h:aw w I x v S):(∀ b,S b->I' b)->Rep w I' (frz x) v:=by
 induction h with
 | fr h=>intro _; exact (h.mv (fun _ _=>rfl) hI).frz
 | buf _ _=>intro _; exact .hole _
 | @sl size xs a cap S us vs ty F hS row hl hr hF hd ih =>
  intro hSI
  simp only [Ab.frz,gG]
  have hlen:(xs.map fun x=>x.map Ab.frz).length=xs.length:=by simp
  have key:Rep w I' (.sl false size (xs.map fun x=>x.map Ab.frz)) (.slice (some a) (xs.map fun x=>x.map Ab.frz).length cap):=by
   refine .sl (fun k=>us.getD k undef) (fun _=>hSI _ hS) (by rw [hlen]; exact row.le) row.max (fun x hx=>?_) (fun k hk=>?_) (fun k hk=>?_) (fun i y hy j c hj=>?_)
   ·obtain ⟨y,hy,rfl⟩:=List.mem_map.1 hx
    simpa using hl y hy
   ·rw [hlen] at hk
    have:k < us.length:=by rw [row.len]; exact hk
    exact row.cell (by simp [Eu this])
   ·rw [hlen] at hk
    have:k < us.length:=by rw [row.len]; exact hk
    simp only [EH,Eu this,Option.getD_some]
    exact row.one _ (List.getElem_mem this)
   ·rw [Ez] at hy
    cases hxi:xs[i]? with
    | none=>simp [hxi] at hy
    | some x =>
     simp only [hxi,EG,Ev] at hy
     subst hy
     rw [Ez] at hj
     cases hxj:x[j]? with
     | none=>simp [hxj] at hj
     | some c' =>
      simp only [hxj,EG,Ev] at hj
      subst hj
      exact ih _ c' (fP hl hxi hxj) (fun b hb=>hSI b (hF _ b hb).1)
  rwa [hlen] at key
 | @agg cs vs S F hl h1 hr hF hd ih =>
  intro hSI
  simp only [Ab.frz,lZ]
  refine .agg (by simpa using hl) h1 (fun j c hj=>?_)
  rw [Ez] at hj
  cases hxj:cs[j]? with
  | none=>simp [hxj] at hj
  | some c'=>simp only [hxj,EG,Ev] at hj; subst hj; exact ih j c' hxj (fun b hb=>hSI b (hF j b hb))
 | @tup cs vs S F hl hr hF hd ih =>
  intro hSI
  simp only [Ab.frz,lZ]
  refine .tup (by simpa using hl) (fun j c hj=>?_)
  rw [Ez] at hj
  cases hxj:cs[j]? with
  | none=>simp [hxj] at hj
  | some c'=>simp only [hxj,EG,Ev] at hj; subst hj; exact ih j c' hxj (fun b hb=>hSI b (hF j b hb))
theorem fY:∀ {l:List TV},ci l=true->∀ x ∈ l,bj x=true
 | [],_,x,hx=>by simp at hx
 | y :: l,h,x,hx=>by
  simp only [ci,Ew] at h
  rcases List.mem_cons.1 hx with rfl | hx
  ·exact h.1
  ·exact fY h.2 x hx
theorem pQ:∀ {l:List (List TV)},lW l=true->∀ x ∈ l,ci x=true
 | [],_,x,hx=>by simp at hx
 | y :: l,h,x,hx=>by
  simp only [lW,Ew] at h
  rcases List.mem_cons.1 hx with rfl | hx
  ·exact h.1
  ·exact pQ h.2 x hx
theorem Rep.own {w:World} {I I':Nat->Prop} {x:TV} {v:Value} (h:Rep w I x v):bj x=true->Rep w I' x v:=by
 induction h with
 | lit v=>intro _; exact .lit v
 | hole v=>intro _; exact .hole v
 | buf e h=>intro _; exact .buf e h
 | sl=>intro h; simp [bj] at h
 | @agg cs vs hl h1 _ ih=>intro h; simp only [bj] at h; exact .agg hl h1 (fun j c hj=>ih j c hj (fY h c (EC hj)))
 | @tup cs vs hl _ ih=>intro h; simp only [bj] at h; exact .tup hl (fun j c hj=>ih j c hj (fY h c (EC hj)))
theorem aw.own {w:World} {I I':Nat->Prop} {x:TV} {v:Value} {S:Nat->Prop} (h:aw w I x v S):bj x=true->aw w I' x v S:=by
 induction h with
 | fr h=>intro ho; exact .fr (h.own ho)
 | buf h hS=>intro _; exact .buf h hS
 | @sl size xs a cap S us vs ty F hS row hl hr hF hd ih =>
  intro ho
  simp only [bj,Bool.true_and] at ho
  refine .sl us vs ty F hS row hl (fun k c hk=>ih k c hk ?_) hF hd
  obtain ⟨x,hx,hc⟩:=List.mem_flatten.1 (EC hk)
  exact fY (pQ ho x hx) c hc
 | @agg cs vs S F hl h1 hr hF hd ih=>intro ho; simp only [bj] at ho; exact .agg F hl h1 (fun j c hj=>ih j c hj (fY ho c (EC hj))) hF hd
 | @tup cs vs S F hl hr hF hd ih=>intro ho; simp only [bj] at ho; exact .tup F hl (fun j c hj=>ih j c hj (fY ho c (EC hj))) hF hd
end Go.Ab
end

import Derived.Test.YthfcodidfelpoaaAD13F208
import Derived.Test.YthfcodidfelpoaaAD13F205
import Derived.Test.YthfcodidfelpoaaAM0
import Derived.Below
import Derived.Orders
import Derived.Laws.Cells
import Derived.Laws.OwnMore
import Derived.Laws.CopyOwn
import Derived.Maps.AppendAt
import Derived.Lib.FrozenHead
set_option linter.all false
section
set_option maxRecDepth 10000
namespace Go.Ab.D13
open Go Go.Ab Go.Proofs
theorem vz {m:DMod} (hs:lp m):∀ v ∈ (clC m).funcs,io v:=by
 intro v hv
 obtain ⟨k,hk,rfl⟩:=List.mem_iff_getElem.1 hv
 obtain ⟨u,hu,e⟩:=wK (FF hk)
 rw [e]
 have:=(FE.1 hu).1
 exact tp (hs.2 k this u hu)
theorem vd {m:DMod} (hM:pZ m) {v:DFunc} (hv:v ∈ (clC m).funcs) {b:DBlock} (hb:b ∈ v.blocks):(∀ x ∈ b.ins,x.op=11->0<=x.f/\x.f.toNat < m.funcs.length)/\(b.fin.kind=4->0<=b.fin.f/\b.fin.f.toNat < m.funcs.length):=by
 obtain ⟨k,hk,rfl⟩:=List.mem_iff_getElem.1 hv
 obtain ⟨u,hu,e⟩:=wK (FF hk)
 rw [e] at hb
 obtain ⟨b0,hb0,ψ,e⟩:=xi hb
 have:=BT hM hu hb0
 rcases e with e | e
 ·subst e; exact this
 ·subst e; exact this
theorem Bn {m:DMod} (hM:pZ m):∀ i,∀ g ∈ nmd (clC m).funcs i,0<=g/\g.toNat < (clC m).funcs.length:=by
 intro i g hg
 rw [rC]
 unfold nmd at hg
 cases hu:(clC m).funcs[i]? with
 | none=>rw [hu] at hg; cases hg
 | some v =>
  rw [hu] at hg
  obtain ⟨b,hb,h⟩:=xF hg
  have hc:=vd hM (FN hu) hb
  rcases h with ⟨x,hx,h11,rfl⟩ | ⟨h4,rfl⟩
  ·exact hc.1 x hx h11
  ·exact hc.2 h4
theorem BL {fs:List DFunc} {i:Nat} {g:Int} (hg:g ∈ nmd fs i) (h0:0<=g):∃ u,fs[i]? = some u/\sI u g.toNat:=by
 unfold nmd at hg
 cases hu:fs[i]? with
 | none=>rw [hu] at hg; cases hg
 | some v =>
  rw [hu] at hg
  refine ⟨v,rfl,uA.1 ?_⟩
  rwa [show ((g.toNat:Nat):Int)=g by omega]
theorem vh {fs:List DFunc} {i k:Nat} {u:DFunc} (hu:fs[i]? = some u) (h:sI u k):(k:Int) ∈ nmd fs i:=by
 rw [DF hu]
 exact uA.2 h
section
variable {x:TV} {m:DMod} (hx:RL (some false) 3 (RFunc (some false)) x m.funcs) (hs:lp m) (hM:pZ m)
include hs hM
theorem EI {w:TV} (hw:RL (some true) 3 (RFunc (some true)) w (clC m).funcs):∃ w',aa prog 8 (f8_1 w) (.tup [.agg [w'],I 0])/\RMod (some true) [w'] (clM m):=by
 have hN:(clC m).funcs.length<=20:=by rw [rC]; exact hs.1
 have h0:0 < m.funcs.length:=by
  obtain ⟨u,hu,_⟩:=hM.2.1
  exact (FE.1 hu).1
 have hz:RL (some false) 3 (RFunc (some false)) (frz w) (clC m).funcs:=hw.frz fun _ _ h=>h.frz
 have hnm:=Bn hM
 obtain ⟨v15,c1,c2⟩:=Eo hz (fun u hu=>qL (vz hs u hu)) (by omega) (R:=eT (clC m)) hnm (fun i hi g hg=>by
  obtain ⟨h1,h2⟩:=hnm i g hg
  obtain ⟨u,hu,hc⟩:=BL hg h1
  exact pB hi hu hc h2) (fun P h0 hP i hi=>by
  rcases hi with rfl | hi
  ·exact h0
  ·induction hi with
   | one h =>
    obtain ⟨h1,u,hu,hc⟩:=h
    have:=hP 0 h0 _ (vh hu hc)
    simpa using this
   | more _ h ih =>
    obtain ⟨h1,u,hu,hc⟩:=h
    have:=hP _ ih _ (vh hu hc)
    simpa using this) (by rw [rC]; exact h0) (.inl rfl)
 obtain ⟨v16,c3,c4⟩:=Fz (c2.frz (S:=RB1) fun _ _ h=>h.frz) (by omega)
 generalize hC:clC m=c at *
 have hcl:c.funcs.length=m.funcs.length:=by rw [<- hC]; exact rC m
 have eA:((bV (eT c) c.funcs id c.funcs.length).map (jj (aG (eT c))))=(clM m).funcs:=by
  rw [u5]
  unfold clM
  rw [hC,hcl]
  rfl
 have hAl:(bV (eT c) c.funcs id c.funcs.length).length<=c.funcs.length:=fM
 have key:∀ (d i:Nat) (w3 w4:TV),i + d=c.funcs.length->RL (some true) 3 (RFunc (some true)) w3 (bV (eT c) c.funcs id i)->W4 w4 c.funcs i->∃ w',aa prog 8 (f8_2 (I c.funcs.length) (I i) v15 w3 w4 v16) (.tup [.agg [w'],I 0])/\RMod (some true) [w'] (clM m):=by
  intro d
  induction d with
  | zero =>
   intro i w3 w4 hi h3 h4
   have hi:i=c.funcs.length:=by omega
   subst hi
   obtain ⟨w',g1,g2⟩:=EB c4 (A:=bV (eT c) c.funcs id c.funcs.length) (by omega) (fun u hu=>by
    obtain ⟨j,a,_,hj,ha,e⟩:=mS hu
    have e:u=a:=e
    subst e
    have hsm:=qL (vz hs u (by rw [hC]; exact FN ha))
    refine ⟨hsm.1,fun b hb=>?_⟩
    have hcc:=vd hM (v:=u) (by rw [hC]; exact FN ha) hb
    rw [<- hcl] at hcc
    constructor
    ·intro x hx h11
     obtain ⟨a1,a2⟩:=hcc.1 x hx h11
     exact ⟨a1,a2,pB hj ha ⟨b,hb,.inl ⟨x,hx,h11,by omega⟩⟩ a2⟩
    ·intro h4
     obtain ⟨a1,a2⟩:=hcc.2 h4
     exact ⟨a1,a2,pB hj ha ⟨b,hb,.inr ⟨h4,by omega⟩⟩ a2⟩) (bV (eT c) c.funcs id c.funcs.length).length 0 w3 (by omega) (by rw [kL]; exact ⟨w3,rfl,h3⟩)
   rw [eA] at g2
   refine ⟨w',?_,g2⟩
   unfold f8_2
   exact aa.tv rfl (aa.ite aQ nofun fun _=>aa.tv h3.len (f8_3_J g1))
  | succ d ih =>
   intro i w3 w4 hi h3 h4
   have hil:i < c.funcs.length:=by omega
   obtain ⟨u,hu⟩:∃ u,c.funcs[i]? = some u:=⟨_,FF hil⟩
   obtain ⟨e,b,a1,rfl,a2,a3,a4,a5,a6,w4',a7,a8⟩:=h4.take hu
   have ani:aj (I (i:Int))=some i:=az (by omega)
   have hp:=RBArr.get c2 hil
   have l2:=c2.slLen
   rw [dF] at l2
   have hfe:ab fX [I u.params,I u.regs,b] 0=true:=by simp [ab,fX,aC,TV.isSc,scV,a2.isSl]
   have front:∀ {y:TV},(eT c i->aa prog 8 (.ite (frB b) (.rws (pelems 3 (.sl true 3 (chunks 3 1 [I u.params,I u.regs,b]))) fun r26=>.tv (papp 3 w3 r26) fun v27=>.tv (pbin (.int .i64) .add (I (i:Int)) (I 1)) fun v28=>.jmp [0,0,1,0,1,1,6,0,1,1,1,1,1,1] (f8_2_S (I c.funcs.length) v28 v15 v27 w4 v16)) (.tv (fD [(i,2)] w4 .hole) fun v29=>.rws (pelems 3 (.sl true 3 (chunks 3 1 [I u.params,I u.regs,b]))) fun r30=>.tv (papp 3 w3 r30) fun v31=>.tv (pbin (.int .i64) .add (I (i:Int)) (I 1)) fun v32=>.jmp [0,0,1,0,1,1,6,0,1,1,1,1,1,1] (f8_2_S (I c.funcs.length) v32 v15 v31 v29 v16))) y)->(¬ eT c i->aa prog 8 (f8_2 (I c.funcs.length) (I (i + 1:Nat)) v15 w3 w4 v16) y)->aa prog 8 (f8_2 (I c.funcs.length) (I i) v15 w3 w4 v16) y:=by
    intro y k1 k2
    unfold f8_2
    refine aa.tv rfl (aa.ite (aT hil) (fun _=>?_) nofun)
    refine aa.nat a4 (aa.nat ani (aa.chk (by rw [a5]; simpa using hil) (aa.tvs a1 (aa.chk hfe (aa.nat l2 (aa.nat ani (aa.chk (by rw [c2.slSize]; simpa using hil) (aa.tvs hp (aa.chk rfl (aa.ite rfl (fun h=>?_) fun h=>?_))))))))))
    ·exact aa.tv a6 (k1 (EX h))
    ·exact aa.tv (inc hil (by omega)) (f8_2_J (k2 (CG h)))
   by_cases hP:eT c i
   ·have hsl:=fM (P:=eT c) (l:=c.funcs) (f:=id) (k:=i)
    obtain ⟨w3',b1,b2⟩:=h3.app a3 (by omega)
    have b2:RL (some true) 3 (RFunc (some true)) w3' (bV (eT c) c.funcs id (i + 1)):=by rw [j8 hP hu]; exact b2
    rcases a2 with ⟨rfl,hnil⟩ | ⟨o,xs,rfl,hq,hf,hbd⟩
    ·obtain ⟨w',g1,g2⟩:=ih (i + 1) w3' w4 (by omega) b2 h4.next
     refine ⟨w',front (fun _=>?_) (fun h=>absurd hP h),g2⟩
     exact aa.ite (v:=true) rfl (fun _=>aa.rws rfl (aa.tv b1 (aa.tv (inc hil (by omega)) (f8_2_J g1)))) nofun
    ·have:o=true:=hq true rfl
     subst this
     obtain ⟨w',g1,g2⟩:=ih (i + 1) w3' w4' (by omega) b2 a8
     refine ⟨w',front (fun _=>?_) (fun h=>absurd hP h),g2⟩
     exact aa.ite (v:=false) rfl nofun fun _=>aa.tv a7 (aa.rws rfl (aa.tv b1 (aa.tv (inc hil (by omega)) (f8_2_J g1))))
   ·obtain ⟨w',g1,g2⟩:=ih (i + 1) w3 w4 (by omega) (by rw [oI hP]; exact h3) h4.next
    exact ⟨w',front (fun h=>absurd h hP) (fun _=>g1),g2⟩
 obtain ⟨w',g1,g2⟩:=key c.funcs.length 0 (.lit aF) w (by omega) (by rw [lm]; exact RL.nil) (by
  rcases hw with ⟨rfl,hnil⟩ | ⟨o,xs,rfl,hq,hf,hbd⟩
  ·rw [hnil] at hcl
   simp at hcl
   omega
  ·have:o=true:=hq true rfl
   subst this
   exact ⟨xs,rfl,hf.length,fun j u _ hu=>hf.get hu⟩)
 refine ⟨w',?_,g2⟩
 unfold f8_1
 exact aa.call c1 (aa.chk (cH c2.isSl) (aa.call c3 (aa.chk (cH c4.isSl) (aa.tv hw.len (aa.chk rfl (f8_2_J g1))))))
include hx
theorem tJ:∃ w,aq prog 8 [.agg [x]] (.tup [.agg [w],I 0])/\RMod (some true) [w] (clM m):=by
 have hN:=hs.1
 have key : ∀ (d i : Nat) (w : TV), i + d = m.funcs.length → RL (some true) 3 (RFunc (some true)) w (dM m.funcs.length fun k => if k < i then clF (wv m.funcs k) else ⟨0, 0, []⟩) → ∃ w', aa prog 8 (f8_0 x (I m.funcs.length) (I i) w) (.tup [.agg [w'], I 0]) ∧ RMod (some true) [w'] (clM m) := by
  intro d
  induction d with
  | zero =>
   intro i w hi hw
   have hi:i=m.funcs.length:=by omega
   subst hi
   rw [cS (h:=fun k=>clF (wv m.funcs k)) fun k hk=>if_pos hk,Ci] at hw
   obtain ⟨w',g1,g2⟩:=EI hs hM hw
   refine ⟨w',?_,g2⟩
   unfold f8_0
   exact aa.tv rfl (aa.ite aQ nofun fun _=>f8_1_J g1)
  | succ d ih =>
   intro i w hi hw
   have hil:i < m.funcs.length:=by omega
   obtain ⟨u,hu⟩:∃ u,m.funcs[i]? = some u:=⟨_,FF hil⟩
   obtain ⟨e,he,hR⟩:=hx.idx (k:=.i64) hu
   obtain ⟨e',c1,c2⟩:=rn hR (by have:=(hs.2 i hil u hu).1; omega) (tp (hs.2 i hil u hu))
   obtain ⟨b0,rfl,_⟩:=hR
   obtain ⟨e2,he2,hR2⟩:=hw.pel (cB hil)
   have c3:=c2
   obtain ⟨b,rfl,hb,_⟩:=c2
   obtain ⟨b2,rfl,hb2,_⟩:=hR2
   obtain ⟨w',a1,a2⟩:=hw.jw he2 (d:=0) (ys:=[I (clF u).params,I (clF u).regs,b]) (a:=clF u) c3
   have a2:RL (some true) 3 (RFunc (some true)) w' (dM m.funcs.length fun k=>if k < i + 1 then clF (wv m.funcs k) else ⟨0,0,[]⟩):=by
    rw [s7,cS (h:=fun k=>if k < i + 1 then clF (wv m.funcs k) else ⟨0,0,[]⟩) fun k hk=>by
     by_cases e:k=i
     ·subst e; rw [rx,if_pos (by omega),Aw hu]
     ·rw [rE e]
      by_cases h:k < i
      ·rw [if_pos h,if_pos (by omega)]
      ·rw [if_neg h,if_neg (by omega)]] at a2
    exact a2
   obtain ⟨w2,g1,g2⟩:=ih (i + 1) w' (by omega) a2
   refine ⟨w2,?_,g2⟩
   have ani:aj (I (i:Int))=some i:=az (by omega)
   have l:=hw.slLen
   rw [dF] at l
   have f1:ab fX [I (if i < i then clF (wv m.funcs i) else ⟨0,0,[]⟩).params,I (if i < i then clF (wv m.funcs i) else ⟨0,0,[]⟩).regs,b2] 0=true:=by simp [ab,fX,aC,TV.isSc,scV,hb2.isSl]
   have f2:ab fX [I (clF u).params,I (clF u).regs,b] 0=true:=by simp [ab,fX,aC,TV.isSc,scV,hb.isSl]
   unfold f8_0
   refine aa.tv rfl (aa.ite (aT hil) (fun _=>?_) nofun)
   exact aa.tvs he (aa.chk rfl (aa.call c1 (aa.chk f2 (aa.nat l (aa.nat ani (aa.chk (by rw [hw.slSize]; simpa using hil) (aa.tvs he2 (aa.chk (by rw [nb f1]; exact f2) (aa.tv a1 (aa.tv (inc hil (by omega)) (f8_0_J g1)))))))))))
 have hzero:RFunc (some true) [I 0,I 0,.lit aF] ⟨0,0,[]⟩:=⟨.lit aF,rfl,RL.nil,(by show inI 0; unfold inI; omega),(by show inI 0; unfold inI; omega)⟩
 have hr:=RL.rep (s:=3) hzero (n:=m.funcs.length) (by omega)
 obtain ⟨w,g1,g2⟩:=key m.funcs.length 0 _ (by omega) (by rw [cS (h:=fun _=>(⟨0,0,[]⟩:DFunc)) fun k _=>if_neg (Nat.not_lt_zero _)]; exact hr)
 refine ⟨w,?_,g2⟩
 have c0:=r8 (q:=some false) (e:=[x]) (m:=m) ⟨x,rfl,hx⟩
 rw [od hM] at c0
 have lx:=hx.len (t:=27)
 have han:aj (I (m.funcs.length:Int))=some m.funcs.length:=az (by omega)
 refine aq.of (f8_MR _) ?_
 unfold f8_M
 refine aa.chk rfl (aa.call c0 (aa.chk rfl (aa.tv rfl (aa.ite (v:=false) rfl nofun fun _=>?_))))
 exact aa.tv lx (aa.nat han (aa.nat han (aa.chk (by simp; omega) (aa.tv lx (f8_0_J g1)))))
end
end Go.Ab.D13
end
section
set_option maxRecDepth 10000
namespace Go.Ab
theorem RL.appD {α:Type} {s:Nat} {R:List TV->α->Prop} {m:List α} {rows:List (List TV)} (hr:F2 R rows m) (hl:m.length<=4294967296):∃ y',papp s (.sl true s []) rows=some y'/\RL (some true) s R y' m:=by
 have hlen:=hr.length
 refine ⟨.sl true s rows,?_,.sl (by simp) hr (by omega)⟩
 simp [papp,room]
 omega
end Go.Ab
namespace Go.Ab.D13
open Go Go.Ab Go.Proofs
section
variable {N:Nat} {P:Nat->Prop} {w4:TV} (hn:RBools (some true) w4 (dM N fun i=>dP (P i))) (hN:N<=100)
include hn hN
end
end Go.Ab.D13
end
section
set_option maxRecDepth 100000
namespace Go.Ab
def bJ (t:Int):DBlock:=⟨false,⟨0,[],false,false⟩,[],⟨2,0,0,0,[],t,0,0⟩⟩
def bR:DBlock:=⟨false,⟨0,[],false,false⟩,[],⟨1,0,0,0,[],0,0,0⟩⟩
def fnA:DFunc:=⟨0,1,[bJ 2,bR,bR]⟩
def fnB:DFunc:=⟨0,1,[bJ 1,bR]⟩
def jT (t:Int):List TV:=[B false,I 0,.lit aF,B false,B false,.lit aF,I 2,I 0,I 0,I 0,.lit aF,I t,I 0,I 0]
def rT:List TV:=[B false,I 0,.lit aF,B false,B false,.lit aF,I 1,I 0,I 0,I 0,.lit aF,I 0,I 0,I 0]
theorem i9:inI 0:=by unfold inI; omega
theorem rJ {t:Int} (h:inI t):RBlock (some false) (jT t) (bJ t):=⟨_,_,_,rfl,RL.nil,i9,RL.nil,RL.nil,(by show inI 2; unfold inI; omega),i9,i9,i9,h,i9,i9⟩
theorem rR:RBlock (some false) rT bR:=⟨_,_,_,rfl,RL.nil,i9,RL.nil,RL.nil,(by show inI 1; unfold inI; omega),i9,i9,i9,i9,i9,i9⟩
theorem rcA (i:Nat):Rc fnA.blocks (-1) i ↔ i=0\/i=2:=by
 have e0:aD fnA.blocks 0=[2]:=rfl
 have e2:aD fnA.blocks 2=[]:=rfl
 constructor
 ·intro h
  induction h with
  | start=>exact .inl rfl
  | next _ hg _ ih =>
   rcases ih with rfl | rfl
   ·rw [e0] at hg
    rw [List.mem_singleton.1 hg]
    exact .inr rfl
   ·rw [e2] at hg
    cases hg
 ·have h0:Rc fnA.blocks (-1) 0:=.start (by omega) (by decide)
  rintro (rfl | rfl)
  ·exact h0
  ·exact .next h0 (g:=2) (by rw [e0]; exact List.mem_singleton.2 rfl) (by omega)
theorem clA:clF fnA=fnB:=by
 have hg:fV fnA:=by
  intro i b hi hb
  rcases (rcA i).1 hi with rfl | rfl
  ·have:bJ 2=b:=Option.some.inj hb
   subst this
   rfl
  ·have:bR=b:=Option.some.inj hb
   subst this
   rfl
 rw [kw hg]
 have hP:Rc fnA.blocks (-1)=fun i=>i=0\/i=2:=funext fun i=>propext (rcA i)
 have e:jf fnA.blocks=fnB.blocks:=by
  unfold jf
  rw [hP]
  show bV (fun i=>i=0\/i=2) fnA.blocks (fL (aG fun i=>i=0\/i=2)) 3=_
  have c2:aG (fun i:Nat=>i=0\/i=2) 2=1:=by rw [vx (k:=1) (by omega),pX (k:=0) (.inl rfl),mK]
  rw [j8 (k:=2) (a:=bR) (.inr rfl) rfl,oI (k:=1) (by omega),j8 (k:=0) (a:=bJ 2) (.inl rfl) rfl,lm]
  have a1:fL (aG fun i=>i=0\/i=2) (bJ 2)=bJ 1:=by
   have:fL (aG fun i=>i=0\/i=2) (bJ 2)=bJ ((aG (fun i:Nat=>i=0\/i=2) 2:Nat):Int):=rfl
   rw [this,c2]
   rfl
  have a2:fL (aG fun i=>i=0\/i=2) bR=bR:=rfl
  rw [a1,a2]
  rfl
 show (⟨0,1,jf fnA.blocks⟩:DFunc)=fnB
 rw [e]
 rfl
theorem clB:clF fnB=fnB:=by
 have h:=xb (v:=fnB) (by
  intro b hb g hg
  have hb:b ∈ [bJ 1,bR]:=hb
  rcases List.mem_cons.1 hb with rfl | hb
  ·have hg:g ∈ [(1:Int)]:=hg
   rw [List.mem_singleton.1 hg]
   decide
  ·rw [List.mem_singleton.1 hb] at hg
   cases hg) (fun i hi=>by
  have h0:Rc fnB.blocks (-1) 0:=.start (by omega) (by decide)
  have hi:i < 2:=hi
  have:i=0\/i=1:=by omega
  rcases this with rfl | rfl
  ·exact h0
  ·exact .next h0 (g:=1) (by show (1:Int) ∈ [(1:Int)]; exact List.mem_singleton.2 rfl) (by omega)) (by intro h; cases h) []
 exact h
theorem clMB:(clM ⟨[fnB,fnB]⟩).funcs.length=1:=by
 have eC:clC ⟨[fnB,fnB]⟩=⟨[fnB,fnB]⟩:=by
  show (⟨[clF fnB,clF fnB]⟩:DMod)=_
  rw [clB]
 have no:∀ {a k:Nat},¬ ofP ⟨[fnB,fnB]⟩ a k:=by
  rintro a k ⟨_,u,hu,b,hb,h⟩
  have hu:u ∈ [fnB,fnB]:=FN hu
  have:u=fnB:=by simpa using hu
  subst this
  have hb:b ∈ [bJ 1,bR]:=hb
  rcases h with ⟨x,hx,_⟩ | ⟨h4,_⟩
  ·rcases List.mem_cons.1 hb with rfl | hb
   ·cases hx
   ·rw [List.mem_singleton.1 hb] at hx
    cases hx
  ·rcases List.mem_cons.1 hb with rfl | hb
   ·exact absurd h4 (by decide)
   ·rw [List.mem_singleton.1 hb] at h4
    exact absurd h4 (by decide)
 have hP:eT ⟨[fnB,fnB]⟩=fun k=>k=0:=by
  funext k
  apply propext
  constructor
  ·rintro (h | h)
   ·exact h
   ·cases h with
    | one h=>exact absurd h no
    | more _ h=>exact absurd h no
  ·intro h; exact .inl h
 unfold clM
 rw [eC,hP]
 show (bV (fun k=>k=0) [fnB,fnB] _ 2).length=1
 rw [oI (k:=1) (by omega),j8 (P:=fun k=>k=0) (k:=0) (a:=fnB) rfl rfl,lm]
 rfl
end Go.Ab
namespace Go.Ab.D13
open Go Go.Ab Go.Proofs
theorem EH:aq prog 15 [.agg [.sl false 3 [[I 0,I 1,.sl false 14 [jT 1,rT]],[I 0,I 1,.sl false 14 [jT 1,rT]]]]] (B true):=⟨40,by kernel_rfl⟩
theorem oneI:inI 1:=by unfold inI; omega
theorem mayB:pZ ⟨[fnB,fnB]⟩:=by
 have hb:RL (some false) 14 (RBlock (some false)) (.sl false 14 [jT 1,rT]) fnB.blocks:=.sl (by simp) (.cons (rJ oneI) (.cons rR .nil)) (by simp)
 have hf:RFunc (some false) [I 0,I 1,.sl false 14 [jT 1,rT]] fnB:=⟨_,rfl,hb,i9,oneI⟩
 have hM:RMod (some false) [.sl false 3 [[I 0,I 1,.sl false 14 [jT 1,rT]],[I 0,I 1,.sl false 14 [jT 1,rT]]]] ⟨[fnB,fnB]⟩:=⟨_,rfl,.sl (by simp) (.cons hf (.cons hf .nil)) (by simp)⟩
 have h:=r8 hM
 have:=h.det EH
 have e:tt (pZ ⟨[fnB,fnB]⟩)=true:=by
  have:(TV.lit (.bool (tt (pZ ⟨[fnB,fnB]⟩))))=TV.lit (.bool true):=this
  simpa using this
 exact fo.1 e
theorem CP:aq prog 5 [] (B true):=by
 have hA:RFunc (some false) [I 0,I 1,.sl false 14 [jT 2,rT,rT]] fnA:=⟨_,rfl,.sl (by simp) (.cons (rJ (by unfold inI; omega)) (.cons rR (.cons rR .nil))) (by simp),i9,oneI⟩
 have hsB:io fnB:=by
  refine ⟨by show 2<=70; omega,fun i hi b hb=>?_⟩
  have hb:b ∈ [bJ 1,bR]:=FN hb
  rcases List.mem_cons.1 hb with rfl | hb
  ·exact ⟨by decide,by decide,by decide,fun j hj=>absurd hj (Nat.not_lt_zero _)⟩
  ·rw [List.mem_singleton.1 hb]
   exact ⟨by decide,by decide,by decide,fun j hj=>absurd hj (Nat.not_lt_zero _)⟩
 obtain ⟨e,k1,k2⟩:=rn hA (by show 3<=1000; omega) (by rw [clA]; exact hsB)
 rw [clA] at k2
 obtain ⟨b,rfl,hb,hp,hr⟩:=k2
 have hz:RL (some false) 14 (RBlock (some false)) (frz b) fnB.blocks:=hb.frz fun _ _ h=>h.frz
 have hzz:RL (some false) 14 (RBlock (some false)) (frz (frz b)) fnB.blocks:=hz.frz fun _ _ h=>h.frz
 have hF:RFunc (some false) [I 0,I 1,frz (frz b)] fnB:=⟨_,rfl,hzz,hp,hr⟩
 have hM:RL (some false) 3 (RFunc (some false)) (frz (.sl true 3 (chunks 3 2 [I 0,I 1,frz b,I 0,I 1,frz b]))) (DMod.funcs ⟨[fnB,fnB]⟩):=by
  show RL (some false) 3 (RFunc (some false)) (.sl false 3 [[I 0,I 1,frz (frz b)],[I 0,I 1,frz (frz b)]]) [fnB,fnB]
  exact .sl (by simp) (.cons hF (.cons hF .nil)) (by simp)
 obtain ⟨w,m1,m2⟩:=tJ hM ⟨by show 2<=20; omega,fun i hi f hf=>by
  have hf:f ∈ [fnB,fnB]:=FN hf
  have:f=fnB:=by simpa using hf
  subst this
  exact hsB⟩ mayB
 obtain ⟨_,hw,hwl⟩:=m2
 cases hw
 obtain ⟨e0,he0,hR0⟩:=hz.idx (k:=.i64) (i:=0) (a:=bJ 1) rfl
 obtain ⟨c,t,g,rfl,_⟩:=hR0
 refine aq.of f5_MR ?_
 unfold f5_M
 refine aa.call k1 (aa.chk (by simp [TV.isAgg,TV.cellsL,ab,fX,aC,TV.isSc,scV,hb.isSl]) (aa.tv hb.len (aa.tv rfl (aa.ite (v:=false) rfl nofun fun _=>f5_0_J ?_))))
 unfold f5_0
 refine aa.call m1 (aa.chk rfl (aa.chk (by simp [TV.comp,nth,TV.isAgg,ab,zSl,aC,TV.cellsL,hwl.isSl]) (aa.chk rfl ?_)))
 refine aa.tv hz.len (aa.tv rfl (aa.ite (v:=true) rfl (fun _=>aa.tvs he0 (aa.chk rfl (aa.tv rfl (aa.ite (v:=true) rfl (fun _=>aa.tv rfl (aa.ite (v:=true) rfl (fun _=>?_) nofun)) nofun)))) nofun))
 refine aa.tv hwl.len (aa.tv (v:=B true) ?_ aa.ret)
 rw [clMB]
 rfl
end Go.Ab.D13
end
section
set_option maxRecDepth 10000
namespace Go.Ab
theorem vW {φ:Nat->Nat} {u:DFunc} (h:io u):io (jj φ u):=by
 refine ⟨by show (u.blocks.map _).length<=70; rw [List.length_map]; exact h.1,fun i hi b hb=>?_⟩
 have hb:(u.blocks.map (eF φ))[i]? = some b:=hb
 rw [FK] at hb
 cases hc:u.blocks[i]? with
 | none=>rw [hc] at hb; cases hb
 | some c =>
  rw [hc] at hb
  have e:b=eF φ c:=(Option.some.inj hb).symm
  subst e
  obtain ⟨h1,h2,h3,h4⟩:=h.2 i (FE.1 hc).1 c hc
  refine ⟨by show (c.ins.map _).length<=70; rw [List.length_map]; exact h1,h2,h3,fun j hj x hx=>?_⟩
  have hx:(c.ins.map (iE φ))[j]? = some x:=hx
  rw [FK] at hx
  cases hy:c.ins[j]? with
  | none=>rw [hy] at hx; cases hx
  | some y =>
   rw [hy] at hx
   have e:x=iE φ y:=(Option.some.inj hx).symm
   subst e
   have:=h4 j (FE.1 hy).1 y hy
   unfold iE
   split <;> exact this
end Go.Ab
namespace Go.Ab.D13
open Go Go.Ab Go.Proofs
theorem DO {m:DMod} (hs:lp m) (hM:pZ m) {v:DFunc} (hv:v ∈ (clM m).funcs):io v/\v.blocks.length<=64/\∀ t,clF { v with blocks:=v.blocks ++ t }=v:=by
 obtain ⟨i,c,hi,_,hc,rfl⟩:=mS hv
 obtain ⟨u,hu,rfl⟩:=wK hc
 have hsu:=hs.2 i hi u hu
 have hg:=(zy hM hu).good
 have hF:=modF hM hu
 have e:jj (aG (eT (clC m))) (clF u)={ u with blocks:=(jf u.blocks).map (eF (aG (eT (clC m)))) }:=by rw [kw hg]; rfl
 obtain ⟨h1,h2⟩:=DV hg (aG (eT (clC m)))
 have h0:jf u.blocks≠[]:=by
  obtain ⟨b,hb,_⟩:=hF.2.2.1
  have hr0:Rc u.blocks (-1) 0:=.start (by omega) (FE.1 hb).1
  have:=(Do hg hr0 id).lt
  rw [List.length_map] at this
  intro h
  rw [h] at this
  simp at this
 have hl:(jf u.blocks).length<=u.blocks.length:=fM
 refine ⟨vW (tp hsu),?_,fun t=>?_⟩
 ·rw [e]
  show ((jf u.blocks).map _).length<=64
  rw [List.length_map]
  have:=hF.2.1
  omega
 ·rw [e]
  refine xb (v:={ u with blocks:=(jf u.blocks).map (eF (aG (eT (clC m)))) }) h2 (fun i hi=>h1 i ?_) ?_ t
  ·have hi:i < ((jf u.blocks).map (eF (aG (eT (clC m))))).length:=hi
   rwa [List.length_map] at hi
  ·show (jf u.blocks).map _≠[]
   intro h
   exact h0 (List.map_eq_nil_iff.1 h)
theorem rDeadAll {e e':List TV} {m:DMod} {c:DBlock} (he:RMod (some false) e m) (hc:RBlock (some false) e' c):aq prog 4 [.agg e,.agg e'] (B true):=by
 have he0:=he
 have hc0:=hc
 obtain ⟨x,rfl,hx⟩:=he
 obtain ⟨g1,g2,g3,rfl,q1,q2,q3,q4,q5⟩:=hc
 obtain ⟨s1,c1,d1⟩:=r7 he0
 have t1:=r8 he0
 refine aq.of (f4_MR _ _) ?_
 unfold f4_M
 refine aa.chk rfl (aa.chk rfl (aa.call CP (aa.chk rfl (aa.tv rfl (aa.ite (v:=false) rfl nofun fun _=>?_)))))
 refine aa.call c1 (aa.chk rfl (aa.tv rfl ?_))
 cases s1 with
 | false=>exact aa.ite (v:=true) rfl (fun _=>aa.ret) nofun
 | true =>
  have hs:=d1 rfl
  refine aa.ite (v:=false) rfl nofun fun _=>?_
  by_cases hM:pZ m
  ·rw [od hM] at t1
   refine aa.call t1 (aa.chk rfl (aa.tv rfl (aa.ite (v:=false) rfl nofun fun _=>aa.tv q3.len (aa.tv rfl (aa.ite rfl (fun _=>aa.ret) fun _=>?_)))))
   obtain ⟨w,m1,m2⟩:=tJ hx hs hM
   obtain ⟨_,hw,hwl⟩:=m2
   cases hw
   have hz:RL (some false) 3 (RFunc (some false)) (frz w) (clM m).funcs:=hwl.frz fun _ _ h=>h.frz
   have hcm:(clM m).funcs.length<=m.funcs.length:=fM
   have hN:=hs.1
   refine aa.call m1 (aa.chk rfl (aa.chk (by simp [TV.comp,nth,TV.isAgg,ab,zSl,aC,TV.cellsL,hwl.isSl]) (aa.chk rfl (f4_0_J ?_))))
   have key:∀ (d i:Nat),i + d=(clM m).funcs.length->aa prog 4 (f4_0 (I 0) (I i) x (B c.landing) (I c.pad.dst) g1 (B c.pad.all) (B c.pad.cleanup) g2 (I c.fin.kind) (I c.fin.a) (I c.fin.dst) (I c.fin.f) g3 (I c.fin.to) (I c.fin.els) (I c.fin.pad) (frz w)) (B true):=by
    intro d
    induction d with
    | zero =>
     intro i hi
     have hi:i=(clM m).funcs.length:=by omega
     subst hi
     unfold f4_0
     refine aa.tv hz.len (aa.tv rfl (aa.ite aQ nofun fun _=>f4_1_J ?_))
     unfold f4_1
     refine aa.tv rfl (aa.ite (v:=true) rfl (fun _=>aa.tv hz.len (aa.tv hx.len (aa.tv (v:=B true) ?_ aa.ret))) nofun)
     show some (TV.lit (.bool (decide (((clM m).funcs.length:Int)<=(m.funcs.length:Int)))))=_
     rw [decide_eq_true (by omega)]
    | succ d ih =>
     intro i hi
     have hil:i < (clM m).funcs.length:=by omega
     obtain ⟨v,hv⟩:∃ v,(clM m).funcs[i]? = some v:=⟨_,FF hil⟩
     obtain ⟨hsv,hl64,hcl⟩:=DO hs hM (FN hv)
     have hcl0:clF v=v:=by
      have:=hcl []
      rwa [List.append_nil] at this
     obtain ⟨e,he,hR⟩:=hz.idx (k:=.i64) hv
     have hRv:=hR
     obtain ⟨bv,rfl,hbv,hp,hr⟩:=hR
     obtain ⟨rows,r1,r2⟩:=hbv.elems
     obtain ⟨v13,p1,p2⟩:=RL.appD r2 (by omega)
     obtain ⟨v15,p3,p4⟩:=p2.app hc0 (by omega)
     have hG:RFunc (some false) [I v.params,I v.regs,frz v15] { v with blocks:=v.blocks ++ [c] }:=⟨frz v15,rfl,p4.frz fun _ _ h=>h.frz,hp,hr⟩
     obtain ⟨e1,k1,k2⟩:=rn hRv (by omega) (by rw [hcl0]; exact hsv)
     obtain ⟨e2,k3,k4⟩:=rn hG (by show (v.blocks ++ [c]).length<=1000; simp; omega) (by rw [hcl]; exact hsv)
     rw [hcl0] at k2
     rw [hcl] at k4
     obtain ⟨b1,rfl,hb1,hp1,hr1⟩:=k2
     obtain ⟨b2,rfl,hb2,hp2,hr2⟩:=k4
     have t2:=r31 (a:=v) (b:=v) (q:=some false) (q':=some false) ⟨frz b1,rfl,hb1.frz fun _ _ h=>h.frz,hp1,hr1⟩ hRv
     have t3:=r31 (a:=v) (b:=v) (q:=some false) (q':=some false) ⟨frz b2,rfl,hb2.frz fun _ _ h=>h.frz,hp2,hr2⟩ hRv
     rw [od rfl] at t2 t3
     unfold f4_0
     refine aa.tv hz.len (aa.tv rfl (aa.ite (aT hil) (fun _=>?_) nofun))
     refine aa.tvs he (aa.chk rfl (aa.rws r1 (aa.tv p1 (aa.rws rfl (aa.tv p3 ?_)))))
     refine aa.call k1 (aa.chk (by simp [TV.isAgg,TV.cellsL,ab,fX,aC,TV.isSc,scV,hb1.isSl]) (aa.call t2 (aa.chk rfl (aa.tv rfl (aa.ite (v:=false) rfl nofun fun _=>?_)))))
     refine aa.call k3 (aa.chk (by simp [TV.isAgg,TV.cellsL,ab,fX,aC,TV.isSc,scV,hb2.isSl]) (aa.call t3 (aa.chk rfl (aa.tv rfl (aa.ite (v:=false) rfl nofun fun _=>?_)))))
     exact aa.tv (inc hil (by omega)) (f4_0_J (ih (i + 1) (by omega)))
   exact key (clM m).funcs.length 0 (by omega)
  ·rw [rN hM] at t1
   exact aa.call t1 (aa.chk rfl (aa.tv rfl (aa.ite (v:=true) rfl (fun _=>aa.ret) nofun)))
end Go.Ab.D13
end
section
namespace Go.Ab
open Go.RowKit
theorem aS {α:Type} (d:α):∀ (l:List α) (n:Nat),nth d l n=(l[n]?).getD d
 | [],n=>by simp [nth]
 | a :: l,0=>rfl
 | a :: l,n + 1=>by simp [nth,aS d l n]
theorem ah {α:Type}:∀ (l:List α) (n:Nat) (b:α),ak l n b=l.set n b
 | [],n,b=>by simp [ak]
 | a :: l,0,b=>rfl
 | a :: l,n + 1,b=>by simp [ak,ah l n b]
theorem bT {α:Type} {d:α} {l:List α} {n:Nat} {a:α} (h:l[n]? = some a):nth d l n=a:=by rw [aS,h]; rfl
theorem ap (a b:Nat):a.beq b=true ↔ a=b:=⟨Nat.eq_of_beq_eq_true,fun h=>h ▸ Nat.beq_refl a⟩
theorem cb (n:Nat):∀ l:List Nat,bO n l=true ↔ n ∈ l
 | []=>by simp [bO]
 | a :: l => by
  cases h:a.beq n
  ·have:a≠n:=fun e=>by simp [e] at h
   simp only [bO,h,cond_false,cb n l,List.mem_cons]
   constructor
   ·exact .inr
   ·rintro (e | e)
    ·exact absurd e.symm this
    ·exact e
  ·simp only [bO,h,cond_true,List.mem_cons,true_iff]
   exact .inl ((ap a n).1 h).symm
theorem eN (a:Addr) (k:Nat):(a.add k).block=a.block:=by unfold Addr.add; split <;> rfl
theorem Dw {a:Addr} (h:a.spot=none) (k:Nat):(a.add k).spot=none:=by unfold Addr.add; split <;> simp [h]
theorem fc (a:Addr) (i j:Nat):(a.add i).add j=a.add (i + j):=by
 unfold Addr.add
 by_cases hi:i=0 <;> by_cases hj:j=0 <;> simp [hi,hj,Nat.add_assoc]
theorem dT (b o k:Nat):(⟨b,o,none⟩:Addr).add k=⟨b,o + k,none⟩:=by unfold Addr.add; split <;> simp_all
def spl {α:Type} (l:List α) (o:Nat) (ys:List α):List α:=l.take o ++ ys ++ l.drop (o + ys.length)
theorem fg {α:Type} {l ys:List α} {o:Nat} (h:o + ys.length<=l.length):(spl l o ys).length=l.length:=by
 simp only [spl,List.length_append,List.length_take,List.length_drop]
 omega
theorem bH {α:Type} {l ys:List α} {o:Nat} (h:o + ys.length<=l.length) (k:Nat):(spl l o ys)[k]? = if o<=k/\k < o + ys.length then ys[k - o]? else l[k]? := by
 have e1:(l.take o).length=o:=by simp; omega
 unfold spl
 by_cases h1:k < o
 ·rw [List.append_assoc,FO (by omega),List.getElem?_take,if_pos h1,if_neg (by omega)]
 ·by_cases h2:k < o + ys.length
  ·rw [List.append_assoc,FP (by omega),e1,FO (by omega),if_pos (by omega)]
  ·rw [FP (by simp; omega),List.getElem?_drop,if_neg (by omega)]
   congr 1
   simp
   omega
theorem fP {α:Type}:∀ (ps l:List α) (off:Nat),off + ps.length<=l.length->bB l off ps=spl l off ps
 | [],l,off,h=>by simp [bB,spl]
 | p :: ps, l, off, h => by
  have hlt:off < l.length:=by simp at h; omega
  simp only [bB]
  rw [ah,fP ps (l.set off p) (off + 1) (by simp at h ⊢; omega)]
  apply List.ext_getElem?
  intro k
  rw [bH (by simp at h ⊢; omega),bH h]
  simp only [List.length_cons,List.getElem?_set]
  by_cases h1:k < off
  ·rw [if_neg (by omega),if_neg (by omega),if_neg (by omega)]
  ·by_cases h2:k=off
   ·subst h2
    rw [if_neg (by omega),if_pos (by omega)]
    simp [hlt]
   ·by_cases h3:k < off + (ps.length + 1)
    ·rw [if_pos (by omega),if_pos (by omega)]
     rw [show k - off=(k - (off + 1)) + 1 by omega,List.getElem?_cons_succ]
    ·rw [if_neg (by omega),if_neg (by omega),if_neg (by omega)]
theorem fx {α:Type}:∀ (l:List α) (o n:Nat) (r:List α),ly l o n=some r->r.length=n/\(n=0\/o + n<=l.length)/\∀ j,j < n->r[j]? = l[o + j]?
 | l,o,0,r,h=>by cases l <;> simp [ly] at h <;> subst h <;> simp
 | [],o,n + 1,r,h=>by simp [ly] at h
 | a :: l, 0, n + 1, r, h => by
  simp only [ly] at h
  cases h1:ly l 0 n with
  | none=>simp [h1] at h
  | some r' =>
   simp only [h1,FG] at h
   subst h
   obtain ⟨i1,i2,i3⟩:=fx l 0 n r' h1
   refine ⟨by simp [i1],.inr (by simp; omega),fun j hj=>?_⟩
   cases j with
   | zero=>simp
   | succ j=>simpa using i3 j (by omega)
 | a :: l,o + 1,n + 1,r,h=>by
  simp only [ly] at h
  obtain ⟨i1,i2,i3⟩:=fx l o (n + 1) r h
  refine ⟨i1,.inr (by rcases i2 with i2 | i2 <;> simp <;> omega),fun j hj=>?_⟩
  rw [i3 j hj,show o + 1 + j=(o + j) + 1 by omega,List.getElem?_cons_succ]
theorem bU {α:Type} {s:Nat}:∀ {xs:List (List α)},(∀ x ∈ xs,x.length=s)->xs.flatten.length=xs.length * s
 | [],_=>by simp
 | x :: xs,h=>by
  simp only [List.flatten_cons,List.length_append,List.length_cons,h x FL,bU (fun y hy=>h y (FM _ hy)),Nat.add_mul]
  omega
theorem cY {α:Type} {s:Nat}:∀ {xs:List (List α)} {i j:Nat} {x:List α} {c:α},(∀ x ∈ xs,x.length=s)->xs[i]? = some x->x[j]? = some c->xs.flatten[i * s + j]? = some c
 | x :: xs,0,j,_,c,h,hi,hj=>by
  simp at hi
  subst hi
  rw [List.flatten_cons,FO (by simp; exact (FE.1 hj).1)]
  simpa using hj
 | x :: xs,i + 1,j,y,c,h,hi,hj=>by
  simp at hi
  have hx:=h x FL
  rw [List.flatten_cons,FP (by rw [hx,Nat.add_mul]; omega),hx,show (i + 1) * s + j - s=i * s + j by rw [Nat.add_mul]; omega]
  exact cY (fun z hz=>h z (FM _ hz)) hi hj
theorem take_add {α:Type} {x l:List α} {s n:Nat} (h:x.length=s):(x ++ l).take (s + n)=x ++ l.take n:=by
 subst h
 exact List.take_length_add_append n
theorem yz {α:Type} {x l:List α} {s n:Nat} (h:x.length=s):(x ++ l).drop (s + n)=l.drop n:=by
 subst h
 exact List.drop_length_add_append n
theorem pY (n s:Nat):(n + 1) * s=s + n * s:=by rw [Nat.add_mul]; omega
theorem mP {α:Type} {s:Nat}:∀ {xs:List (List α)} (n:Nat),(∀ x ∈ xs,x.length=s)->(xs.take n).flatten=xs.flatten.take (n * s)
 | [],n,_=>by simp
 | x :: xs,0,_=>by simp
 | x :: xs,n + 1,h=>by
  have hx:=h x FL
  rw [List.take_succ_cons,List.flatten_cons,List.flatten_cons,mP n (fun z hz=>h z (FM _ hz)),pY,take_add hx]
theorem mV {α:Type} {s:Nat}:∀ {xs:List (List α)} (n:Nat),(∀ x ∈ xs,x.length=s)->(xs.drop n).flatten=xs.flatten.drop (n * s)
 | [],n,_=>by simp
 | x :: xs,0,_=>by simp
 | x :: xs,n + 1,h=>by
  have hx:=h x FL
  rw [List.drop_succ_cons,List.flatten_cons,mV n (fun z hz=>h z (FM _ hz)),pY,yz hx]
theorem xT {α:Type} {s:Nat}:∀ {xs:List (List α)} {i:Nat} {x y:List α},(∀ x ∈ xs,x.length=s)->xs[i]? = some x->y.length=s->(xs.set i y).flatten=spl xs.flatten (i * s) y
 | x :: xs,0,_,y,h,hi,hy=>by
  simp at hi
  subst hi
  have hx:=h x FL
  simp only [List.set_cons_zero,List.flatten_cons,Nat.zero_mul,spl,List.take_zero,List.nil_append,Nat.zero_add,hy,List.drop_append,hx,Nat.sub_self,List.drop_zero]
  rw [List.drop_of_length_le (by omega),List.nil_append]
 | x :: xs,i + 1,z,y,h,hi,hy=>by
  simp at hi
  have hx:=h x FL
  have ih:=xT (fun z hz=>h z (FM _ hz)) hi hy
  simp only [List.set_cons_succ,List.flatten_cons,ih,spl,pY,take_add hx,hy]
  rw [show s + i * s + s=s + (i * s + s) by omega,yz hx]
  simp only [List.append_assoc]
theorem AP {α:Type} {s:Nat} {xs:List (List α)} {i:Nat} {y:List α} (h:∀ x ∈ xs,x.length=s) (hy:y.length=s):∀ x ∈ xs.set i y,x.length=s:=by
 intro x hx
 rcases List.mem_or_eq_of_mem_set hx with h' | h'
 ·exact h x h'
 ·rw [h']; exact hy
theorem wX {α:Type} {s:Nat} {xs:List (List α)} {i j:Nat} {x ys:List α} (h:∀ x ∈ xs,x.length=s) (hi:xs[i]? = some x) (hj:j + ys.length<=x.length) :
  (xs.set i (spl x j ys)).flatten=spl xs.flatten (i * s + j) ys/\i * s + j + ys.length<=xs.flatten.length:=by
 have hx:=h x (FN hi)
 have hlt:i < xs.length:=(FE.1 hi).1
 have hle:i * s + s<=xs.flatten.length:=by
  rw [bU h]
  have:=Nat.mul_le_mul_right s (Nat.succ_le_of_lt hlt)
  rw [Nat.succ_mul] at this
  exact this
 refine ⟨?_,by omega⟩
 rw [xT h hi (by rw [fg hj,hx])]
 apply List.ext_getElem?
 intro k
 rw [bH (l:=xs.flatten) (ys:=spl x j ys) (by rw [fg hj]; omega),bH (l:=xs.flatten) (ys:=ys) (by omega),fg hj,hx]
 by_cases h1:i * s<=k/\k < i * s + s
 ·rw [if_pos h1,bH hj]
  by_cases h2:j<=k - i * s/\k - i * s < j + ys.length
  ·rw [if_pos h2,if_pos (by omega)]
   congr 1
   omega
  ·rw [if_neg h2,if_neg (by omega)]
   have hk:k - i * s < x.length:=by omega
   have:=cY h hi (FF hk)
   rw [show i * s + (k - i * s)=k by omega] at this
   rw [this,FF hk]
 ·rw [if_neg h1,if_neg (by omega)]
inductive Rep (w:World) (I:Nat->Prop):TV->Value->Prop
 | lit (v:Value):Rep w I (.lit v) v
 | hole (v:Value):Rep w I .hole v
 | buf {s:ByteArray} (e:TypeId) (h:s.size=0):Rep w I (.buf s e) aF
 | sl {size : Nat} {xs : List (List TV)} {a : Addr} {cap : Nat} (cell : Nat → Value) (hI : 0 < xs.length → I a.block) (hc : xs.length ≤ cap) (hm : cap ≤ maxLen)
   (hl:∀ x ∈ xs,x.length=size) (hcell:∀ k,k < xs.length * size->w.cell? (a.add k)=some (cell k)) (h1:∀ k,k < xs.length * size->(cell k).oneCell'=true)
   (hr:∀ (i:Nat) (x:List TV),xs[i]? = some x->∀ (j:Nat) (c:TV),x[j]? = some c->Rep w I c (cell (i * size + j))):Rep w I (.sl false size xs) (.slice (some a) xs.length cap)
 | agg {cs : List TV} {vs : Array Value} (hl : vs.size = cs.length) (h1 : ∀ j, j < vs.size → (vs.getD j undef).oneCell' = true)
   (hr:∀ (j:Nat) (c:TV),cs[j]? = some c->Rep w I c (vs.getD j undef)):Rep w I (.agg cs) (.agg vs)
 | tup {cs:List TV} {vs:Array Value} (hl:vs.size=cs.length) (hr:∀ (j:Nat) (c:TV),cs[j]? = some c->Rep w I c (vs.getD j undef)):Rep w I (.tup cs) (.tuple vs)
theorem Rep.mv {w w':World} {I I':Nat->Prop} (hh:∀ b,I b->w'.heap[b]? = w.heap[b]?) (hI:∀ b,I b->I' b) {x:TV} {v:Value} (h:Rep w I x v):Rep w' I' x v:=by
 induction h with
 | lit v=>exact .lit v
 | hole v=>exact .hole v
 | buf e h=>exact .buf e h
 | sl cell i c m l hcell h1 _ ih =>
  exact .sl cell (fun h=>hI _ (i h)) c m l (fun k hk=>by rw [<- hcell k hk]; exact World.cell?_of_block (by rw [eN]; exact hh _ (i (Nat.pos_of_ne_zero (fun e=>by simp [e] at hk))))) h1 ih
 | agg hl h1 _ ih=>exact .agg hl h1 ih
 | tup hl _ ih=>exact .tup hl ih
structure Row (w:World) (a:Addr) (n cap size:Nat) (us:List Value) (vs:Array Value) (ty:TypeId):Prop where
 heap:w.heap[a.block]? = some (.cells vs ty (0,0))
 spot:a.spot=none
 le:n<=cap
 max:cap<=maxLen
 fit:a.off + cap * size<=vs.size
 len:us.length=n * size
 cells:∀ k,k < n * size->vs[a.off + k]? = us[k]?
 one:∀ u ∈ us,u.oneCell'=true
theorem Row.cell {w:World} {a:Addr} {n cap size:Nat} {us:List Value} {vs:Array Value} {ty:TypeId} (h:Row w a n cap size us vs ty) {k:Nat} {u:Value} (hk:us[k]? = some u):w.cell? (a.add k)=some u:=by
 have hlt:k < n * size:=by rw [<- h.len]; exact (FE.1 hk).1
 have:a.add k=⟨a.block,a.off + k,none⟩:=by
  have:=h.spot
  obtain ⟨b,o,sp⟩:=a
  simp at this
  subst this
  exact dT b o k
 rw [this]
 simp only [World.cell?,h.heap]
 simp only [Option.isSome_none,Bool.false_eq_true,if_false]
 rw [h.cells k hlt,hk]
inductive al (w:World) (I:Nat->Prop):TV->Value->(Nat->Prop)->Prop
 | fr {x:TV} {v:Value} {S:Nat->Prop} (h:Rep w I x v):al w I x v S
 | sl {size : Nat} {xs : List (List TV)} {a : Addr} {cap : Nat} {S : Nat → Prop} (us : List Value) (vs : Array Value) (ty : TypeId) (F : Nat → Nat → Prop) (hS : S a.block)
   (row:Row w a xs.length cap size us vs ty) (hl:∀ x ∈ xs,x.length=size) (hr:∀ (k:Nat) (c:TV),xs.flatten[k]? = some c->al w I c (us.getD k undef) (F k))
   (hF:∀ k b,F k b->S b/\b≠a.block) (hd:∀ k k' b,F k b->F k' b->k=k'):al w I (.sl true size xs) (.slice (some a) xs.length cap) S
 | agg {cs : List TV} {vs : Array Value} {S : Nat → Prop} (F : Nat → Nat → Prop) (hl : vs.size = cs.length) (h1 : ∀ j, j < vs.size → (vs.getD j undef).oneCell' = true)
   (hr:∀ (j:Nat) (c:TV),cs[j]? = some c->al w I c (vs.getD j undef) (F j)) (hF:∀ j b,F j b->S b) (hd:∀ k k' b,F k b->F k' b->k=k'):al w I (.agg cs) (.agg vs) S
 | buf {s:ByteArray} {e:TypeId} {v:Value} {S:Nat->Prop} (h:w.ownsRowF 0 e 1 v s.size (Lib.strCells s)) (hS:∀ b,v.ownBlock=some b->S b):al w I (.buf s e) v S
 | tup {cs : List TV} {vs : Array Value} {S : Nat → Prop} (F : Nat → Nat → Prop) (hl : vs.size = cs.length)
   (hr:∀ (j:Nat) (c:TV),cs[j]? = some c->al w I c (vs.getD j undef) (F j)) (hF:∀ j b,F j b->S b) (hd:∀ k k' b,F k b->F k' b->k=k'):al w I (.tup cs) (.tuple vs) S
theorem _root_.Go.World.ownsRowF.moved {w w':World} {base:Nat} {e:TypeId} {size:Nat} {v:Value} {n:Nat} {xs:List Value} (h:w.ownsRowF base e size v n xs) (hh:∀ b,v.ownBlock=some b->w'.heap[b]? = w.heap[b]?):w'.ownsRowF base e size v n xs:=by
 refine ⟨h.1,?_⟩
 rcases h.2 with hn | ⟨g,cap,cur,fz,rfl,hb,hgg,rest⟩
 ·exact .inl hn
 ·exact .inr ⟨g,cap,cur,fz,rfl,hb,by rw [hh g rfl]; exact hgg,rest⟩
theorem al.mv {w w':World} {I I':Nat->Prop} (hI:∀ b,I b->w'.heap[b]? = w.heap[b]?) (hs:∀ b,I b->I' b) {x:TV} {v:Value} {S:Nat->Prop} (h:al w I x v S) :
  ∀ {S':Nat->Prop},(∀ b,S b->w'.heap[b]? = w.heap[b]?)->(∀ b,S b->S' b)->al w' I' x v S':=by
 induction h with
 | fr h=>intro S' _ _; exact .fr (h.mv hI hs)
 | @sl size xs a cap S us vs ty F hS row hl hr hF hd ih =>
  intro S' hh hSS
  exact .sl us vs ty F (hSS _ hS) ⟨by rw [hh _ hS]; exact row.heap,row.spot,row.le,row.max,row.fit,row.len,row.cells,row.one⟩ hl (fun k c hk=>ih k c hk (fun b hb=>hh b (hF k b hb).1) (fun b hb=>hb))
   (fun k b hb=>⟨hSS b (hF k b hb).1,(hF k b hb).2⟩) hd
 | @buf s e v S h hS =>
  intro S' hh hSS
  exact .buf (h.moved (fun b hb=>hh b (hS b hb))) (fun b hb=>hSS b (hS b hb))
 | @agg cs vs S F hl h1 hr hF hd ih =>
  intro S' hh hSS
  exact .agg F hl h1 (fun k c hk=>ih k c hk (fun b hb=>hh b (hF k b hb)) (fun b hb=>hb)) (fun k b hb=>hSS b (hF k b hb)) hd
 | @tup cs vs S F hl hr hF hd ih =>
  intro S' hh hSS
  exact .tup F hl (fun k c hk=>ih k c hk (fun b hb=>hh b (hF k b hb)) (fun b hb=>hb)) (fun k b hb=>hSS b (hF k b hb)) hd
theorem al.mono {w:World} {I:Nat->Prop} {x:TV} {v:Value} {S S':Nat->Prop} (h:al w I x v S) (hS:∀ b,S b->S' b):al w I x v S' :=
 h.mv (fun _ _=>rfl) (fun _ h=>h) (fun _ _=>rfl) hS
theorem bC {w:World} {I:Nat->Prop} {v u:Value} (h:Rep w I (.lit v) u):u=v:=by cases h; rfl
theorem aY {w:World} {I:Nat->Prop} {v u:Value} {S:Nat->Prop} (h:al w I (.lit v) u S):u=v:=by cases h with | fr h=>exact bC h
theorem CO {w:World} {I:Nat->Prop} {s:Nat} {xs:List (List TV)} {u:Value} {S:Nat->Prop} (h:al w I (.sl false s xs) u S):Rep w I (.sl false s xs) u:=by cases h with | fr h=>exact h
theorem rk {w:World} {I:Nat->Prop} {o:Bool} {s:Nat} {xs:List (List TV)} {u:Value} {S:Nat->Prop} (h:al w I (.sl o s xs) u S):∃ a cap,u=.slice (some a) xs.length cap:=by
 cases h with
 | fr h=>cases h; exact ⟨_,_,rfl⟩
 | sl=>exact ⟨_,_,rfl⟩
theorem fO {w:World} {I:Nat->Prop} {x:TV} {u:Value} {S:Nat->Prop} (h:al w I x u S) (hx:x.isSl=true):∃ a n cap,u=.slice a n cap:=by
 cases x with
 | lit v =>
  have:=aY h
  subst this
  cases u <;> simp [TV.isSl,aC] at hx ⊢
 | sl o s xs=>obtain ⟨a,cap,rfl⟩:=rk h; exact ⟨_,_,_,rfl⟩
 | _=>simp [TV.isSl] at hx
theorem rB {v:Value} (h:scV v=true):v.oneCell'=true:=by cases v <;> first | rfl | simp [scV] at h
theorem eP {w:World} {I:Nat->Prop} {x:TV} {u:Value} {S:Nat->Prop} (h:al w I x u S) (hx:x.isSc=true):x=.lit u/\scV u=true:=by
 cases x with
 | lit v =>
  have:=aY h
  subst this
  exact ⟨rfl,hx⟩
 | _=>simp [TV.isSc] at hx
theorem Er {w:World} {I:Nat->Prop} {x:TV} {u:Value} {S:Nat->Prop} (h:al w I x u S):Rep w I x.lf u:=by
 cases x with
 | lit v=>have:=aY h; subst this; exact .lit _
 | _=>exact .hole _
theorem m9:∀ l:List TV,o9 l=l.map frz
 | []=>rfl
 | x :: l=>by simp [o9,m9 l]
theorem gX:∀ l:List (List TV),sv l=l.map fun x=>x.map frz
 | []=>rfl
 | x :: l=>by simp [sv,gX l,m9]
theorem D1:∀ l:List TV,lfL l=l.map TV.lf
 | []=>rfl
 | x :: l=>by simp [lfL,D1 l]
theorem zX:∀ l:List (List TV),qk l=l.map fun x=>x.map TV.lf
 | []=>rfl
 | x :: l=>by simp [qk,zX l,D1]
theorem Rep.frz {w:World} {I:Nat->Prop} {x:TV} {v:Value} (h:Rep w I x v):Rep w I (frz x) v:=by
 induction h with
 | lit v=>exact .lit v
 | hole v=>exact .hole v
 | buf e h=>exact .hole _
 | @sl size xs a cap cell hI hc hm hl hcell h1 _ ih =>
  simp only [Ab.frz,gX]
  have hlen:(xs.map fun x=>x.map Ab.frz).length=xs.length:=by simp
  have key:Rep w I (.sl false size (xs.map fun x=>x.map Ab.frz)) (.slice (some a) (xs.map fun x=>x.map Ab.frz).length cap):=by
   refine .sl cell (by rw [hlen]; exact hI) (by rw [hlen]; exact hc) hm (fun x hx=>?_) (by rw [hlen]; exact hcell) (by rw [hlen]; exact h1) (fun i y hy j c hj=>?_)
   ·obtain ⟨y,hy,rfl⟩:=List.mem_map.1 hx
    simpa using hl y hy
   ·rw [FK] at hy
    cases hxi:xs[i]? with
    | none=>simp [hxi] at hy
    | some x =>
     simp only [hxi,FR,FG] at hy
     subst hy
     rw [FK] at hj
     cases hxj:x[j]? with
     | none=>simp [hxj] at hj
     | some c' =>
      simp only [hxj,FR,FG] at hj
      subst hj
      exact ih i x hxi j c' hxj
  rwa [hlen] at key
 | @agg cs vs hl h1 _ ih =>
  simp only [Ab.frz,m9]
  refine .agg (by simpa using hl) h1 (fun j c hj=>?_)
  rw [FK] at hj
  cases hxj:cs[j]? with
  | none=>simp [hxj] at hj
  | some c'=>simp only [hxj,FR,FG] at hj; subst hj; exact ih j c' hxj
 | @tup cs vs hl _ ih =>
  simp only [Ab.frz,m9]
  refine .tup (by simpa using hl) (fun j c hj=>?_)
  rw [FK] at hj
  cases hxj:cs[j]? with
  | none=>simp [hxj] at hj
  | some c'=>simp only [hxj,FR,FG] at hj; subst hj; exact ih j c' hxj
theorem al.frz {w:World} {I I':Nat->Prop} (hI:∀ b,I b->I' b) {x:TV} {v:Value} {S:Nat->Prop} (h:al w I x v S):(∀ b,S b->I' b)->Rep w I' (frz x) v:=by
 induction h with
 | fr h=>intro _; exact (h.mv (fun _ _=>rfl) hI).frz
 | buf _ _=>intro _; exact .hole _
 | @sl size xs a cap S us vs ty F hS row hl hr hF hd ih =>
  intro hSI
  simp only [Ab.frz,gX]
  have hlen:(xs.map fun x=>x.map Ab.frz).length=xs.length:=by simp
  have key:Rep w I' (.sl false size (xs.map fun x=>x.map Ab.frz)) (.slice (some a) (xs.map fun x=>x.map Ab.frz).length cap):=by
   refine .sl (fun k=>us.getD k undef) (fun _=>hSI _ hS) (by rw [hlen]; exact row.le) row.max (fun x hx=>?_) (fun k hk=>?_) (fun k hk=>?_) (fun i y hy j c hj=>?_)
   ·obtain ⟨y,hy,rfl⟩:=List.mem_map.1 hx
    simpa using hl y hy
   ·rw [hlen] at hk
    have:k < us.length:=by rw [row.len]; exact hk
    exact row.cell (by simp [FF this])
   ·rw [hlen] at hk
    have:k < us.length:=by rw [row.len]; exact hk
    simp only [FS,FF this,Option.getD_some]
    exact row.one _ (List.getElem_mem this)
   ·rw [FK] at hy
    cases hxi:xs[i]? with
    | none=>simp [hxi] at hy
    | some x =>
     simp only [hxi,FR,FG] at hy
     subst hy
     rw [FK] at hj
     cases hxj:x[j]? with
     | none=>simp [hxj] at hj
     | some c' =>
      simp only [hxj,FR,FG] at hj
      subst hj
      exact ih _ c' (cY hl hxi hxj) (fun b hb=>hSI b (hF _ b hb).1)
  rwa [hlen] at key
 | @agg cs vs S F hl h1 hr hF hd ih =>
  intro hSI
  simp only [Ab.frz,m9]
  refine .agg (by simpa using hl) h1 (fun j c hj=>?_)
  rw [FK] at hj
  cases hxj:cs[j]? with
  | none=>simp [hxj] at hj
  | some c'=>simp only [hxj,FR,FG] at hj; subst hj; exact ih j c' hxj (fun b hb=>hSI b (hF j b hb))
 | @tup cs vs S F hl hr hF hd ih =>
  intro hSI
  simp only [Ab.frz,m9]
  refine .tup (by simpa using hl) (fun j c hj=>?_)
  rw [FK] at hj
  cases hxj:cs[j]? with
  | none=>simp [hxj] at hj
  | some c'=>simp only [hxj,FR,FG] at hj; subst hj; exact ih j c' hxj (fun b hb=>hSI b (hF j b hb))
theorem gK:∀ {l:List TV},cE l=true->∀ x ∈ l,bp x=true
 | [],_,x,hx=>by simp at hx
 | y :: l,h,x,hx=>by
  simp only [cE,FH] at h
  rcases List.mem_cons.1 hx with rfl | hx
  ·exact h.1
  ·exact gK h.2 x hx
theorem q0:∀ {l:List (List TV)},mZ l=true->∀ x ∈ l,cE x=true
 | [],_,x,hx=>by simp at hx
 | y :: l,h,x,hx=>by
  simp only [mZ,FH] at h
  rcases List.mem_cons.1 hx with rfl | hx
  ·exact h.1
  ·exact q0 h.2 x hx
theorem Rep.own {w:World} {I I':Nat->Prop} {x:TV} {v:Value} (h:Rep w I x v):bp x=true->Rep w I' x v:=by
 induction h with
 | lit v=>intro _; exact .lit v
 | hole v=>intro _; exact .hole v
 | buf e h=>intro _; exact .buf e h
 | sl=>intro h; simp [bp] at h
 | @agg cs vs hl h1 _ ih=>intro h; simp only [bp] at h; exact .agg hl h1 (fun j c hj=>ih j c hj (gK h c (FN hj)))
 | @tup cs vs hl _ ih=>intro h; simp only [bp] at h; exact .tup hl (fun j c hj=>ih j c hj (gK h c (FN hj)))
theorem al.own {w:World} {I I':Nat->Prop} {x:TV} {v:Value} {S:Nat->Prop} (h:al w I x v S):bp x=true->al w I' x v S:=by
 induction h with
 | fr h=>intro ho; exact .fr (h.own ho)
 | buf h hS=>intro _; exact .buf h hS
 | @sl size xs a cap S us vs ty F hS row hl hr hF hd ih =>
  intro ho
  simp only [bp,Bool.true_and] at ho
  refine .sl us vs ty F hS row hl (fun k c hk=>ih k c hk ?_) hF hd
  obtain ⟨x,hx,hc⟩:=List.mem_flatten.1 (FN hk)
  exact gK (q0 ho x hx) c hc
 | @agg cs vs S F hl h1 hr hF hd ih=>intro ho; simp only [bp] at ho; exact .agg F hl h1 (fun j c hj=>ih j c hj (gK ho c (FN hj))) hF hd
 | @tup cs vs S F hl hr hF hd ih=>intro ho; simp only [bp] at ho; exact .tup F hl (fun j c hj=>ih j c hj (gK ho c (FN hj))) hF hd
end Go.Ab
end
section
namespace Go.Ab
open Go.RowKit
def TV.nd (x:TV):Option (Nat × Nat):=match x with | .sl _ s xs=>some (s,xs.length) | _=>none
def Node (w:World):Way->TV->Value->Value->Option (Nat × Nat)->Prop
 | [],x,u,v,nd=>v=u/\nd=x.nd
 | (k,j) :: p,x,u,v,nd=>∃ o s xs a n cap e y u',x=.sl o s xs/\u=.slice (some a) n cap/\xs[k]? = some e/\e[j]? = some y/\w.cell? (a.add (k * s + j))=some u'/\Node w p y u' v nd
section
variable {w w':World} {I I':Nat->Prop} {x y:TV} {u v:Value} {S:Nat->Prop}
theorem getD_some {l:List Value} {k:Nat} {u:Value} (h:l[k]? = some u):l.getD k undef=u:=by simp [h]
theorem al.child {o:Bool} {s:Nat} {xs:List (List TV)} (h:al w I (.sl o s xs) u S) {k j:Nat} {e:List TV} {y:TV} (hk:xs[k]? = some e) (hj:e[j]? = some y) :
  ∃ a cap u' S',u=.slice (some a) xs.length cap/\w.cell? (a.add (k * s + j))=some u'/\u'.oneCell'=true/\al w I y u' S'/\(∀ b,S' b->S b)/\(S a.block\/I a.block)/\e.length=s:=by
 have hlt:k < xs.length:=(FE.1 hk).1
 cases h with
 | fr h =>
  cases h with
  | @sl _ _ a cap cell hI hc hm hl hcell h1 hr =>
   have hel:=hl e (FN hk)
   have hf:k * s + j < xs.length * s:=by
    have hj':=(FE.1 hj).1
    have:=Nat.mul_le_mul_right s (Nat.succ_le_of_lt hlt)
    rw [Nat.succ_mul] at this
    omega
   exact ⟨a,cap,_,fun _=>False,rfl,hcell _ hf,h1 _ hf,.fr (hr k e hk j y hj),fun _ h=>h.elim,.inr (hI (by omega)),hel⟩
 | @sl _ _ a cap S us vs ty F hS row hl hr hF hd =>
  have hel:=hl e (FN hk)
  have hfg:=cY hl hk hj
  have hlt2:k * s + j < us.length:=by
   rw [row.len,<- bU hl]
   exact (FE.1 hfg).1
  have hu:=FF hlt2
  refine ⟨a,cap,us[k * s + j],F (k * s + j),rfl,row.cell hu,row.one _ (List.getElem_mem hlt2),?_,fun b hb=>(hF _ b hb).1,.inl hS,hel⟩
  have:=hr _ _ hfg
  rwa [getD_some hu] at this
theorem Node.mv:∀ {p:Way} {x:TV} {u v:Value} {nd:Option (Nat × Nat)} {S:Nat->Prop},al w I x u S->(∀ b,I b->w'.heap[b]? = w.heap[b]?)->(∀ b,S b->w'.heap[b]? = w.heap[b]?)->Node w p x u v nd->Node w' p x u v nd
 | [],x,u,v,nd,S,_,_,_,h=>h
 | (k,j) :: p,x,u,v,nd,S,hr,hI,hS,⟨o,s,xs,a,n,cap,e,y,u',hx,hu,he,hy,hc,h⟩=>by
  subst hx
  obtain ⟨a',cap',u2,S',h1,h2,h3,h4,h5,h6,h7⟩:=hr.child he hy
  rw [hu] at h1
  cases h1
  rw [hc] at h2
  cases h2
  refine ⟨o,s,xs,a,_,_,e,y,u',rfl,hu,he,hy,?_,Node.mv h4 hI (fun b hb=>hS b (h5 b hb)) h⟩
  rw [<- hc]
  refine World.cell?_of_block ?_
  rw [eN]
  rcases h6 with h6 | h6
  ·exact hS _ h6
  ·exact hI _ h6
theorem al.get:∀ {p:Way} {x y:TV} {u:Value} {S:Nat->Prop},al w I x u S->aN p x=some y->∃ v S',Node w p x u v y.nd/\al w I y v S'/\(∀ b,S' b->S b)/\(p≠[]->v.oneCell'=true)
 | [],x,y,u,S,hr,h=>by
  simp only [aN,FG] at h
  subst h
  exact ⟨u,S,⟨rfl,rfl⟩,hr,fun _ h=>h,fun h=>absurd rfl h⟩
 | (k, j) :: p, x, y, u, S, hr, h => by
  cases x with
  | sl o s xs =>
   simp only [aN] at h
   cases he:xs[k]? with
   | none=>simp [he] at h
   | some e =>
    simp only [he] at h
    cases hz:e[j]? with
    | none=>simp [hz] at h
    | some z =>
     simp only [hz] at h
     obtain ⟨a,cap,u',S1,h1,h2,h3,h4,h5,h6,h7⟩:=hr.child he hz
     obtain ⟨v,S2,n1,n2,n3,n4⟩:=al.get h4 h
     refine ⟨v,S2,⟨o,s,xs,a,_,cap,e,z,u',rfl,h1,he,hz,h2,n1⟩,n2,fun b hb=>h5 b (n3 b hb),fun _=>?_⟩
     cases p with
     | nil=>rw [n1.1]; exact h3
     | cons=>exact n4 (by simp)
  | _=>simp [aN] at h
theorem Node.unique:∀ {p:Way} {x:TV} {u v v':Value} {nd nd':Option (Nat × Nat)},Node w p x u v nd->Node w p x u v' nd'->v=v'/\nd=nd'
 | [],x,u,v,v',nd,nd',h,h'=>⟨h.1.trans h'.1.symm,h.2.trans h'.2.symm⟩
 | (k,j) :: p,x,u,v,v',nd,nd',⟨o,s,xs,a,n,cap,e,y,u',hx,hu,he,hy,hc,h⟩,⟨o2,s2,xs2,a2,n2,cap2,e2,y2,u2,hx2,hu2,he2,hy2,hc2,h2⟩=>by
  subst hx
  cases hx2
  subst hu
  cases hu2
  rw [he] at he2
  cases he2
  rw [hy] at hy2
  cases hy2
  rw [hc] at hc2
  cases hc2
  exact Node.unique h h2
theorem al.sub : ∀ {p : Way} {x y : TV} {u : Value} {S : Nat → Prop}, al w I x u S → aN p x = some y →
  ∃ v Sy, al w I y v Sy ∧ (∀ b, Sy b → S b) ∧ Node w p x u v y.nd ∧ (p ≠ [] → v.oneCell' = true) ∧
   ∀ (w':World) (I':Nat->Prop) (y' x':TV) (S':Nat->Prop),fD p x y'=some x'->(∀ b,I b->w'.heap[b]? = w.heap[b]?)->(∀ b,I b->I' b)->(∀ b,S b->¬ Sy b->w'.heap[b]? = w.heap[b]?) ->
    al w' I' y' v S'->(∀ b,S' b->S b->Sy b)->al w' I' x' u (fun b=>(S b/\¬ Sy b)\/S' b) /\
    ∀ (q:Way) (v':Value) (nd:Option (Nat × Nat)),(∀ q',q=p ++ q'->Node w q' y v v' nd->Node w' q' y' v v' nd)->Node w q x u v' nd->Node w' q x' u v' nd
 | [],x,y,u,S,hr,h=>by
  simp only [Ab.aN,FG] at h
  subst h
  refine ⟨u,S,hr,fun _ h=>h,⟨rfl,rfl⟩,fun h=>absurd rfl h,?_⟩
  intro w' I' y' x' S' hs hI hII hh hr' hd
  simp only [fD,FG] at hs
  subst hs
  exact ⟨hr'.mono (fun b hb=>.inr hb),fun q v' nd hq hn=>hq q rfl hn⟩
 | (k, j) :: p, x, y, u, S, hr, h => by
  cases x with
  | sl o s xs =>
   simp only [Ab.aN] at h
   cases he:xs[k]? with
   | none=>simp [he] at h
   | some e =>
    simp only [he] at h
    cases hz:e[j]? with
    | none=>simp [hz] at h
    | some z =>
     simp only [hz] at h
     cases o with
     | false =>
      obtain ⟨v,S',n1,n2,n3,n4⟩:=al.get (p:=(k,j) :: p) (y:=y) hr (by simp only [Ab.aN,he,hz,h])
      refine ⟨v,S',n2,n3,n1,n4,?_⟩
      intro w' I' y' x' S2 hs
      simp [fD] at hs
     | true =>
      cases hr with
      | fr h=>cases h
      | @sl _ _ a cap S us vs ty F hS row hl hr hF hd =>
       have hel:=hl e (FN he)
       have hjl:j < e.length:=(FE.1 hz).1
       have hfg:=cY hl he hz
       have hlt2:k * s + j < us.length:=by
        rw [row.len,<- bU hl]
        exact (FE.1 hfg).1
       have hu:=FF hlt2
       have hrz:=hr _ _ hfg
       rw [getD_some hu] at hrz
       obtain ⟨v,Sy,m1,m2,m3,m4,m5⟩:=al.sub hrz h
       have hSyF:∀ b,Sy b->F (k * s + j) b:=m2
       refine ⟨v,Sy,m1,fun b hb=>(hF _ b (m2 b hb)).1,⟨true,s,xs,a,_,cap,e,z,us[k * s + j],rfl,rfl,he,hz,row.cell hu,m3⟩,fun _=>?_,?_⟩
       ·cases p with
        | nil=>rw [m3.1]; exact row.one _ (List.getElem_mem hlt2)
        | cons=>exact m4 (by simp)
       intro w' I' y' x' S' hs hI hII hh hr' hdis
       simp only [fD,he,hz] at hs
       cases hz':fD p z y' with
       | none=>simp [hz'] at hs
       | some z' =>
        simp only [hz',FG,ah] at hs
        subst hs
        have hablk:¬ Sy a.block:=fun hb=>(hF _ _ (m2 _ hb)).2 rfl
        obtain ⟨r1,r2⟩:=m5 w' I' y' z' S' hz' hI hII (fun b hb hn=>hh b (hF _ b hb).1 hn) hr' (fun b hb hb2=>hdis b hb (hF _ b hb2).1)
        have hset:e.set j z'=spl e j [z']:=by
         apply List.ext_getElem?
         intro m
         rw [bH (by simp; omega),List.getElem?_set]
         by_cases hjm:j=m
         ·subst hjm; simp [hjl]
         ·rw [if_neg hjm,if_neg (by simp; omega)]
        obtain ⟨f1,f2⟩:=wX (ys:=[z']) hl he (by simp; omega:j + [z'].length<=e.length)
        have hlen:(xs.set k (e.set j z')).length=xs.length:=by simp
        have hrow:Row w' a (xs.set k (e.set j z')).length cap s us vs ty:=by
         rw [hlen]
         exact ⟨by rw [hh _ hS hablk]; exact row.heap,row.spot,row.le,row.max,row.fit,row.len,row.cells,row.one⟩
        have hother:∀ m c,m≠k * s + j->xs.flatten[m]? = some c->al w' I' c (us.getD m undef) (F m):=fun m c hm hc =>
         (hr m c hc).mv hI hII (fun b hb=>hh b (hF m b hb).1 (fun hs=>hm (hd m _ b hb (m2 b hs)))) (fun _ h=>h)
        constructor
        ·have key:al w' I' (.sl true s (xs.set k (e.set j z'))) (.slice (some a) (xs.set k (e.set j z')).length cap) (fun b=>(S b/\¬ Sy b)\/S' b):=by
          refine .sl us vs ty (fun m b=>if m=k * s + j then (F (k * s + j) b/\¬ Sy b)\/S' b else F m b) (.inl ⟨hS,hablk⟩) hrow (AP hl (by simp [hel])) (fun m c hc=>?_) (fun m b hb=>?_) (fun m m' b hb hb'=>?_)
          ·rw [hset,f1,bH f2] at hc
           by_cases hm:m=k * s + j
           ·subst hm
            simp only [List.length_singleton,Nat.sub_self] at hc
            rw [if_pos (by omega)] at hc
            simp only [List.getElem?_cons_zero,FG] at hc
            subst hc
            simp only [if_true]
            rw [getD_some hu]
            exact r1
           ·rw [if_neg (by simp only [List.length_singleton]; omega)] at hc
            simp only [hm,if_false]
            exact hother m c hm hc
          ·by_cases hm:m=k * s + j
           ·subst hm
            simp only [if_true] at hb
            rcases hb with ⟨h1,h2⟩ | h1
            ·exact ⟨.inl ⟨(hF _ b h1).1,h2⟩,(hF _ b h1).2⟩
            ·exact ⟨.inr h1,fun e=>by subst e; exact hablk (hdis _ h1 hS)⟩
           ·simp only [hm,if_false] at hb
            exact ⟨.inl ⟨(hF _ b hb).1,fun hs=>hm (hd _ _ b hb (m2 b hs))⟩,(hF _ b hb).2⟩
          ·by_cases hm:m=k * s + j <;> by_cases hm':m'=k * s + j
           ·rw [hm,hm']
           ·simp only [hm,hm',if_true,if_false] at hb hb'
            rcases hb with ⟨h1,h2⟩ | h1
            ·exact hm ▸ hd _ _ b h1 hb'
            ·exact hm ▸ hd _ _ b (m2 b (hdis b h1 (hF _ b hb').1)) hb'
           ·simp only [hm,hm',if_true,if_false] at hb hb'
            rcases hb' with ⟨h1,h2⟩ | h1
            ·exact hm' ▸ hd _ _ b hb h1
            ·exact hm' ▸ hd _ _ b hb (m2 b (hdis b h1 (hF _ b hb).1))
           ·simp only [hm,hm',if_false] at hb hb'
            exact hd _ _ b hb hb'
         rwa [hlen] at key
        ·intro q v' nd hq hn
         cases q with
         | nil =>
          obtain ⟨e1,e2⟩:=hn
          exact ⟨e1,by rw [e2]; simp [TV.nd]⟩
         | cons kj q =>
          obtain ⟨k1,j1⟩:=kj
          obtain ⟨o2,s2,xs2,a2,n2,cap2,e2,y2,u2,hx2,hu2,he2,hy2,hc2,hn2⟩:=hn
          cases hx2
          cases hu2
          have hblk:∀ m,w'.cell? (a.add m)=w.cell? (a.add m):=fun m=>World.cell?_of_block (by rw [eN]; exact hh _ hS hablk)
          by_cases hk1:k1=k
          ·subst hk1
           rw [he] at he2
           cases he2
           have hk2:k1 < xs.length:=(FE.1 he).1
           by_cases hj1:j1=j
           ·subst hj1
            rw [hz] at hy2
            cases hy2
            have:u2=us[k1 * s + j1]:=by rw [row.cell hu] at hc2; exact (Option.some.inj hc2).symm
            subst this
            refine ⟨true,s,_,a,_,cap,e.set j1 z',z',us[k1 * s + j1],rfl,rfl,by rw [List.getElem?_set_self hk2],by rw [List.getElem?_set_self hjl],by rw [hblk]; exact hc2,?_⟩
            exact r2 q v' nd (fun q' hq'=>hq q' (by rw [hq']; rfl)) hn2
           ·refine ⟨true,s,_,a,_,cap,e.set j z',y2,u2,rfl,rfl,by rw [List.getElem?_set_self hk2],by rw [List.getElem?_set_ne (fun h=>hj1 h.symm)]; exact hy2,by rw [hblk]; exact hc2,?_⟩
            have hfg2:=cY hl he hy2
            have hm:k1 * s + j1≠k1 * s + j:=by omega
            have hr2:=hr _ _ hfg2
            have hlt3:k1 * s + j1 < us.length:=by rw [row.len,<- bU hl]; exact (FE.1 hfg2).1
            rw [getD_some (FF hlt3)] at hr2
            have:u2=us[k1 * s + j1]:=by rw [row.cell (FF hlt3)] at hc2; exact (Option.some.inj hc2).symm
            subst this
            exact Node.mv hr2 hI (fun b hb=>hh b (hF _ b hb).1 (fun hs=>hm (hd _ _ b hb (m2 b hs)))) hn2
          ·refine ⟨true,s,_,a,_,cap,e2,y2,u2,rfl,rfl,by rw [List.getElem?_set_ne (fun h=>hk1 h.symm)]; exact he2,hy2,by rw [hblk]; exact hc2,?_⟩
           have hfg2:=cY hl he2 hy2
           have hel2:=hl e2 (FN he2)
           have hj2:j1 < e2.length:=(FE.1 hy2).1
           have hm:k1 * s + j1≠k * s + j:=by
            intro heq
            rcases Nat.lt_or_gt_of_ne hk1 with h' | h'
            ·have:=Nat.mul_le_mul_right s (Nat.succ_le_of_lt h')
             rw [Nat.succ_mul] at this
             omega
            ·have:=Nat.mul_le_mul_right s (Nat.succ_le_of_lt h')
             rw [Nat.succ_mul] at this
             omega
           have hr2:=hr _ _ hfg2
           have hlt3:k1 * s + j1 < us.length:=by rw [row.len,<- bU hl]; exact (FE.1 hfg2).1
           rw [getD_some (FF hlt3)] at hr2
           have:u2=us[k1 * s + j1]:=by rw [row.cell (FF hlt3)] at hc2; exact (Option.some.inj hc2).symm
           subst this
           exact Node.mv hr2 hI (fun b hb=>hh b (hF _ b hb).1 (fun hs=>hm (hd _ _ b hb (m2 b hs)))) hn2
  | _=>simp [Ab.aN] at h
end
end Go.Ab
end
section
namespace Go.Ab
open Go.RowKit
section
variable {P:Program} {w w':World} {I I':Nat->Prop} {x y:TV} {u v:Value} {S:Nat->Prop}
theorem zr {s k j k' j':Nat} (hj:j < s) (hj':j' < s) (h:k * s + j=k' * s + j'):k=k'/\j=j':=by
 have h1:k=k':=by
  rcases Nat.lt_trichotomy k k' with h2 | h2 | h2
  ·have:=Nat.mul_le_mul_right s (Nat.succ_le_of_lt h2)
   rw [Nat.succ_mul] at this
   omega
  ·exact h2
  ·have:=Nat.mul_le_mul_right s (Nat.succ_le_of_lt h2)
   rw [Nat.succ_mul] at this
   omega
 subst h1
 exact ⟨rfl,by omega⟩
theorem nZ {α:Type} {s:Nat} {xs:List (List α)} (h:∀ x ∈ xs,x.length=s) {k j:Nat} (hk:k < xs.length) (hj:j < s):∃ e c,xs[k]? = some e/\e[j]? = some c/\xs.flatten[k * s + j]? = some c:=by
 have hel:=h xs[k] (List.getElem_mem hk)
 have hje:j < xs[k].length:=by omega
 exact ⟨xs[k],xs[k][j],FF hk,FF hje,cY h (FF hk) (FF hje)⟩
theorem oT (a:Addr) (h:a.spot=none) (k:Nat):a.add k=⟨a.block,a.off + k,none⟩:=by
 obtain ⟨b,o,sp⟩:=a
 simp at h
 subst h
 exact dT b o k
theorem al.write {s:Nat} {xs:List (List TV)} (h:al w I (.sl true s xs) v S) (hnI:∀ b,S b->¬ I b):∃ a cap vs ty us,v=.slice (some a) xs.length cap/\S a.block/\Row w a xs.length cap s us vs ty /\
  ∀ (o:Nat) (ys:List TV) (us':List Value) (T:Nat->Nat->Prop) (w':World) (xs':List (List TV)),o + ys.length<=xs.flatten.length->us'.length=ys.length->(∀ u ∈ us',u.oneCell'=true) ->
   (∀ (m:Nat) (c:TV),ys[m]? = some c->al w I c (us'.getD m undef) (T m))->(∀ m b,T m b->¬ S b)->(∀ m m' b,T m b->T m' b->m=m') ->
   w'.heap[a.block]? = some (.cells (spl vs.toList (a.off + o) us').toArray ty (0,0))->(∀ b,b≠a.block->w'.heap[b]? = w.heap[b]?)->xs'.length=xs.length->(∀ x ∈ xs',x.length=s)->xs'.flatten=spl xs.flatten o ys ->
   al w' I (.sl true s xs') v (fun b=>S b\/∃ m,T m b) /\
   ∀ (q:Way) (v':Value) (nd:Option (Nat × Nat)),(∀ k1 j1 q1,q=(k1,j1) :: q1->¬ (o<=k1 * s + j1/\k1 * s + j1 < o + ys.length))->Node w q (.sl true s xs) v v' nd->Node w' q (.sl true s xs') v v' nd:=by
 cases h with
 | fr h=>cases h
 | @sl _ _ a cap S us vs ty F hS row hl hr hF hd =>
  refine ⟨a,cap,vs,ty,us,rfl,hS,row,?_⟩
  intro o ys us' T w' xs' ho hul h1 hy hT hTd hheap hoth hxl hxa hxf
  have hfl:=bU hl
  have hus:us.length=xs.flatten.length:=by rw [row.len,hfl]
  have hnIa:=hnI _ hS
  have hI:∀ b,I b->w'.heap[b]? = w.heap[b]? := fun b hb=>hoth b (fun e=>hnIa (e ▸ hb))
  have hfit:a.off + o + us'.length<=vs.toList.length:=by
   have:=row.fit
   have h2:xs.length * s<=cap * s:=Nat.mul_le_mul_right _ row.le
   simp only [Array.length_toList]
   omega
  have hsl:o + us'.length<=us.length:=by omega
  have hrow:Row w' a xs'.length cap s (spl us o us') (spl vs.toList (a.off + o) us').toArray ty:=by
   rw [hxl]
   refine ⟨hheap,row.spot,row.le,row.max,by rw [List.size_toArray,fg hfit]; exact row.fit,by rw [fg hsl]; exact row.len,fun k hk=>?_,fun u hu=>?_⟩
   ·rw [List.getElem?_toArray,bH hfit,bH hsl]
    by_cases hc:o<=k/\k < o + us'.length
    ·rw [if_pos hc,if_pos (by omega)]
     congr 1
     omega
    ·rw [if_neg hc,if_neg (by omega),FI]
     exact row.cells k hk
   ·obtain ⟨m,hm⟩:=List.mem_iff_getElem?.1 hu
    rw [bH hsl] at hm
    split at hm
    ·exact h1 u (FN hm)
    ·exact row.one u (FN hm)
  constructor
  ·have key:al w' I (.sl true s xs') (.slice (some a) xs'.length cap) (fun b=>S b\/∃ m,T m b):=by
    refine .sl (spl us o us') _ ty (fun k b=>if o<=k/\k < o + ys.length then T (k - o) b else F k b) (.inl hS) hrow hxa (fun k c hc=>?_) (fun k b hb=>?_) (fun k k' b hb hb'=>?_)
    ·rw [hxf,bH ho] at hc
     have hg:(spl us o us').getD k undef=if o<=k/\k < o + ys.length then us'.getD (k - o) undef else us.getD k undef:=by
      simp only [FS,bH hsl,hul]
      split <;> rfl
     rw [hg]
     by_cases hk:o<=k/\k < o + ys.length
     ·rw [if_pos hk] at hc ⊢
      simp only [hk,and_self,if_true]
      exact (hy _ c hc).mv hI (fun _ h=>h) (fun b hb=>hoth b (fun e=>hT _ b hb (e ▸ hS))) (fun _ h=>h)
     ·rw [if_neg hk] at hc ⊢
      simp only [hk,if_false]
      exact (hr k c hc).mv hI (fun _ h=>h) (fun b hb=>hoth b (hF k b hb).2) (fun _ h=>h)
    ·by_cases hk:o<=k/\k < o + ys.length
     ·simp only [hk,and_self,if_true] at hb
      exact ⟨.inr ⟨_,hb⟩,fun e=>hT _ b hb (e ▸ hS)⟩
     ·simp only [hk,if_false] at hb
      exact ⟨.inl (hF k b hb).1,(hF k b hb).2⟩
    ·by_cases hk:o<=k/\k < o + ys.length <;> by_cases hk':o<=k'/\k' < o + ys.length
     ·simp only [hk,hk',and_self,if_true] at hb hb'
      have:=hTd _ _ b hb hb'
      omega
     ·simp only [hk,hk',and_self,if_true,if_false] at hb hb'
      exact absurd (hF k' b hb').1 (hT _ b hb)
     ·simp only [hk,hk',and_self,if_true,if_false] at hb hb'
      exact absurd (hF k b hb).1 (hT _ b hb')
     ·simp only [hk,hk',if_false] at hb hb'
      exact hd _ _ b hb hb'
   rwa [hxl] at key
  ·intro q v' nd hq hn
   cases q with
   | nil=>exact ⟨hn.1,by rw [hn.2]; simp [TV.nd,hxl]⟩
   | cons kj q =>
    obtain ⟨k1,j1⟩:=kj
    obtain ⟨o2,s2,xs2,a2,n2,cap2,e2,y2,u2,hx2,hu2,he2,hy2,hc2,hn2⟩:=hn
    cases hx2
    cases hu2
    have hel2:=hl e2 (FN he2)
    have hj2:j1 < s:=by have:=(FE.1 hy2).1; omega
    have hk2:k1 < xs'.length:=by rw [hxl]; exact (FE.1 he2).1
    have hnot:=hq k1 j1 q rfl
    have hfg:=cY hl he2 hy2
    obtain ⟨e3,c3,g1,g2,g3⟩:=nZ hxa hk2 hj2
    rw [hxf,bH ho,if_neg hnot,hfg] at g3
    cases g3
    have hltu:k1 * s + j1 < us.length:=by rw [hus]; exact (FE.1 hfg).1
    have hug:=FF hltu
    have:u2=us[k1 * s + j1]:=by rw [row.cell hug] at hc2; exact (Option.some.inj hc2).symm
    subst this
    refine ⟨true,s,xs',a,_,cap,e3,y2,us[k1 * s + j1],rfl,rfl,g1,g2,hrow.cell ?_,?_⟩
    ·rw [bH hsl,if_neg (by omega)]; exact hug
    ·have hr2:=hr _ _ hfg
     rw [getD_some hug] at hr2
     exact Node.mv hr2 hI (fun b hb=>hoth b (hF _ b hb).2) hn2
def cut (s lo len:Nat):Value->Value
 | .slice (some a) n cap=>.slice (some (if cap=lo then a else a.add (lo * s))) len (cap - lo)
 | v=>v
def szOf:TV->Nat
 | .sl _ s _=>s
 | _=>0
theorem al.win {lo len : Nat} (h : al w I x v S) (hx : eY lo len x = some y) : al w I y (cut (szOf x) lo len v) S := by
 unfold eY at hx
 split at hx
 ·rename_i o s xs
  split at hx
  ·rename_i hc
   simp only [FG] at hx
   subst hx
   have hlen:((xs.drop lo).take len).length=len:=by simp; omega
   have hall:∀ (hl:∀ x ∈ xs,x.length=s),∀ x ∈ (xs.drop lo).take len,x.length=s:=fun hl x hx=>hl x (List.mem_of_mem_drop (List.mem_of_mem_take hx))
   cases h with
   | fr h =>
    cases h with
    | @sl _ _ a cap cell hI hcap hm hl hcell h1 hr =>
     simp only [cut,szOf]
     by_cases h0:len=0
     ·subst h0
      have key:Rep w I (.sl false s ((xs.drop lo).take 0)) (.slice (some (if cap=lo then a else a.add (lo * s))) ((xs.drop lo).take 0).length (cap - lo)) :=
       .sl cell (by simp) (by simp) (by omega) (by simp) (by simp) (by simp) (by simp)
      rw [hlen] at key
      exact .fr key
     ·have hne:cap≠lo:=by omega
      rw [if_neg hne]
      have hlt:∀ k,k < len * s->lo * s + k < xs.length * s:=fun k hk=>by
       have:=Nat.mul_le_mul_right s hc
       rw [Nat.add_mul] at this
       omega
      have key:Rep w I (.sl false s ((xs.drop lo).take len)) (.slice (some (a.add (lo * s))) ((xs.drop lo).take len).length (cap - lo)):=by
       refine .sl (fun k=>cell (lo * s + k)) (fun _=>by rw [eN]; exact hI (by omega)) (by rw [hlen]; omega) (by omega) (hall hl) (fun k hk=>?_) (fun k hk=>?_) (fun i e hi j c hj=>?_)
       ·rw [hlen] at hk
        rw [fc]
        exact hcell _ (hlt k hk)
       ·rw [hlen] at hk
        exact h1 _ (hlt k hk)
       ·have hi':i < len:=by have:=(FE.1 hi).1; omega
        rw [List.getElem?_take_of_lt hi',List.getElem?_drop] at hi
        have:=hr (lo + i) e hi j c hj
        rw [Nat.add_mul,Nat.add_assoc] at this
        exact this
      rw [hlen] at key
      exact .fr key
   | @sl _ _ a cap S us vs ty F hS row hl hr hF hd =>
    simp only [cut,szOf]
    by_cases hcl:cap=lo
    ·have h0:len=0:=by have:=row.le; omega
     subst h0
     rw [if_pos hcl]
     have key:al w I (.sl true s ((xs.drop lo).take 0)) (.slice (some a) ((xs.drop lo).take 0).length (cap - lo)) S:=by
      refine .sl [] vs ty (fun _ _=>False) hS ⟨row.heap,row.spot,by simp,by have:=row.max; omega,by have:=row.fit; rw [hcl]; simp; omega,by simp,by simp,by simp⟩ (by simp) (by simp) (fun _ _ h=>h.elim) (fun _ _ _ h=>h.elim)
     rw [hlen] at key
     exact key
    ·rw [if_neg hcl]
     have hfit:=row.fit
     have hsp:=row.spot
     have hle:=row.le
     have hax:a.add (lo * s)=⟨a.block,a.off + lo * s,none⟩:=oT a hsp _
     have hfl:((xs.drop lo).take len).flatten=(xs.flatten.drop (lo * s)).take (len * s):=by
      rw [mP _ (fun x hx=>hl x (List.mem_of_mem_drop hx)),mV _ hl]
     have hmul:lo * s + len * s<=xs.length * s:=by rw [<- Nat.add_mul]; exact Nat.mul_le_mul_right _ hc
     have key:al w I (.sl true s ((xs.drop lo).take len)) (.slice (some (a.add (lo * s))) ((xs.drop lo).take len).length (cap - lo)) S:=by
      refine .sl ((us.drop (lo * s)).take (len * s)) vs ty (fun k=>F (lo * s + k)) (by rw [eN]; exact hS) ?_ (hall hl) (fun k c hk=>?_) (fun k b hb=>?_) (fun k k' b hb hb'=>?_)
      ·rw [hax,hlen]
       have hcm:(cap - lo) * s + lo * s=cap * s:=by rw [<- Nat.add_mul]; congr 1; omega
       refine ⟨row.heap,rfl,by omega,by have:=row.max; omega,?_,by simp [row.len]; omega,fun k hk=>?_,fun u hu=>row.one u (List.mem_of_mem_drop (List.mem_of_mem_take hu))⟩
       ·show a.off + lo * s + (cap - lo) * s<=vs.size
        omega
       ·show vs[a.off + lo * s + k]? = _
        rw [List.getElem?_take_of_lt hk,List.getElem?_drop,Nat.add_assoc]
        exact row.cells _ (by omega)
      ·rw [hfl] at hk
       have hk':k < len * s:=by
        have:=(FE.1 hk).1
        simp at this
        omega
       rw [List.getElem?_take_of_lt hk',List.getElem?_drop] at hk
       have:=hr _ c hk
       simp only [FS] at this ⊢
       rw [List.getElem?_take_of_lt hk',List.getElem?_drop]
       exact this
      ·rw [eN]; exact hF _ b hb
      ·have:=hd _ _ b hb hb'
       omega
     rw [hlen] at key
     exact key
  ·cases hx
 ·split at hx
  ·simp only [FG] at hx
   subst hx
   have:=aY h
   subst this
   exact .fr (.lit _)
  ·cases hx
 ·cases hx
structure Src (w:World) (I:Nat->Prop) (s:Nat) (xs:List (List TV)) (v:Value) (us:List Value) (F:Nat->Nat->Prop):Prop where
 len:us.length=xs.length * s
 all:∀ x ∈ xs,x.length=s
 one:∀ u ∈ us,u.oneCell'=true
 form:∃ A c,v=.slice A xs.length c/\(A=none->xs=[])/\∀ ad,A=some ad->∀ (j:Nat) (u:Value),us[j]? = some u->w.cell? (ad.add j)=some u
 rep:∀ (k:Nat) (c:TV),xs.flatten[k]? = some c->al w I c (us.getD k undef) (F k)
 apart:∀ k k' b,F k b->F k' b->k=k'
theorem Src.of {s:Nat} {xs:List (List TV)} (h:al w I x v S) (hp:pelems s x=some xs):∃ us F,Src w I s xs v us F/\(∀ k b,F k b->S b)/\∀ k,xs=[]->k < us.length->False:=by
 unfold pelems at hp
 split at hp
 ·simp only [FG] at hp
  subst hp
  have:=aY h
  subst this
  exact ⟨[],fun _ _=>False,⟨by simp,by simp,by simp,⟨none,_,rfl,fun _=>rfl,fun ad h=>by cases h⟩,by simp,fun _ _ _ h=>h.elim⟩,fun _ _ h=>h.elim,fun _ _ h=>by simp at h⟩
 ·rename_i o s' xs'
  split at hp
  ·rename_i hs
   subst hs
   simp only [FG] at hp
   subst hp
   cases h with
   | fr h =>
    cases h with
    | @sl _ _ a cap cell hI hcap hm hl hcell h1 hr =>
     have hg:∀ k,k < xs'.length * s'->((List.range (xs'.length * s')).map cell)[k]? = some (cell k):=fun k hk=>by simp [hk]
     refine ⟨(List.range (xs'.length * s')).map cell,fun _ _=>False,⟨by simp,hl,fun u hu=>?_,⟨some a,cap,rfl,by simp,fun ad he j u hu=>?_⟩,fun k c hc=>?_,fun _ _ _ h=>h.elim⟩,fun _ _ h=>h.elim,fun k h1 h2=>by subst h1; simp at h2⟩
     ·obtain ⟨k,hk,rfl⟩:=List.mem_map.1 hu
      exact h1 k (by simpa using hk)
     ·cases he
      have hj:j < xs'.length * s':=by have:=(FE.1 hu).1; simpa using this
      rw [hg j hj] at hu
      cases hu
      exact hcell j hj
     ·have hk:k < xs'.length * s':=by rw [<- bU hl]; exact (FE.1 hc).1
      simp only [FS,hg k hk,Option.getD_some]
      have hs0:0 < s':=by
       rcases Nat.eq_zero_or_pos s' with h0 | h0
       ·rw [h0] at hk; omega
       ·exact h0
      have hkd:k / s' < xs'.length:=Nat.div_lt_of_lt_mul (by rw [Nat.mul_comm]; exact hk)
      obtain ⟨e,c',g1,g2,g3⟩:=nZ hl hkd (Nat.mod_lt k hs0)
      rw [Nat.mul_comm,Nat.div_add_mod] at g3
      rw [hc] at g3
      cases g3
      have:=hr _ e g1 _ c g2
      rw [Nat.mul_comm,Nat.div_add_mod] at this
      exact .fr this
   | @sl _ _ a cap S us vs ty F hS row hl hr hF hd =>
    exact ⟨us,F,⟨row.len,hl,row.one,⟨some a,cap,rfl,by simp,fun ad he j u hu=>by cases he; exact row.cell hu⟩,hr,hd⟩,fun k b hb=>(hF k b hb).1,fun k h1 h2=>by subst h1; rw [row.len] at h2; simp at h2⟩
  ·cases hp
 ·cases hp
def Own (w:World) (s:Nat) (v:Value) (n:Nat) (us:List Value):Prop:=(v=aF/\n=0/\us=[])\/∃ a cap vs ty,v=.slice (some a) n cap/\Row w a n cap s us vs ty
structure Grown (w w':World) (s:Nat) (v v':Value) (n:Nat) (us:List Value):Prop where
 form:(v'=v/\v=aF/\n=0/\us=[]/\w'=w)\/∃ a cap vs ty,v'=.slice (some a) n cap/\Row w' a n cap s us vs ty/\((∃ a' n' c',v=.slice (some a') n' c'/\a'.block=a.block)\/a.block=w.heap.size)
 os:w'.os=w.os
 tape:w'.tape=w.tape
 output:w'.output=w.output
 size:w.heap.size<=w'.heap.size
 block:∀ k,k < w.heap.size->(∀ a n c,v=.slice (some a) n c->k≠a.block)->w'.heap[k]? = w.heap[k]?
 keep:n=0->v'=v
theorem zF (t ty e:TypeId) (i:TypeInfo) (z:Value) (ht:P.underlying t=some (.slice e)) (hi:P.info? e=some i) (hz:i.zero=some z) (hzs:z.cells.size=i.size)
  {n:Nat} {us:List Value} (hown:Own w i.size v n us) {A:Option Addr} {m c:Nat} {news:List Value} (hl:news.length=m * i.size) (hA:A=none->m=0) (hnews:∀ ad,A=some ad->∀ j u,news[j]? = some u->w.cell? (ad.add j)=some u)
  (h1:∀ u ∈ news,u.oneCell'=true) (h63:n + m<=maxLen) (hbytes:(n + m) * i.bytes<=140737488355328) :
  ∃ v' w',(Builtin.append_ #[t,t] ty #[v,.slice A m c]).run P w=.ok v' w'/\Grown w w' i.size v v' (n + m) (us ++ news):=by
 have hsmall:n + m<=9223372036854775807:=by simp only [maxLen] at h63; omega
 have hul:us.length=n * i.size:=by
  rcases hown with ⟨_,h0,h1⟩ | ⟨a,cap,vs,ty,_,hr⟩
  ·rw [h0,h1]; simp
  ·exact hr.len
 have hu1:∀ u ∈ us,u.oneCell'=true:=by
  rcases hown with ⟨_,h0,h1⟩ | ⟨a,cap,vs,ty,_,hr⟩
  ·rw [h1]; simp
  ·exact hr.one
 by_cases hm:m=0
 ·subst hm
  have hn:news=[]:=List.eq_nil_of_length_eq_zero (by simpa using hl)
  subst hn
  refine ⟨v,w,?_,?_⟩
  ·have hf:(Builtin.firstCells i.size 0 (.slice A 0 c)).run P w=.ok #[] w:=by
    cases A with
    | none=>exact run_firstCells_none w i.size 0 0 c
    | some ad=>exact run_firstCells_some (P:=P) w i.size 0 ad 0 c [] (by simp) (by simp)
   rcases hown with ⟨rfl,h0,h2⟩ | ⟨a,cap,vs,ty',rfl,hr⟩
   ·subst h0
    simp [aF,Builtin.append_,run_underlying ht,sizeOf,typeInfo,hi,Builtin.lenOf,hf]
   ·simp [Builtin.append_,run_underlying ht,sizeOf,typeInfo,hi,Builtin.lenOf,hr.le,hf,storeCells]
  ·rw [Nat.add_zero,List.append_nil]
   refine ⟨?_,rfl,rfl,rfl,Nat.le_refl _,fun _ _ _=>rfl,fun _=>rfl⟩
   rcases hown with ⟨h2,h0,h3⟩ | ⟨a,cap,vs,ty',h2,hr⟩
   ·exact .inl ⟨rfl,h2,h0,h3,rfl⟩
   ·exact .inr ⟨a,cap,vs,ty',h2,hr,.inl ⟨a,n,cap,h2,rfl⟩⟩
 ·obtain ⟨ad,rfl⟩:∃ ad,A=some ad:=by
   cases A with
   | none=>exact absurd (hA rfl) hm
   | some ad=>exact ⟨ad,rfl⟩
  have hnews:=hnews ad rfl
  have hlen:(us ++ news).length=(n + m) * i.size:=by rw [List.length_append,hul,hl,Nat.add_mul]
  have grown:∀ (old:Nat),∃ arr,arr=us.toArray ++ news.toArray ++ Builtin.zeroCells z.cells (grownCap w (n + m) old e - (n + m)) /\
    Row (w.drew.alloc (.cells arr e)) ⟨w.heap.size,0,none⟩ (n + m) (grownCap w (n + m) old e) i.size (us ++ news) arr e:=by
   intro old
   have hge:=grownCap_ge w (n + m) old e
   have hcm:grownCap w (n + m) old e<=maxLen:=grownCap_le_maxLen w (n + m) old e h63
   refine ⟨_,rfl,heap_alloc_new w.drew _,rfl,hge,hcm,?_,hlen,fun k hk=>?_,fun u hu=>?_⟩
   ·simp only [Array.size_append,List.size_toArray,size_zeroCells,hzs,hul,hl,Nat.zero_add,<- Nat.add_mul]
    apply Nat.le_of_eq
    congr 1
    omega
   ·rw [Nat.zero_add,Array.getElem?_append_left (by simp [hul,hl,<- Nat.add_mul]; omega),List.append_toArray,List.getElem?_toArray]
   ·rcases List.mem_append.1 hu with h | h
    ·exact hu1 u h
    ·exact h1 u h
  have gl:∀ (arr:Array Value),(∀ k,k < w.heap.size->(w.drew.alloc (.cells arr e)).heap[k]? = w.heap[k]?):=fun arr k hk=>heap_alloc_old w.drew _ k hk
  rcases hown with ⟨rfl,h0,h2⟩ | ⟨a,cap,vs,ty',rfl,hr⟩
  ·subst h0 h2
   obtain ⟨arr,harr,hrow⟩:=grown 0
   have hrun:=run_append_nil (P:=P) w t ty e i z ht hi hz ad m c news hl hnews (by omega) (by omega) (by have hb:=hbytes; simp only [Nat.zero_add] at hb; omega)
   simp only [Nat.zero_add,List.nil_append,Array.empty_append] at harr hrow ⊢
   rw [<- harr] at hrun
   exact ⟨_,_,hrun,.inr ⟨_,_,arr,e,rfl,hrow,.inr rfl⟩,rfl,rfl,rfl,by simp,fun k hk _=>gl arr k hk,fun h=>absurd h (by omega)⟩
  ·by_cases hroom:n + m<=cap
   ·have hfit:a.off + n * i.size + news.length<=vs.size:=by
     have h3:=hr.fit
     have h4:(n + m) * i.size<=cap * i.size:=Nat.mul_le_mul_right _ hroom
     rw [Nat.add_mul] at h4
     omega
    have hf:=run_firstCells_some (P:=P) w i.size m ad m c news hl hnews
    have hst:=run_storeCells_at P a.block (a.off + n * i.size) ty' news 0 vs w hr.heap (by simpa using hfit) h1
    simp only [Nat.add_zero] at hst
    have hheap:=setRow_heap w a.block vs (vs.toList.take (a.off + n * i.size) ++ news ++ vs.toList.drop (a.off + n * i.size + news.length)).toArray ty' (0,0) hr.heap
    refine ⟨.slice (some a) (n + m) cap,w.setRow a.block (spl vs.toList (a.off + n * i.size) news).toArray,?_,.inr ⟨a,cap,(spl vs.toList (a.off + n * i.size) news).toArray,ty',rfl,?_,.inl ⟨a,n,cap,rfl,rfl⟩⟩,rfl,rfl,rfl,by simp,fun k _ hk=>setRow_other w a.block k _ (hk a n cap rfl),fun h=>absurd h (by omega)⟩
    ·simp only [spl]
     rw [<- oT a hr.spot] at hst
     simp [Builtin.append_,run_underlying ht,sizeOf,typeInfo,hi,Builtin.lenOf,hroom,hf,hst]
    ·have hfl:a.off + n * i.size + news.length<=vs.toList.length:=by simpa using hfit
     refine ⟨hheap,hr.spot,hroom,hr.max,by rw [List.size_toArray,fg hfl]; exact hr.fit,hlen,fun k hk=>?_,fun u hu=>?_⟩
     ·rw [List.getElem?_toArray,bH hfl]
      by_cases hk1:k < n * i.size
      ·rw [if_neg (by omega),FI,hr.cells k hk1,FO (by omega)]
      ·rw [Nat.add_mul] at hk
       rw [if_pos (by omega),FP (by omega)]
       congr 1
       omega
     ·rcases List.mem_append.1 hu with h | h
      ·exact hu1 u h
      ·exact h1 u h
   ·obtain ⟨arr,harr,hrow⟩:=grown cap
    have hrun:=run_append_grow (P:=P) w t ty e i z ht hi hz a n cap us hul (fun j u hu=>hr.cell hu) ad m c news hl hnews (by omega) (by omega) (growslice_fits (by omega) hbytes)
    rw [<- harr] at hrun
    exact ⟨_,_,hrun,.inr ⟨_,_,arr,e,rfl,hrow,.inr rfl⟩,rfl,rfl,rfl,by simp,fun k hk _=>gl arr k hk,fun h=>absurd h (by omega)⟩
end
end Go.Ab
end

import Derived.Test.YtpkpckdealhkhaaBC14F230
import Derived.Test.YtpkpckdealhkhaaBM0
import Derived.Below
import Derived.Orders
import Derived.Laws.Cells
import Derived.Laws.OwnMore
import Derived.Laws.CopyOwn
import Derived.Maps.AppendAt
import Derived.Lib.FrozenHead
set_option linter.all false
section
set_option maxRecDepth 10000
namespace Go.Ab
def ke (e:List TV) (u:DFunc):Prop:=∃b,e=[I u.params,I u.regs,b]/\RL none 14 (RBlock (some false)) b u.blocks/\inI u.params/\inI u.regs
section
variable {α:Type} {q:Option Bool} {s:Nat} {R S:List TV->α->Prop} {x:TV} {l:List α}
theorem RL.mono (h:RL q s R x l) (hm:∀e a,R e a->S e a):RL q s S x l:=by
 rcases h with h|⟨o,xs,h1,h2,h3,h4⟩
 ·exact .inl h
 ·exact .inr ⟨o,xs,h1,h2,h3.mono hm,h4⟩
theorem RL.any (h:RL q s R x l):RL none s R x l:=h.weak fun _ _ h=>h
theorem RL.fr (h:RL (some false) s R x l):x.fX=true:=by
 rcases h with⟨rfl,_⟩|⟨o,xs,rfl,hq,_⟩
 ·rfl
 ·rw[hq false rfl];rfl
theorem RL.fresh {rows:List (List TV)} (hr:F2 R rows l) (hl:l.length<=4294967296):∃y',papp s (.sl true s []) rows=some y'/\RL (some true) s R y' l:=by
 have hlen:=hr.length
 refine⟨.sl true s rows,?_,.sl (by simp) hr (by omega)⟩
 simp[papp,room]
 omega
end
theorem jP {x z:TV} {n j:Nat} {e:List TV} (h:Go.Ab.pel x n=some e) (hj:e[j]? = some z):aS [(n,j)] x=some z:=by
 cases x with
 | sl o s xs =>
  have h:xs[n]? = some e:=h
  simp[aS,h,hj]
 | _=>cases h
theorem pW {x y z:TV} {n i k j:Nat} {e:List TV} (h:aS [(n,i)] x=some y) (hk:Go.Ab.pel y k=some e) (hj:e[j]? = some z):aS [(n,i),(k,j)] x=some z:=by
 have:=ux [(n,i)] k j x y h
 rw[jP hk hj]at this
 exact this
theorem wS {v:TV} (h:v.isSl=true):ab zSl [v] 0=true:=by
 show(v.isSl&&true)=true
 rw[h];rfl
end Go.Ab
namespace Go.Ab.C14
open Go Go.Ab Go.Proofs
theorem A1 {e:List TV} {m:DMod} (he:RMod (some false) e m) (hs:gJ m) (hM:¬ln m):∃w,ao prog 9 [.agg e] (.tup [.agg [w],I 1])/\RMod (some true) [w] m:=by
 have c0:=r8 he
 rw[gH hM]at c0
 obtain⟨e',c1,c2⟩:=r16 he hs
 obtain⟨x,rfl,hx⟩:=he
 obtain⟨w,rfl,hw⟩:=c2
 refine⟨w,?_,w,rfl,hw⟩
 have hO:=hw.own fun _ _ h=>h.own
 refine ao.of (f9_MR _) ?_
 unfold f9_M
 refine aa.chk rfl (aa.call c0 (aa.chk rfl (aa.tv rfl (aa.ite (v:=true) rfl (fun _=>?_) nofun))))
 exact aa.call c1 (aa.chk (by simp[TV.isAgg,ab,zSl,az,TV.cellsL,hw.isSl]) (aa.chk (by show bN [.agg [w],I 1]=true;simp[bN,bX,hO]) aa.ret))
noncomputable def jz (m:DMod) (u:DFunc):DFunc:={ u with blocks:=u.blocks.map (cq m) }
theorem nD {m:DMod} (hM:ln m) {u:DFunc} (hu:u∈m.funcs) {b:DBlock} (hb:b∈u.blocks) (h4:b.fin.kind=4):0<=b.fin.f/\b.fin.f.toNat<m.funcs.length:=by
 obtain⟨n,hn,rfl⟩:=List.mem_iff_getElem.1 hu
 obtain⟨k,hk,rfl⟩:=List.mem_iff_getElem.1 hb
 exact((pJ hM (Ci hn) (Ci hk)).2 h4).1
theorem nZ {m:DMod} (hs:gJ m) {u:DFunc} (hu:u∈m.funcs):u.blocks.length<=70/\∀b∈u.blocks,b.ins.length<=70:=by
 obtain⟨n,hn,rfl⟩:=List.mem_iff_getElem.1 hu
 have h:=hs.2 n hn _ (Ci hn)
 refine⟨h.1,fun b hb=>?_⟩
 obtain⟨k,hk,rfl⟩:=List.mem_iff_getElem.1 hb
 exact(h.2 k hk _ (Ci hk)).1
theorem zw {x:TV} {m:DMod} (hx:RL (some false) 3 (RFunc (some false)) x m.funcs) (hs:gJ m) (hM:ln m):∃w,ao prog 9 [.agg [x]] (.tup [.agg [w],I 0])/\RMod (some true) [w] (nY m):=by
 have he:RMod (some false) [x] m:=⟨x,rfl,hx⟩
 have c0:=r8 he
 rw[dH hM]at c0
 obtain⟨wF,F,a1,a2,a3,a4⟩:=rOut he hM
 obtain⟨e',c1,c2⟩:=r16 he hs
 obtain⟨w0,rfl,hw0⟩:=c2
 have hN:=hs.1
 have key:∀(d i:Nat) (w:TV),i+d=m.funcs.length->RMod (some true) [w] ⟨cG (jz m) m.funcs i⟩->∃y,aa prog 9 (f9_0 (I m.funcs.length) (I (i:Int)) wF w) y/\∃w',y=.tup [.agg [w'],I 0]/\RMod (some true) [w'] (nY m):=by
  intro d
  induction d with
  | zero =>
   intro i w hi hw
   have hi:i=m.funcs.length:=by omega
   subst hi
   rw[mw]at hw
   refine⟨_,?_,w,rfl,hw⟩
   obtain⟨_,hx,hw⟩:=hw
   cases hx
   have hO:=hw.own fun _ _ h=>h.own
   unfold f9_0
   exact aa.tv rfl (aa.ite aI nofun fun _=>aa.chk (by show bN [.agg [w],I 0]=true;simp[bN,bX,hO]) aa.ret)
  | succ d ih =>
   intro i w hi hw
   have hil:i<m.funcs.length:=by omega
   obtain⟨u,hu⟩:∃u,m.funcs[i]? = some u:=⟨_,Ci hil⟩
   have hum:=Cq hu
   have hul:i<(cG (jz m) m.funcs i).length:=by rw[cS];exact hil
   have hbd:=nZ hs hum
   have hself:(cG (jz m) m.funcs i).set i ⟨u.params,u.regs,cG (cq m) u.blocks 0⟩=cG (jz m) m.funcs i:=by
    rw[kF]
    exact mm (gK hu)
   have hw':=hw
   obtain⟨_,hx,hwl⟩:=hw'
   cases hx
   obtain⟨e,he,y,rfl,hy,ho⟩:=hwl.pel (gK (f:=jz m) hu)
   have l:=hwl.slLen
   rw[show(cG (jz m) m.funcs i).length=m.funcs.length from cS]at l
   obtain⟨r,g1,g2⟩:=Be a2 a3 a4 hul (by omega) (p:=u.params) (r:=u.regs) (Y0:=u.blocks) (by omega) (fun b hb=>⟨by have:=hbd.2 b hb;omega,nD hM hum hb⟩) (x0:=I m.funcs.length) (y6:=I u.params) (y7:=I u.regs)
    (Z:=fun y=>∃w',y=.tup [.agg [w'],I 0]/\RMod (some true) [w'] (nY m)) (fun w2 hw2=>ih (i+1) w2 (by omega) (by rw[<-jV hu];exact hw2)) u.blocks.length 0 w (by omega) (by rw[hself];exact hw)
   refine⟨r,?_,g2⟩
   have ani:aB (I (i:Int))=some i:=aK (by omega)
   unfold f9_0
   refine aa.tv rfl (aa.ite (aH hil) (fun _=>?_) nofun)
   exact aa.nat l (aa.nat ani (aa.chk (by rw[hwl.slSize];simpa using hil) (aa.tvs he (aa.chk (by simp[ab,BY,az,TV.isSc,scV,hy.isSl]) (aa.tv (jP he rfl) (aa.tv hy.len (f9_1_J g1)))))))
 obtain⟨y,g1,w,rfl,g2⟩:=key m.funcs.length 0 w0 (by omega) (by rw[kF];exact⟨_,rfl,hw0⟩)
 refine⟨w,?_,g2⟩
 refine ao.of (f9_MR _) ?_
 unfold f9_M
 refine aa.chk rfl (aa.call c0 (aa.chk rfl (aa.tv rfl (aa.ite (v:=false) rfl nofun fun _=>?_))))
 exact aa.call a1 (aa.chk (wS a2.isSl) (aa.call c1 (aa.chk (by simp[TV.isAgg,ab,zSl,az,TV.cellsL,hw0.isSl]) (aa.tv hw0.len (f9_0_J g1)))))
theorem Bi {x:TV} {X:List DFunc} (hx:RL (some false) 3 (RFunc (some false)) x X) (hX:X.length<=1000) {n k:Nat} {u:DFunc} {b b':DBlock} (hu:X[n]? = some u) (hul:u.blocks.length<=1000) (hk:u.blocks[k]? = some b) {e':List TV} (he':RBlock (some false) e' b') :
  ∃w,ao prog 31 [.agg [x],I (n:Int),I (k:Int),.agg e'] (.agg [w])/\RL (some true) 3 ke w (X.set n ⟨u.params,u.regs,u.blocks.set k b'⟩):=by
 have hnl:=(Ch.1 hu).1
 have hkl:=(Ch.1 hk).1
 obtain⟨rows,p1,p2⟩:=hx.elems
 obtain⟨v1,p3,p4⟩:=RL.fresh (s:=3) p2 (by omega)
 obtain⟨e1,q1,y,rfl,hy,ho⟩:=p4.pel hu
 obtain⟨rows2,p5,p6⟩:=hy.elems
 obtain⟨v7,p7,p8⟩:=RL.fresh (s:=14) p6 (by omega)
 obtain⟨e2,q2,hR2⟩:=p8.pel hk
 have fit2:=hR2.oF
 have fit3:=he'.oF
 have hcells:∃c i g,e'=[B b'.landing,I b'.pad.dst,c,B b'.pad.all,B b'.pad.cleanup,i,I b'.fin.kind,I b'.fin.a,I b'.fin.dst,I b'.fin.f,g,I b'.fin.to,I b'.fin.els,I b'.fin.pad]:=by
  obtain⟨c,i,g,h,_⟩:=he'
  exact⟨c,i,g,h⟩
 have hcells2:∃c i g,e2=[B b.landing,I b.pad.dst,c,B b.pad.all,B b.pad.cleanup,i,I b.fin.kind,I b.fin.a,I b.fin.dst,I b.fin.f,g,I b.fin.to,I b.fin.els,I b.fin.pad]:=by
  obtain⟨c,i,g,h,_⟩:=hR2
  exact⟨c,i,g,h⟩
 obtain⟨c,i,g,rfl⟩:=hcells
 obtain⟨c2,i2,g2,rfl⟩:=hcells2
 obtain⟨v11,s1,s2⟩:=p8.vz q2 (d:=0) (ys:=[B b'.landing,I b'.pad.dst,c,B b'.pad.all,B b'.pad.cleanup,i,I b'.fin.kind,I b'.fin.a,I b'.fin.dst,I b'.fin.f,g,I b'.fin.to,I b'.fin.els,I b'.fin.pad]) (a:=b') (by
  have hE:∀E,E=[B b'.landing,I b'.pad.dst,c,B b'.pad.all,B b'.pad.cleanup,i,I b'.fin.kind,I b'.fin.a,I b'.fin.dst,I b'.fin.f,g,I b'.fin.to,I b'.fin.els,I b'.fin.pad]->RBlock (some false) E b':=fun E h=>by rw[h];exact he'
  exact hE _ (by kernel_rfl))
 have p4z:RL (some true) 3 ke v1 X:=p4.mono fun e a ⟨b,h1,h2,h3⟩=>⟨b,h1,h2.any,h3⟩
 obtain⟨v15,s3,s4⟩:=p4z.vz q1 (d:=2) (ys:=[v11]) (a:=⟨u.params,u.regs,u.blocks.set k b'⟩) ⟨v11,rfl,s2.any,ho⟩
 have ann:aB (I (n:Int))=some n:=aK (by omega)
 have ank:aB (I (k:Int))=some k:=aK (by omega)
 have l1:=p4.slLen
 have z1:(slSize v1 3&&Nat.blt n X.length)=true:=by rw[p4.slSize];simpa using hnl
 have inner:ao prog 48 [.agg [x],I (n:Int),I (k:Int),.agg [B b'.landing,I b'.pad.dst,c,B b'.pad.all,B b'.pad.cleanup,i,I b'.fin.kind,I b'.fin.a,I b'.fin.dst,I b'.fin.f,g,I b'.fin.to,I b'.fin.els,I b'.fin.pad]] (.agg [v15]):=by
  refine ao.of (f48_MR _ _ _ _) ?_
  unfold f48_M
  refine aa.chk rfl (aa.chk rfl (aa.rws p1 (aa.tv p3 (aa.nat l1 (aa.nat ann (aa.chk z1 (aa.tvs q1 (aa.chk (by simp[ab,zSl,az,hy.isSl]) (aa.tv (jP q1 rfl) ?_)))))))))
  refine aa.chk hy.fr (aa.rws p5 (aa.tv p7 (aa.nat p8.slLen (aa.nat ank (aa.chk (by rw[p8.slSize];simpa using hkl) (aa.tvs q2 (aa.chk ?_ (aa.tv s1 ?_))))))))
  ·show(bD cE _ 0&&ab cE _ 0)=true
   rw[mO fit2,Bool.true_and]
   exact fit3
  refine aa.nat l1 (aa.nat ann (aa.chk z1 (aa.tvs q1 (aa.chk ?_ (aa.tv s3 aa.ret)))))
  simp[bD,ab,zSl,az,hy.isSl,s2.isSl]
 refine⟨v15,?_,s4⟩
 refine ao.of (f31_MR _ _ _ _) ?_
 unfold f31_M
 exact aa.chk rfl (aa.chk rfl (aa.call inner (aa.chk (by simp[TV.isAgg,ab,zSl,az,TV.cellsL,s4.isSl]) aa.ret)))
end Go.Ab.C14
end
section
set_option maxRecDepth 10000
namespace Go.Ab
structure GI (m:DMod) (X:Nat->Prop) (F0 F:List Bool) (Z:List Bool->Prop):Prop where
 len:F.length=m.funcs.length
 snd:pB X F
 two:(F.count false<F0.count false/\∃k:Nat,F0[k]? = some false/\X k)\/(F=F0/\Z F0)
def ZnL (m:DMod) (D:List Bool->DFunc->DBlock->Prop) (n:Nat) (F:List Bool):Prop:=∀(k:Nat) u,k<n->m.funcs[k]? = some u->oH D F u->F[k]? = some true
def ZiL (m:DMod) (D:List Bool->DFunc->DBlock->Prop) (n:Nat) (u:DFunc) (i:Nat) (F:List Bool):Prop:=ZnL m D n F/\∀(j:Nat) c,j<i->u.blocks[j]? = some c->D F u c->F[n]? = some true
def ZkL (m:DMod) (D:List Bool->DFunc->DBlock->Prop) (E:List Bool->DFunc->DBlock->Prop) (Q:List Bool->DIns->Prop) (n:Nat) (u:DFunc) (i:Nat) (c:DBlock) (k:Nat) (F:List Bool):Prop :=
 ZiL m D n u i F/\(E F u c->F[n]? = some true)/\∀(j:Nat) x,j<k->c.ins[j]? = some x->Q F x->F[n]? = some true
section
variable {m:DMod} {D E:List Bool->DFunc->DBlock->Prop} {Q:List Bool->DIns->Prop} {X:Nat->Prop} {F0 F:List Bool} {Z Z':List Bool->Prop}
theorem GI.set {n:Nat} (h:GI m X F0 F Z) (hn:n<m.funcs.length) (hx:X n) (hz:∀G,Z G->G[n]? = some true->Z' G):GI m X F0 (F.set n true) Z':=by
 have hnF:n<F.length:=by rw[h.len];exact hn
 have hc:=Ci hnF
 generalize F[n]=c at hc
 refine⟨by rw[List.length_set];exact h.len,fun k hk=>?_,?_⟩
 ·by_cases e:k=n
  ·subst e;exact hx
  ·rw[List.getElem?_set_ne (Ne.symm e)]at hk
   exact h.snd k hk
 ·cases c with
  | true =>
   have e:F.set n true=F:=by
    apply List.ext_getElem?
    intro k
    by_cases e:k=n
    ·subst e;rw[List.getElem?_set_self hnF,hc]
    ·rw[List.getElem?_set_ne (Ne.symm e)]
   rw[e]
   rcases h.two with h2|⟨rfl,h2⟩
   ·exact .inl h2
   ·exact .inr ⟨rfl,hz _ h2 hc⟩
  | false =>
   have hcnt:=xg hc
   rcases h.two with⟨h2,h3⟩|⟨rfl,h2⟩
   ·exact .inl ⟨by omega,h3⟩
   ·exact .inl ⟨by omega,n,hc,hx⟩
theorem GI.keep (h:GI m X F0 F Z) (hz:Z F->Z' F):GI m X F0 F Z':=by
 refine⟨h.len,h.snd,?_⟩
 rcases h.two with h2|⟨rfl,h2⟩
 ·exact .inl h2
 ·exact .inr ⟨rfl,hz h2⟩
theorem ZiL.zero {n:Nat} {u:DFunc} (h:ZnL m D n F):ZiL m D n u 0 F:=⟨h,fun j c hj=>absurd hj (Nat.not_lt_zero _)⟩
theorem ZiL.all {n:Nat} {u:DFunc} (hu:m.funcs[n]? = some u) (h:ZiL m D n u u.blocks.length F):ZnL m D (n+1) F:=by
 intro k v hk hv hh
 by_cases e:k=n
 ·subst e
  rw[hu]at hv
  cases hv
  obtain⟨c,hc,hd⟩:=hh
  obtain⟨j,hj,rfl⟩:=List.mem_iff_getElem.1 hc
  exact h.2 j _ hj (Ci hj) hd
 ·exact h.1 k v (by omega) hv hh
theorem ZkL.all {n i:Nat} {u:DFunc} {c:DBlock} (hD:D F u c->E F u c\/∃x∈c.ins,Q F x) (hc:u.blocks[i]? = some c) (h:ZkL m D E Q n u i c c.ins.length F):ZiL m D n u (i+1) F:=by
 refine⟨h.1.1,fun j c' hj hc' hd=>?_⟩
 by_cases e:j=i
 ·subst e
  rw[hc]at hc'
  cases hc'
  rcases hD hd with he|⟨x,hx,hq⟩
  ·exact h.2.1 he
  ·obtain⟨k,hk,rfl⟩:=List.mem_iff_getElem.1 hx
   exact h.2.2 k _ hk (Ci hk) hq
 ·exact h.1.2 j c' (by omega) hc' hd
theorem ZkL.one {n i k:Nat} {u:DFunc} {c:DBlock} {x:DIns} (hx:c.ins[k]? = some x) (h:ZkL m D E Q n u i c k F) (hq:Q F x->F[n]? = some true):ZkL m D E Q n u i c (k+1) F:=by
 refine⟨h.1,h.2.1,fun j y hj hy hqy=>?_⟩
 by_cases e:j=k
 ·subst e;rw[hx]at hy;cases hy;exact hq hqy
 ·exact h.2.2 j y (by omega) hy hqy
theorem ZkL.begin {n i:Nat} {u:DFunc} {c:DBlock} (h:ZiL m D n u i F) (he:E F u c->F[n]? = some true):ZkL m D E Q n u i c 0 F:=⟨h,he,fun j x hj=>absurd hj (Nat.not_lt_zero _)⟩
end
def IsX (m:DMod) (X:Nat->Prop) (y:TV):Prop:=∃F:List Bool,RBools (some true) y F/\F.length=m.funcs.length/\∀k:Nat,F[k]? = some true ↔ X k
theorem uv {A:AProg} {f:FuncId} {m:DMod} {D:List Bool->DFunc->DBlock->Prop} {X:Nat->Prop} (hX:tz m D X) {P0:Nat->TV->Prg TV} {P1:Nat->Nat->TV->Prg TV}
  (h0s:∀r w y,r<=m.funcs.length->aa A f (P1 r 0 w) y->aa A f (P0 r w) y)
  (h0e:∀w F,RBools (some true) w F->aa A f (P0 (m.funcs.length+1) w) w)
  (h1e:∀r w y,r<=m.funcs.length->aa A f (P0 (r+1) w) y->aa A f (P1 r m.funcs.length w) y)
  (h1s : ∀ r n w F0 F u, r ≤ m.funcs.length → RBools (some true) w F → m.funcs[n]? = some u → GI m X F0 F (ZnL m D n) →
   (∀F' w',RBools (some true) w' F'->GI m X F0 F' (ZnL m D (n+1))->∃y,aa A f (P1 r (n+1) w') y/\IsX m X y)->∃y,aa A f (P1 r n w) y/\IsX m X y) :
  ∀(d r:Nat) (F:List Bool) (w:TV),r+d=m.funcs.length+1->RBools (some true) w F->F.length=m.funcs.length->pB X F->(AL m D F\/F.count false+r<=m.funcs.length)->∃y,aa A f (P0 r w) y/\IsX m X y:=by
 intro d
 induction d with
 | zero =>
  intro r F w hr hw hl hs hc
  have hr:r=m.funcs.length+1:=by omega
  subst hr
  have hc:AL m D F:=hc.resolve_right (by omega)
  exact⟨w,h0e w F hw,F,hw,hl,fun k=>⟨hs k,hX.dn _ hc k⟩⟩
 | succ d ih =>
  intro r F0 w hr hw hl hs hc
  have row : ∀ (e n : Nat) (F : List Bool) (w : TV), n + e = m.funcs.length → RBools (some true) w F → GI m X F0 F (ZnL m D n) → ∃ y, aa A f (P1 r n w) y ∧ IsX m X y := by
   intro e
   induction e with
   | zero =>
    intro n F w hn hw hG
    have hn:n=m.funcs.length:=by omega
    subst hn
    have key:AL m D F\/F.count false+(r+1)<=m.funcs.length:=by
     rcases hG.two with⟨h1,k,h2,h3⟩|⟨rfl,h1⟩
     ·rcases hc with hc|hc
      ·have:=hX.dn _ hc k h3
       rw[h2]at this
       cases this
      ·exact .inr (by omega)
     ·exact .inl fun k u hu hh=>h1 k u (Ch.1 hu).1 hu hh
    obtain⟨y,g1,g2⟩:=ih (r+1) F w (by omega) hw hG.len hG.snd key
    exact⟨y,h1e r w y (by omega) g1,g2⟩
   | succ e ihe =>
    intro n F w hn hw hG
    have hu:=Ci (show n<m.funcs.length by omega)
    exact h1s r n w F0 F _ (by omega) hw hu hG fun F' w' hw' hG'=>ihe (n+1) F' w' (by omega) hw' hG'
  obtain⟨y,g1,g2⟩:=row m.funcs.length 0 F0 w (by omega) hw ⟨hl,hs,.inr ⟨rfl,fun k u hk=>absurd hk (Nat.not_lt_zero _)⟩⟩
  exact⟨y,h0s r w y (by omega) g1,g2⟩
end Go.Ab
end
section
set_option maxRecDepth 10000
namespace Go.Ab
def Bo (F:List Bool) (u:DFunc) (b:DBlock):Prop:=(b.fin.kind=5\/b.fin.kind=6)\/(BK F b/\∃pb,u.blocks[b.fin.pad.toNat]? = some pb/\pb.pad.all=false)
def BR (F:List Bool) (x:DIns):Prop:=x.op=11/\F[x.f.toNat]? = some true
theorem qS {F:List Bool} {u:DFunc} {b:DBlock}:oK F u b ↔ Bo F u b\/∃x∈b.ins,BR F x:=by
 unfold oK Bo mH BR
 constructor
 ·rintro(h|h|h)
  ·exact .inl (.inl h)
  ·exact .inr h
  ·exact .inl (.inr h)
 ·rintro((h|h)|h)
  ·exact .inl h
  ·exact .inr (.inr h)
  ·exact .inr (.inl h)
theorem wi {a:Int} (h0:0<=a) (h:a.toNat<=9223372036854775807):aB (I a)=some a.toNat:=by
 have:=aK h
 rwa[show((a.toNat:Nat):Int)=a by omega]at this
theorem bltT {a b:Nat} (h:a<b):Nat.blt a b=true:=Nat.ble_eq_true_of_le h
theorem leqZ {a b:Nat}:pbin (.int .i64) .leq (I (a:Int)) (I (b:Int))=some (B (decide (a<=b))):=by
 show some (TV.lit (.bool (decide ((a:Int)<=(b:Int)))))=_
 congr 3
 exact decide_eq_decide.2 (by omega)
end Go.Ab
namespace Go.Ab.C14
open Go Go.Ab Go.Proofs
section
variable {q:Option Bool} {b:TV} {m:DMod} (hb:RL q 3 (RFunc q) b m.funcs) (hM:ln m) {F0:List Bool} {n r:Nat} {u:DFunc} {bl:TV} (hu:m.funcs[n]? = some u) (hbl:RL q 14 (RBlock q) bl u.blocks)
 (K:∀F' w',RBools (some true) w' F'->GI m (Thr m) F0 F' (ZnL m oK (n+1))->∃y,aa prog 30 (f30_1 (I r) (I (n+1:Nat)) b w') y/\IsX m (Thr m) y)
include hb hM hu hbl K
theorem yC:∀(d i:Nat) (F:List Bool) (w:TV),i+d=u.blocks.length->RBools (some true) w F->GI m (Thr m) F0 F (ZiL m oK n u i) ->
  ∃y,aa prog 30 (f30_2 (I r) (I n) (I i) b w (I u.params) (I u.regs) bl) y/\IsX m (Thr m) y:=by
 have hX:=nk m
 have hN:=hM.1
 have hbnd:=hbl.bnd
 have hn:=(Ch.1 hu).1
 have ann:aB (I (n:Int))=some n:=aK (by omega)
 intro d
 induction d with
 | zero =>
  intro i F w hi hw hG
  have hi:i=u.blocks.length:=by omega
  subst hi
  obtain⟨y,g1,g2⟩:=K F w hw (hG.keep (ZiL.all hu))
  refine⟨y,?_,g2⟩
  unfold f30_2
  exact aa.tv hbl.len (aa.tv rfl (aa.ite aI nofun fun _=>aa.tv (inc hn (by omega)) (f30_1_J g1)))
 | succ d ih =>
  intro i F w hi hw hG
  have hil:i<u.blocks.length:=by omega
  have hc:=Ci hil
  generalize u.blocks[i]=c at hc
  have hcm:=Cq hc
  have hnm:=pJ hM hu hc
  obtain⟨e,he,hR⟩:=hbl.idx (k:=.i64) hc
  obtain⟨c2,c5,c10,rfl,h2,hd,h5,h10,hok⟩:=hR
  have hbi:=h5.bnd
  have up:∀{G:List Bool},pB (Thr m) G->oK G u c->Thr m n:=fun hs h=>hX.up _ hs n u hu ⟨c,hcm,h⟩
  have store:∀{G:List Bool} {v:TV},RBools (some true) v G->G.length=m.funcs.length->∃e v',Go.Ab.pel v n=some e/\ab am e 0=true/\fK [] v n 0 [B true]=some v'/\RBools (some true) v' (G.set n true):=by
   intro G v hv hlG
   have hcc:=Ci (show n<G.length by omega)
   obtain⟨e0,he0,hR0⟩:=hv.pel hcc
   cases hR0
   obtain⟨v1,hs1,hv1⟩:=hv.vz he0 (d:=0) (ys:=[B true]) (a:=true) rfl
   exact⟨_,v1,he0,rfl,hs1,hv1⟩
  have five:∀(d k:Nat) (G:List Bool) (v:TV),k+d=c.ins.length->RBools (some true) v G->GI m (Thr m) F0 G (ZkL m oK Bo BR n u i c k) ->
    ∃y,aa prog 30 (f30_5 (I r) (I n) (I i) (I k) b v (I u.params) (I u.regs) bl (B c.landing) (I c.pad.dst) c2 (B c.pad.all) (B c.pad.cleanup) c5 (I c.fin.kind) (I c.fin.a) (I c.fin.dst) (I c.fin.f) c10 (I c.fin.to) (I c.fin.els) (I c.fin.pad)) y/\IsX m (Thr m) y:=by
   intro d
   induction d with
   | zero =>
    intro k G v hk hv hG
    have hk:k=c.ins.length:=by omega
    subst hk
    obtain⟨y,g1,g2⟩:=ih (i+1) G v (by omega) hv (hG.keep (ZkL.all (fun h=>qS.1 h) hc))
    refine⟨y,?_,g2⟩
    unfold f30_5
    exact aa.tv h5.len (aa.tv rfl (aa.ite aI nofun fun _=>aa.tv (inc hil hbnd) (f30_2_J g1)))
   | succ d ih2 =>
    intro k G v hk hv hG
    have hkl:k<c.ins.length:=by omega
    have hx:=Ci hkl
    generalize c.ins[k]=x at hx
    obtain⟨e2,he2,hR2⟩:=h5.idx (k:=.i64) hx
    obtain⟨g2,rfl,hg2,hxo⟩:=hR2
    by_cases h11:x.op=11
    ·obtain⟨h0,hlx⟩:=hnm.1 x (Cq hx) h11
     have hcc:=Ci (show x.f.toNat<G.length by rw[hG.len];exact hlx)
     generalize G[x.f.toNat]'(by rw[hG.len];exact hlx)=z at hcc
     obtain⟨e3,he3,hR3⟩:=hv.pel hcc
     rw[show e3=[B z] from hR3]at he3
     have anx:aB (I x.f)=some x.f.toNat:=wi h0 (by omega)
     have hb3:(slSize v 1&&Nat.blt x.f.toNat G.length)=true:=by rw[hv.slSize,hG.len,bltT hlx];rfl
     cases z with
     | true =>
      have hq:BR G x:=⟨h11,hcc⟩
      have ht:=up hG.snd (qS.2 (.inr ⟨x,Cq hx,hq⟩))
      obtain⟨e4,v',a1,a2,a3,a4⟩:=store hv hG.len
      obtain⟨y,g1,g2⟩:=ih2 (k+1) (G.set n true) v' (by omega) a4 (hG.set hn ht fun G' hz hc'=>hz.one hx fun _=>hc')
      refine⟨y,?_,g2⟩
      unfold f30_5
      refine aa.tv h5.len (aa.tv rfl (aa.ite (aH hkl) (fun _=>aa.tvs he2 (aa.chk rfl (aa.tv rfl (aa.ite dY (fun _=>?_) fun h=>absurd h11 (of_decide_eq_false h))))) nofun))
      refine aa.tvs he2 (aa.chk rfl (aa.nat hv.slLen (aa.nat anx (aa.chk hb3 (aa.tvs he3 (aa.chk rfl (aa.ite (v:=true) rfl (fun _=>?_) nofun)))))))
      exact aa.nat hv.slLen (aa.nat ann (aa.chk (by rw[hv.slSize,hG.len];simpa using hn) (aa.tvs a1 (aa.chk a2 (aa.tv a3 (aa.tv (inc hkl hbi) (f30_5_J g1)))))))
     | false =>
      obtain⟨y,g1,g2⟩:=ih2 (k+1) G v (by omega) hv (hG.keep fun hz=>hz.one hx fun h=>by have h2:=h.2;rw[hcc]at h2;cases h2)
      refine⟨y,?_,g2⟩
      unfold f30_5
      refine aa.tv h5.len (aa.tv rfl (aa.ite (aH hkl) (fun _=>aa.tvs he2 (aa.chk rfl (aa.tv rfl (aa.ite dY (fun _=>?_) fun h=>absurd h11 (of_decide_eq_false h))))) nofun))
      refine aa.tvs he2 (aa.chk rfl (aa.nat hv.slLen (aa.nat anx (aa.chk hb3 (aa.tvs he3 (aa.chk rfl (aa.ite (v:=false) rfl nofun fun _=>?_)))))))
      exact aa.tv (inc hkl hbi) (f30_5_J g1)
    ·obtain⟨y,g1,g2⟩:=ih2 (k+1) G v (by omega) hv (hG.keep fun hz=>hz.one hx fun h=>absurd h.1 h11)
     refine⟨y,?_,g2⟩
     unfold f30_5
     refine aa.tv h5.len (aa.tv rfl (aa.ite (aH hkl) (fun _=>aa.tvs he2 (aa.chk rfl (aa.tv rfl (aa.ite dY (fun h=>absurd (of_decide_eq_true h) h11) fun _=>?_)))) nofun))
     exact aa.tv (inc hkl hbi) (f30_5_J g1)
  have three:∀z:Bool,(z=true ↔ Bo F u c)->∃y,aa prog 30 (f30_3 (I r) (I n) (I i) (B z) b w (I u.params) (I u.regs) bl (B c.landing) (I c.pad.dst) c2 (B c.pad.all) (B c.pad.cleanup) c5 (I c.fin.kind) (I c.fin.a) (I c.fin.dst) (I c.fin.f) c10 (I c.fin.to) (I c.fin.els) (I c.fin.pad)) y/\IsX m (Thr m) y:=by
   intro z hz
   cases z with
   | true =>
    have ht:=up hG.snd (qS.2 (.inl (hz.1 rfl)))
    obtain⟨e4,v',a1,a2,a3,a4⟩:=store hw hG.len
    obtain⟨y,g1,g2⟩:=five c.ins.length 0 (F.set n true) v' (by omega) a4 (hG.set hn ht fun G' hz hc'=>.begin hz fun _=>hc')
    refine⟨y,?_,g2⟩
    unfold f30_3
    refine aa.ite (v:=true) rfl (fun _=>?_) nofun
    refine aa.nat hw.slLen (aa.nat ann (aa.chk (by rw[hw.slSize,hG.len];simpa using hn) (aa.tvs a1 (aa.chk a2 (aa.tv a3 (f30_4_J ?_))))))
    unfold f30_4
    exact f30_5_J g1
   | false =>
    obtain⟨y,g1,g2⟩:=five c.ins.length 0 F w (by omega) hw (hG.keep fun hzi=>.begin hzi fun h=>by have:=hz.2 h;cases this)
    refine⟨y,?_,g2⟩
    unfold f30_3
    refine aa.ite (v:=false) rfl nofun fun _=>f30_4_J ?_
    unfold f30_4
    exact f30_5_J g1
  by_cases k5:c.fin.kind=5
  ·obtain⟨y,g1,g2⟩:=three true ⟨fun _=>.inl (.inl k5),fun _=>rfl⟩
   refine⟨y,?_,g2⟩
   unfold f30_2
   exact aa.tv hbl.len (aa.tv rfl (aa.ite (aH hil) (fun _=>aa.tvs he (aa.chk rfl (aa.tv rfl (aa.ite dY (fun _=>f30_3_J g1) fun h=>absurd k5 (of_decide_eq_false h))))) nofun))
  by_cases k6:c.fin.kind=6
  ·obtain⟨y,g1,g2⟩:=three true ⟨fun _=>.inl (.inr k6),fun _=>rfl⟩
   refine⟨y,?_,g2⟩
   unfold f30_2
   exact aa.tv hbl.len (aa.tv rfl (aa.ite (aH hil) (fun _=>aa.tvs he (aa.chk rfl (aa.tv rfl (aa.ite dY (fun h=>absurd (of_decide_eq_true h) k5) fun _=>aa.tv rfl (aa.ite dY (fun _=>f30_3_J g1) fun h=>absurd k6 (of_decide_eq_false h)))))) nofun))
  have start:∀{y:TV},(c.fin.kind=4->aa prog 30 (Prg.nat (slLen w) fun n15=>Prg.nat (aB (I c.fin.f)) fun n16=>Prg.chk (Bool.and (slSize w 1) (Nat.blt n16 n15)) (Prg.tvs (Go.Ab.pel w n16) fun e17=>Prg.chk (ab am e17 0) (Prg.ite (asBool (nth TV.hole e17 0)) (Prg.tvs (pidx 14 bl (I c.fin.pad)) fun e18=>Prg.chk (Nat.blt 3 (List.length e18)) (Prg.tv (pun UnOp.not (nth TV.hole e18 3)) fun v19=>.jmp [1,0,1,0,0,1,0,0,1,1,0,0,1,0,0,1,0,0,1,0,0,1,0,1,1] (f30_3_S (I r) (I n) (I i) v19 b w (I u.params) (I u.regs) bl (B c.landing) (I c.pad.dst) c2 (B c.pad.all) (B c.pad.cleanup) c5 (I c.fin.kind) (I c.fin.a) (I c.fin.dst) (I c.fin.f) c10 (I c.fin.to) (I c.fin.els) (I c.fin.pad)))) (.jmp [1,0,1,0,0,1,0,0,1,1,0,0,1,0,0,1,0,0,1,0,0,1,0,1,1] (f30_3_S (I r) (I n) (I i) (B false) b w (I u.params) (I u.regs) bl (B c.landing) (I c.pad.dst) c2 (B c.pad.all) (B c.pad.cleanup) c5 (I c.fin.kind) (I c.fin.a) (I c.fin.dst) (I c.fin.f) c10 (I c.fin.to) (I c.fin.els) (I c.fin.pad)))))) y) ->
    (¬c.fin.kind=4->aa prog 30 (f30_3 (I r) (I n) (I i) (B false) b w (I u.params) (I u.regs) bl (B c.landing) (I c.pad.dst) c2 (B c.pad.all) (B c.pad.cleanup) c5 (I c.fin.kind) (I c.fin.a) (I c.fin.dst) (I c.fin.f) c10 (I c.fin.to) (I c.fin.els) (I c.fin.pad)) y) ->
    aa prog 30 (f30_2 (I r) (I n) (I i) b w (I u.params) (I u.regs) bl) y:=by
   intro y a1 a2
   unfold f30_2
   refine aa.tv hbl.len (aa.tv rfl (aa.ite (aH hil) (fun _=>aa.tvs he (aa.chk rfl (aa.tv rfl (aa.ite dY (fun h=>absurd (of_decide_eq_true h) k5) fun _=>aa.tv rfl (aa.ite dY (fun h=>absurd (of_decide_eq_true h) k6) fun _=>aa.tv rfl (aa.ite dY (fun h=>a1 (of_decide_eq_true h)) fun h=>f30_3_J (a2 (of_decide_eq_false h)))))))) nofun))
  by_cases k4:c.fin.kind=4
  ·obtain⟨⟨h0,hlf⟩,hp0,pb,hpb⟩:=hnm.2 k4
   have hcc:=Ci (show c.fin.f.toNat<F.length by rw[hG.len];exact hlf)
   generalize F[c.fin.f.toNat]'(by rw[hG.len];exact hlf)=z at hcc
   obtain⟨e3,he3,hR3⟩:=hw.pel hcc
   rw[show e3=[B z] from hR3]at he3
   have anx:aB (I c.fin.f)=some c.fin.f.toNat:=wi h0 (by omega)
   have hb3:(slSize w 1&&Nat.blt c.fin.f.toNat F.length)=true:=by rw[hw.slSize,hG.len,bltT hlf];rfl
   cases z with
   | true =>
    obtain⟨e5,he5,hR5⟩:=hbl.ru (k:=.i64) hp0 hpb
    obtain⟨p2,p5,p10,rfl,_⟩:=hR5
    obtain⟨y,g1,g2⟩:=three (!pb.pad.all) ⟨fun h=>.inr ⟨⟨k4,hcc⟩,pb,hpb,by simpa using h⟩,fun h=>by
     rcases h with(h|h)|⟨_,pb',hp',ha'⟩
     ·exact absurd h k5
     ·exact absurd h k6
     ·rw[hpb]at hp';cases hp';simp[ha']⟩
    refine⟨y,start (fun _=>?_) fun h=>absurd k4 h,g2⟩
    exact aa.nat hw.slLen (aa.nat anx (aa.chk hb3 (aa.tvs he3 (aa.chk rfl (aa.ite (v:=true) rfl (fun _=>aa.tvs he5 (aa.chk rfl (aa.tv rfl (f30_3_J g1)))) nofun)))))
   | false =>
    obtain⟨y,g1,g2⟩:=three false ⟨nofun,fun h=>by
     rcases h with(h|h)|⟨h,_⟩
     ·exact absurd h k5
     ·exact absurd h k6
     ·have:=h.2;rw[hcc]at this;cases this⟩
    refine⟨y,start (fun _=>?_) fun h=>absurd k4 h,g2⟩
    exact aa.nat hw.slLen (aa.nat anx (aa.chk hb3 (aa.tvs he3 (aa.chk rfl (aa.ite (v:=false) rfl nofun fun _=>f30_3_J g1)))))
  ·obtain⟨y,g1,g2⟩:=three false ⟨nofun,fun h=>by
     rcases h with(h|h)|⟨h,_⟩
     ·exact absurd h k5
     ·exact absurd h k6
     ·exact absurd h.1 k4⟩
   exact⟨y,start (fun h=>absurd h k4) fun _=>g1,g2⟩
end
theorem Bw {q:Option Bool} {e:List TV} {m:DMod} (he:RMod q e m) (hM:ln m):∃y,ao prog 30 [.agg e] y/\IsX m (Thr m) y:=by
 obtain⟨b,rfl,hb⟩:=he
 have hN:=hM.1
 obtain⟨y,h1,h2⟩:=uv (nk m) (A:=prog) (f:=30) (P0:=fun r w=>f30_0 (I r) b w) (P1:=fun r n w=>f30_1 (I r) (I n) b w)
  (fun r w y hr h => by
   unfold f30_0
   exact aa.tv hb.len (aa.tv leqZ (aa.ite (v:=true) (by simp[asBool];omega) (fun _=>f30_1_J h) nofun)))
  (fun w F h => by
   unfold f30_0
   exact aa.tv hb.len (aa.tv leqZ (aa.ite (v:=false) (by simp[asBool]) nofun fun _=>aa.chk (h.own fun _ _ h=>by cases h;rfl) aa.ret)))
  (fun r w y hr h => by
   unfold f30_1
   exact aa.tv hb.len (aa.tv rfl (aa.ite aI nofun fun _=>aa.tv (inc (n:=m.funcs.length+1) (by omega) (by omega)) (f30_0_J h))))
  (fun r n w F0 F u hr hw hu hG K => by
   have hlt:=(Ch.1 hu).1
   obtain⟨e1,he1,hR1⟩:=hb.idx (k:=.i64) hu
   obtain⟨bl,rfl,hbl,_⟩:=hR1
   obtain⟨y,g1,g2⟩:=yC hb hM hu hbl K u.blocks.length 0 F w (by omega) hw (hG.keep .zero)
   refine⟨y,?_,g2⟩
   show aa prog 30 (f30_1 (I r) (I n) b w) y
   unfold f30_1
   exact aa.tv hb.len (aa.tv rfl (aa.ite (aH hlt) (fun _=>aa.tvs he1 (aa.chk rfl (f30_2_J g1))) nofun)))
  (m.funcs.length+1) 0 _ _ (by omega) (repF (n:=m.funcs.length) (by omega)) (by simp) vb (.inr (by simp))
 refine⟨y,?_,h2⟩
 have han:aB (I (m.funcs.length:Int))=some m.funcs.length:=aK (by omega)
 refine ao.of (f30_MR _) ?_
 unfold f30_M
 exact aa.chk rfl (aa.tv hb.len (aa.nat han (aa.nat han (aa.chk (by simp;omega) (f30_0_J h1)))))
end Go.Ab.C14
end
section
set_option maxRecDepth 10000
namespace Go.Ab.C14
open Go Go.Ab Go.Proofs
section
variable {m:DMod} {F:List Bool} {wF:TV} {qF:Option Bool} (hF:RBools qF wF F) (hFl:F.length=m.funcs.length) (hFt:∀k:Nat,F[k]? = some true ↔ Thr m k)
include hF hFl hFt
theorem wt {n:Nat} (hn2:n<=1000) {X:List DFunc} (hn:n<X.length) (hX:X.length<=1000) {p r:Int} {Y0:List DBlock} (hlen:Y0.length<=1000) (hc:∀b∈Y0,b.ins.length<=1000/\(b.fin.kind=4->0<=b.fin.f/\b.fin.f.toNat<m.funcs.length)) {Z:TV->Prop}
  (hz:∀w,RL none 3 ke w (X.set n ⟨p,r,Y0.map (cq m)⟩)->∃y,aa prog 14 (f14_0 (I ((n+1:Nat):Int)) wF w) y/\Z y) :
  ∀(d k:Nat) (w:TV),k+d=Y0.length->RL none 3 ke w (X.set n ⟨p,r,cG (cq m) Y0 k⟩)->∃y,aa prog 14 (f14_1 (I (n:Int)) (I (k:Int)) wF w) y/\Z y:=by
 intro d
 induction d with
 | zero =>
  intro k w hk hw
  have hk:k=Y0.length:=by omega
  subst hk
  obtain⟨e,he,y,rfl,hy,ho⟩:=hw.pel (i:=n) (a:=⟨p,r,cG (cq m) Y0 Y0.length⟩) (List.getElem?_set_self hn)
  have l:=hw.slLen
  rw[List.length_set]at l
  have ann:aB (I (n:Int))=some n:=aK (by omega)
  have ly:=hy.len (t:=48)
  rw[show(DFunc.blocks ⟨p,r,cG (cq m) Y0 Y0.length⟩).length=Y0.length from cS]at ly
  rw[mw]at hw
  obtain⟨y2,g1,g2⟩:=hz w hw
  refine⟨y2,?_,g2⟩
  unfold f14_1
  exact aa.nat l (aa.nat ann (aa.chk (by rw[hw.slSize];simpa using hn) (aa.tvs he (aa.chk (by simp[ab,zSl,az,hy.isSl]) (aa.tv (jP he rfl) (aa.tv ly (aa.tv rfl (aa.ite aI nofun fun _=>aa.tv (inc (k:=n) (n:=1001) (by omega) (by omega)) (f14_0_J g1)))))))))
 | succ d ih =>
  intro k w hk hw
  have hkl:k<Y0.length:=by omega
  obtain⟨b,hb⟩:∃b,Y0[k]? = some b:=⟨_,Ci hkl⟩
  obtain⟨hci,hcf⟩:=hc b (Cq hb)
  have e1:(X.set n ⟨p,r,cG (cq m) Y0 k⟩)[n]? = some ⟨p,r,cG (cq m) Y0 k⟩:=List.getElem?_set_self hn
  have hXl:(X.set n ⟨p,r,cG (cq m) Y0 k⟩).length<=1000:=by rw[List.length_set];exact hX
  obtain⟨e,he,y,rfl,hy,ho⟩:=hw.pel e1
  obtain⟨eb,hbk,hR⟩:=hy.pel (gK (f:=cq m) hb)
  have hR':=hR
  obtain⟨c,i,g,rfl,oc,od,oi,og,oo⟩:=hR'
  have l:=hw.slLen
  rw[List.length_set]at l
  have ann:aB (I (n:Int))=some n:=aK (by omega)
  have ank:aB (I (k:Int))=some k:=aK (by omega)
  have z1:(slSize w 3&&Nat.blt n X.length)=true:=by rw[hw.slSize];simpa using hn
  have ly:=hy.len (t:=48)
  rw[show(DFunc.blocks ⟨p,r,cG (cq m) Y0 k⟩).length=Y0.length from cS]at ly
  have lz:=hy.slLen
  rw[show(DFunc.blocks ⟨p,r,cG (cq m) Y0 k⟩).length=Y0.length from cS]at lz
  have z2:(slSize y 14&&Nat.blt k Y0.length)=true:=by rw[hy.slSize];simpa using hkl
  have fz:ab zSl [I p,I r,y] 2=true:=by simp[ab,zSl,az,hy.isSl]
  have gy:=jP (j:=2) he rfl
  have hback:cq m b=b->∃y,aa prog 14 (f14_1 (I (n:Int)) (I ((k+1:Nat):Int)) wF w) y/\Z y:=fun h=>ih (k+1) _ (by omega) (by rw[rD hb h];exact hw)
  by_cases h4:b.fin.kind=4
  ·obtain⟨f0,f1⟩:=hcf h4
   rw[<-hFl]at f1
   have hx:=Ci f1
   generalize F[b.fin.f.toNat]=x at hx
   obtain⟨ef,hef,hRf⟩:=hF.pel hx
   cases hRf
   have anf:=wi f0 (by have:=oo.2.2.2.1;unfold inI at this;omega)
   have z3:(slSize wF 1&&Nat.blt b.fin.f.toNat F.length)=true:=by rw[hF.slSize];simpa using f1
   cases x with
   | true =>
    have hG:cq m b=b:=if_neg fun h=>h.2.1 ((hFt _).1 hx)
    obtain⟨y2,g1,g2⟩:=hback hG
    refine⟨y2,?_,g2⟩
    unfold f14_1
    refine aa.nat l (aa.nat ann (aa.chk z1 (aa.tvs he (aa.chk fz (aa.tv gy (aa.tv ly (aa.tv rfl (aa.ite (aH hkl) (fun _=>?_) nofun))))))))
    refine aa.nat l (aa.nat ann (aa.chk z1 (aa.tvs he (aa.chk fz (aa.tv gy (aa.nat lz (aa.nat ank (aa.chk z2 (aa.tv gy (aa.tvs hbk (aa.chk hR.oF (aa.tv rfl ?_))))))))))))
    refine aa.ite (v:=true) (by simp[asBool,h4]) (fun _=>?_) nofun
    refine aa.nat hF.slLen (aa.nat anf (aa.chk z3 (aa.tvs hef (aa.chk rfl (aa.tv rfl (aa.ite (v:=false) rfl nofun fun _=>?_))))))
    exact aa.tv (inc hkl (by omega)) (f14_1_J g1)
   | false =>
    have hnt:¬Thr m b.fin.f.toNat:=fun h=>by rw[(hFt _).2 h]at hx;cases hx
    have gi:=pW (j:=5) gy hbk rfl
    by_cases hl:b.ins.length<64
    ·have hG:cq m b=pz b:=if_pos ⟨h4,hnt,hl⟩
     have i11:inI 11:=by unfold inI;omega
     have i0:inI 0:=by unfold inI;omega
     have i2:inI 2:=by unfold inI;omega
     have w0:inW 0:=by unfold inW;omega
     have hrow:RIns (some false) [I 11,I b.fin.dst,I 0,I 0,W 0,I b.fin.f,g] ⟨11,b.fin.dst,0,0,0,b.fin.f,b.fin.args⟩:=⟨g,rfl,og,i11,oo.2.2.1,i0,i0,w0,oo.2.2.2.1⟩
     obtain⟨rows,p1,p2⟩:=oi.elems
     obtain⟨v27,p3,p4⟩:=RL.fresh (s:=7) p2 (by omega)
     obtain⟨i',a1,a2⟩:=p4.app hrow (by omega)
     have a3:=a2.frz (S:=RIns (some false)) fun _ _ h=>h.frz
     have hB:RBlock (some false) [B b.landing,I b.pad.dst,c,B b.pad.all,B b.pad.cleanup,frz i',I 2,I 0,I 0,I 0,.lit bj,I b.fin.to,I 0,I 0] (pz b):=⟨c,frz i',.lit bj,rfl,oc,od,a3,RL.nil,i2,i0,i0,i0,oo.2.2.2.2.1,i0,i0⟩
     have hwz:RL (some false) 3 (RFunc (some false)) (frz w) (X.set n ⟨p,r,cG (cq m) Y0 k⟩):=hw.frz fun _ _ ⟨b,h1,h2,h3⟩=>⟨frz b,by rw[h1];rfl,h2.frz fun _ _ h=>h.frz,h3⟩
     obtain⟨w2,d1,d2⟩:=Bi hwz hXl e1 (by rw[show(DFunc.blocks ⟨p,r,cG (cq m) Y0 k⟩).length=Y0.length from cS];exact hlen) (gK hb) hB
     have d3:=d2.any
     simp only[List.set_set]at d3
     rw[<-hG,jV hb]at d3
     obtain⟨y2,g1,g2⟩:=ih (k+1) _ (by omega) d3
     refine⟨y2,?_,g2⟩
     have gg:=pW (j:=10) gy hbk rfl
     have gc:=pW (j:=2) gy hbk rfl
     unfold f14_1
     refine aa.nat l (aa.nat ann (aa.chk z1 (aa.tvs he (aa.chk fz (aa.tv gy (aa.tv ly (aa.tv rfl (aa.ite (aH hkl) (fun _=>?_) nofun))))))))
     refine aa.nat l (aa.nat ann (aa.chk z1 (aa.tvs he (aa.chk fz (aa.tv gy (aa.nat lz (aa.nat ank (aa.chk z2 (aa.tv gy (aa.tvs hbk (aa.chk hR.oF (aa.tv rfl ?_))))))))))))
     refine aa.ite (v:=true) (by simp[asBool,h4]) (fun _=>?_) nofun
     refine aa.nat hF.slLen (aa.nat anf (aa.chk z3 (aa.tvs hef (aa.chk rfl (aa.tv rfl (aa.ite (v:=true) rfl (fun _=>?_) nofun))))))
     refine aa.tv gi (aa.tv oi.len (aa.tv rfl (aa.ite (v:=true) (by simp[asBool];omega) (fun _=>?_) nofun)))
     refine aa.tv gi (aa.chk oi.fr (aa.rws p1 (aa.tv p3 (aa.tv gg (aa.ite (v:=true) (congrArg some og.fr) (fun _=>?_) nofun)))))
     exact aa.rws rfl (aa.tv a1 (aa.tv gc (aa.chk oc.fr (aa.call d1 (aa.chk (by simp[TV.isAgg,ab,zSl,az,TV.cellsL,d2.isSl]) (aa.tv (inc hkl (by omega)) (f14_1_J g1)))))))
    ·have hG:cq m b=b:=if_neg fun h=>hl h.2.2
     obtain⟨y2,g1,g2⟩:=hback hG
     refine⟨y2,?_,g2⟩
     unfold f14_1
     refine aa.nat l (aa.nat ann (aa.chk z1 (aa.tvs he (aa.chk fz (aa.tv gy (aa.tv ly (aa.tv rfl (aa.ite (aH hkl) (fun _=>?_) nofun))))))))
     refine aa.nat l (aa.nat ann (aa.chk z1 (aa.tvs he (aa.chk fz (aa.tv gy (aa.nat lz (aa.nat ank (aa.chk z2 (aa.tv gy (aa.tvs hbk (aa.chk hR.oF (aa.tv rfl ?_))))))))))))
     refine aa.ite (v:=true) (by simp[asBool,h4]) (fun _=>?_) nofun
     refine aa.nat hF.slLen (aa.nat anf (aa.chk z3 (aa.tvs hef (aa.chk rfl (aa.tv rfl (aa.ite (v:=true) rfl (fun _=>?_) nofun))))))
     refine aa.tv gi (aa.tv oi.len (aa.tv rfl (aa.ite (v:=false) (by simp[asBool];omega) nofun fun _=>?_)))
     exact aa.tv (inc hkl (by omega)) (f14_1_J g1)
  ·have hG:cq m b=b:=if_neg fun h=>h4 h.1
   obtain⟨y2,g1,g2⟩:=hback hG
   refine⟨y2,?_,g2⟩
   unfold f14_1
   refine aa.nat l (aa.nat ann (aa.chk z1 (aa.tvs he (aa.chk fz (aa.tv gy (aa.tv ly (aa.tv rfl (aa.ite (aH hkl) (fun _=>?_) nofun))))))))
   refine aa.nat l (aa.nat ann (aa.chk z1 (aa.tvs he (aa.chk fz (aa.tv gy (aa.nat lz (aa.nat ank (aa.chk z2 (aa.tv gy (aa.tvs hbk (aa.chk hR.oF (aa.tv rfl ?_))))))))))))
   exact aa.ite (v:=false) (by simp[asBool,h4]) nofun fun _=>aa.tv (inc hkl (by omega)) (f14_1_J g1)
end
theorem zi {x:TV} {m:DMod} (hx:RL (some false) 3 (RFunc (some false)) x m.funcs) (hs:gJ m) (hM:ln m):∃w,ao prog 14 [.agg [x]] (.agg [w])/\RL none 3 ke w (nY m).funcs:=by
 have he:RMod (some false) [x] m:=⟨x,rfl,hx⟩
 obtain⟨wF,a1,F,a2,a3,a4⟩:=Bw he hM
 have hN:=hs.1
 have key:∀(d i:Nat) (w:TV),i+d=m.funcs.length->RL none 3 ke w (cG (jz m) m.funcs i)->∃y,aa prog 14 (f14_0 (I (i:Int)) wF w) y/\∃w',y=.agg [w']/\RL none 3 ke w' (nY m).funcs:=by
  intro d
  induction d with
  | zero =>
   intro i w hi hw
   have hi:i=m.funcs.length:=by omega
   subst hi
   have l:=hw.len (t:=40)
   rw[show(cG (jz m) m.funcs m.funcs.length).length=m.funcs.length from cS]at l
   rw[mw]at hw
   refine⟨_,?_,w,rfl,hw⟩
   unfold f14_0
   exact aa.tv l (aa.tv rfl (aa.ite aI nofun fun _=>aa.ret))
  | succ d ih =>
   intro i w hi hw
   have hil:i<m.funcs.length:=by omega
   obtain⟨u,hu⟩:∃u,m.funcs[i]? = some u:=⟨_,Ci hil⟩
   have hum:=Cq hu
   have hul:i<(cG (jz m) m.funcs i).length:=by rw[cS];exact hil
   have hbd:=nZ hs hum
   have hself:(cG (jz m) m.funcs i).set i ⟨u.params,u.regs,cG (cq m) u.blocks 0⟩=cG (jz m) m.funcs i:=by
    rw[kF]
    exact mm (gK hu)
   have l:=hw.len (t:=40)
   rw[show(cG (jz m) m.funcs i).length=m.funcs.length from cS]at l
   obtain⟨r,g1,g2⟩:=wt a2 a3 a4 (by omega) hul (by rw[cS];omega) (p:=u.params) (r:=u.regs) (Y0:=u.blocks) (by omega) (fun b hb=>⟨by have:=hbd.2 b hb;omega,nD hM hum hb⟩)
    (Z:=fun y=>∃w',y=.agg [w']/\RL none 3 ke w' (nY m).funcs) (fun w2 hw2=>ih (i+1) w2 (by omega) (by rw[<-jV hu];exact hw2)) u.blocks.length 0 w (by omega) (by rw[hself];exact hw)
   refine⟨r,?_,g2⟩
   unfold f14_0
   exact aa.tv l (aa.tv rfl (aa.ite (aH hil) (fun _=>f14_1_J g1) nofun))
 obtain⟨y,g1,w,rfl,g2⟩:=key m.funcs.length 0 x (by omega) (by rw[kF];exact hx.weak fun _ _ ⟨b,h1,h2,h3⟩=>⟨b,h1,h2.any,h3⟩)
 refine⟨w,?_,g2⟩
 refine ao.of (f14_MR _) ?_
 unfold f14_M
 exact aa.chk rfl (aa.call a1 (aa.chk (wS a2.isSl) (aa.chk hx.isSl (f14_0_J g1))))
end Go.Ab.C14
end
section
set_option maxRecDepth 100000
namespace Go.Ab
end Go.Ab
namespace Go.Ab.C14
open Go Go.Ab Go.Proofs
theorem Ai:ao prog 6 [] (B true):=⟨100,by kernel_rfl⟩
theorem rCalmRight {e:List TV} {m:DMod} (he:RMod (some false) e m):ao prog 3 [.agg e] (B true):=by
 obtain⟨sh,hsh,hsm⟩:=r7 he
 have hri:=r9 he
 have he0:=he
 obtain⟨x,rfl,hx⟩:=he
 refine ao.of (f3_MR _) ?_
 unfold f3_M
 refine aa.chk rfl (aa.call Ai (aa.chk rfl (aa.tv rfl (aa.ite (v:=false) rfl nofun fun _=>?_))))
 refine aa.call hsh (aa.chk rfl (aa.tv rfl ?_))
 cases sh with
 | false=>exact aa.ite (v:=true) rfl (fun _=>aa.ret) nofun
 | true =>
  refine aa.ite (v:=false) rfl nofun fun _=>?_
  have hs:=hsm rfl
  obtain⟨e',c1,c2⟩:=r16 he0 hs
  obtain⟨w0,rfl,hw0⟩:=c2
  have fz0:RMod (some false) [frz w0] m:=⟨_,rfl,hw0.frz fun _ _ h=>h.frz⟩
  have t1:=r18 fz0 he0
  rw[dH rfl]at t1
  have hm1:=rMany he0 (sa hs)
  have hm2:=zM he0 (sa hs)
  refine aa.call c1 (aa.chk (by simp[TV.isAgg,ab,zSl,az,TV.cellsL,hw0.isSl]) ?_)
  have neq0:pbin (.int .i64) .neq (I (kP m:Nat)) (I (kP m:Nat))=some (B false):=by
   show some (TV.lit (.bool (!((kP m:Int)==(kP m:Int)))))=_
   rw[beq_self_eq_true]
   rfl
  by_cases hM:ln m
  ·rw[dH hM]at hri
   obtain⟨w,m1,m2⟩:=zw hx hs hM
   obtain⟨_,hq,hw⟩:=m2
   cases hq
   obtain⟨w2,n1,n2⟩:=zi hx hs hM
   have t2:=r18 (a:=nY m) (b:=nY m) (q:=some false) (q':=some false) ⟨_,rfl,hw.frz fun _ _ h=>h.frz⟩ ⟨_,rfl,n2.frz fun _ _ ⟨b,h1,h2,h3⟩=>(⟨frz b,by rw[h1];rfl,h2.frz fun _ _ h=>h.frz,h3⟩:RFunc (some false) _ _)⟩
   rw[dH rfl]at t2
   refine aa.call m1 (aa.chk rfl (aa.chk (by simp[TV.comp,nth,TV.isAgg,ab,zSl,az,TV.cellsL,hw.isSl]) (aa.chk rfl (aa.call hm1 (aa.chk rfl (aa.call hm2 (aa.chk rfl (aa.tv neq0 (aa.ite (v:=false) rfl nofun fun _=>?_)))))))))
   refine aa.call t1 (aa.chk rfl (aa.tv rfl (aa.ite (v:=false) rfl nofun fun _=>aa.call hri (aa.chk rfl (aa.tv rfl (aa.ite (v:=false) rfl nofun fun _=>?_))))))
   refine aa.tv rfl (aa.ite (v:=true) rfl (fun _=>?_) nofun)
   exact aa.call n1 (aa.chk (by simp[TV.isAgg,ab,zSl,az,TV.cellsL,n2.isSl]) (aa.call t2 (aa.chk rfl aa.ret)))
  ·rw[gH hM]at hri
   obtain⟨w,m1,m2⟩:=A1 he0 hs hM
   obtain⟨_,hq,hw⟩:=m2
   cases hq
   have t2:=r18 (a:=m) (b:=m) (q:=some false) (q':=some false) ⟨_,rfl,hw.frz fun _ _ h=>h.frz⟩ he0
   rw[dH rfl]at t2
   refine aa.call m1 (aa.chk rfl (aa.chk (by simp[TV.comp,nth,TV.isAgg,ab,zSl,az,TV.cellsL,hw.isSl]) (aa.chk rfl (aa.call hm1 (aa.chk rfl (aa.call hm2 (aa.chk rfl (aa.tv neq0 (aa.ite (v:=false) rfl nofun fun _=>?_)))))))))
   refine aa.call t1 (aa.chk rfl (aa.tv rfl (aa.ite (v:=false) rfl nofun fun _=>aa.call hri (aa.chk rfl (aa.tv rfl (aa.ite (v:=true) rfl (fun _=>?_) nofun))))))
   refine aa.tv rfl (aa.ite (v:=true) rfl (fun _=>?_) nofun)
   exact aa.call t2 (aa.chk rfl aa.ret)
end Go.Ab.C14
end
section
namespace Go.Ab
open Go.RowKit
theorem a7 {α:Type} (d:α):∀(l:List α) (n:Nat),nth d l n=(l[n]?).getD d
 | [],n=>by simp[nth]
 | a::l,0=>rfl
 | a::l,n+1=>by simp[nth,a7 d l n]
theorem ag {α:Type}:∀(l:List α) (n:Nat) (b:α),ai l n b=l.set n b
 | [],n,b=>by simp[ai]
 | a::l,0,b=>rfl
 | a::l,n+1,b=>by simp[ai,ag l n b]
theorem bG {α:Type} {d:α} {l:List α} {n:Nat} {a:α} (h:l[n]? = some a):nth d l n=a:=by rw[a7,h];rfl
theorem aG (a b:Nat):a.beq b=true ↔ a=b:=⟨Nat.eq_of_beq_eq_true,fun h=>h▸Nat.beq_refl a⟩
theorem bF (n:Nat):∀l:List Nat,bC n l=true ↔ n∈l
 | []=>by simp[bC]
 | a :: l => by
  cases h:a.beq n
  ·have:a≠n:=fun e=>by simp[e]at h
   simp only[bC,h,cond_false,bF n l,List.mem_cons]
   constructor
   ·exact .inr
   ·rintro(e|e)
    ·exact absurd e.symm this
    ·exact e
  ·simp only[bC,h,cond_true,List.mem_cons,true_iff]
   exact .inl ((aG a n).1 h).symm
theorem ek (a:Addr) (k:Nat):(a.add k).block=a.block:=by unfold Addr.add;split<;>rfl
theorem dT (a:Addr) (i j:Nat):(a.add i).add j=a.add (i+j):=by
 unfold Addr.add
 by_cases hi:i=0<;>by_cases hj:j=0<;>simp[hi,hj,Nat.add_assoc]
theorem fc (b o k:Nat):(⟨b,o,none⟩:Addr).add k=⟨b,o+k,none⟩:=by unfold Addr.add;split<;>simp_all
def spl {α:Type} (l:List α) (o:Nat) (ys:List α):List α:=l.take o++ys++l.drop (o+ys.length)
theorem gd {α:Type} {l ys:List α} {o:Nat} (h:o+ys.length<=l.length):(spl l o ys).length=l.length:=by
 simp only[spl,List.length_append,List.length_take,List.length_drop]
 omega
theorem cp {α:Type} {l ys:List α} {o:Nat} (h:o+ys.length<=l.length) (k:Nat):(spl l o ys)[k]? = if o<=k/\k<o+ys.length then ys[k-o]? else l[k]? := by
 have e1:(l.take o).length=o:=by simp;omega
 unfold spl
 by_cases h1:k<o
 ·rw[List.append_assoc,Cr (by omega),List.getElem?_take,if_pos h1,if_neg (by omega)]
 ·by_cases h2:k<o+ys.length
  ·rw[List.append_assoc,Cs (by omega),e1,Cr (by omega),if_pos (by omega)]
  ·rw[Cs (by simp;omega),List.getElem?_drop,if_neg (by omega)]
   congr 1
   simp
   omega
theorem ej {α:Type}:∀(ps l:List α) (off:Nat),off+ps.length<=l.length->bu l off ps=spl l off ps
 | [],l,off,h=>by simp[bu,spl]
 | p :: ps, l, off, h => by
  have hlt:off<l.length:=by simp at h;omega
  simp only[bu]
  rw[ag,ej ps (l.set off p) (off+1) (by simp at h ⊢;omega)]
  apply List.ext_getElem?
  intro k
  rw[cp (by simp at h ⊢;omega),cp h]
  simp only[List.length_cons,List.getElem?_set]
  by_cases h1:k<off
  ·rw[if_neg (by omega),if_neg (by omega),if_neg (by omega)]
  ·by_cases h2:k=off
   ·subst h2
    rw[if_neg (by omega),if_pos (by omega)]
    simp[hlt]
   ·by_cases h3:k<off+(ps.length+1)
    ·rw[if_pos (by omega),if_pos (by omega)]
     rw[show k-off=(k-(off+1))+1 by omega,List.getElem?_cons_succ]
    ·rw[if_neg (by omega),if_neg (by omega),if_neg (by omega)]
theorem dZ {α:Type}:∀(l:List α) (o n:Nat) (r:List α),jw l o n=some r->r.length=n/\(n=0\/o+n<=l.length)/\∀j,j<n->r[j]? = l[o+j]?
 | l,o,0,r,h=>by cases l<;>simp[jw]at h<;>subst h<;>simp
 | [],o,n+1,r,h=>by simp[jw]at h
 | a :: l, 0, n + 1, r, h => by
  simp only[jw]at h
  cases h1:jw l 0 n with
  | none=>simp[h1]at h
  | some r' =>
   simp only[h1,Cj]at h
   subst h
   obtain⟨i1,i2,i3⟩:=dZ l 0 n r' h1
   refine⟨by simp[i1],.inr (by simp;omega),fun j hj=>?_⟩
   cases j with
   | zero=>simp
   | succ j=>simpa using i3 j (by omega)
 | a::l,o+1,n+1,r,h=>by
  simp only[jw]at h
  obtain⟨i1,i2,i3⟩:=dZ l o (n+1) r h
  refine⟨i1,.inr (by rcases i2 with i2|i2<;>simp<;>omega),fun j hj=>?_⟩
  rw[i3 j hj,show o+1+j=(o+j)+1 by omega,List.getElem?_cons_succ]
theorem bU {α:Type} {s:Nat}:∀{xs:List (List α)},(∀x∈xs,x.length=s)->xs.flatten.length=xs.length*s
 | [],_=>by simp
 | x::xs,h=>by
  simp only[List.flatten_cons,List.length_append,List.length_cons,h x Co,bU (fun y hy=>h y (Cp _ hy)),Nat.add_mul]
  omega
theorem eH {α:Type} {s:Nat}:∀{xs:List (List α)} {i j:Nat} {x:List α} {c:α},(∀x∈xs,x.length=s)->xs[i]? = some x->x[j]? = some c->xs.flatten[i*s+j]? = some c
 | x::xs,0,j,_,c,h,hi,hj=>by
  simp at hi
  subst hi
  rw[List.flatten_cons,Cr (by simp;exact(Ch.1 hj).1)]
  simpa using hj
 | x::xs,i+1,j,y,c,h,hi,hj=>by
  simp at hi
  have hx:=h x Co
  rw[List.flatten_cons,Cs (by rw[hx,Nat.add_mul];omega),hx,show(i+1)*s+j-s=i*s+j by rw[Nat.add_mul];omega]
  exact eH (fun z hz=>h z (Cp _ hz)) hi hj
theorem take_add {α:Type} {x l:List α} {s n:Nat} (h:x.length=s):(x++l).take (s+n)=x++l.take n:=by
 subst h
 exact List.take_length_add_append n
theorem uU {α:Type} {x l:List α} {s n:Nat} (h:x.length=s):(x++l).drop (s+n)=l.drop n:=by
 subst h
 exact List.drop_length_add_append n
theorem mU (n s:Nat):(n+1)*s=s+n*s:=by rw[Nat.add_mul];omega
theorem nr {α:Type} {s:Nat}:∀{xs:List (List α)} (n:Nat),(∀x∈xs,x.length=s)->(xs.take n).flatten=xs.flatten.take (n*s)
 | [],n,_=>by simp
 | x::xs,0,_=>by simp
 | x::xs,n+1,h=>by
  have hx:=h x Co
  rw[List.take_succ_cons,List.flatten_cons,List.flatten_cons,nr n (fun z hz=>h z (Cp _ hz)),mU,take_add hx]
theorem ns {α:Type} {s:Nat}:∀{xs:List (List α)} (n:Nat),(∀x∈xs,x.length=s)->(xs.drop n).flatten=xs.flatten.drop (n*s)
 | [],n,_=>by simp
 | x::xs,0,_=>by simp
 | x::xs,n+1,h=>by
  have hx:=h x Co
  rw[List.drop_succ_cons,List.flatten_cons,ns n (fun z hz=>h z (Cp _ hz)),mU,uU hx]
theorem uw {α:Type} {s:Nat}:∀{xs:List (List α)} {i:Nat} {x y:List α},(∀x∈xs,x.length=s)->xs[i]? = some x->y.length=s->(xs.set i y).flatten=spl xs.flatten (i*s) y
 | x::xs,0,_,y,h,hi,hy=>by
  simp at hi
  subst hi
  have hx:=h x Co
  simp only[List.set_cons_zero,List.flatten_cons,Nat.zero_mul,spl,List.take_zero,List.nil_append,Nat.zero_add,hy,List.drop_append,hx,Nat.sub_self,List.drop_zero]
  rw[List.drop_of_length_le (by omega),List.nil_append]
 | x::xs,i+1,z,y,h,hi,hy=>by
  simp at hi
  have hx:=h x Co
  have ih:=uw (fun z hz=>h z (Cp _ hz)) hi hy
  simp only[List.set_cons_succ,List.flatten_cons,ih,spl,mU,take_add hx,hy]
  rw[show s+i*s+s=s+(i*s+s) by omega,uU hx]
  simp only[List.append_assoc]
theorem wJ {α:Type} {s:Nat} {xs:List (List α)} {i:Nat} {y:List α} (h:∀x∈xs,x.length=s) (hy:y.length=s):∀x∈xs.set i y,x.length=s:=by
 intro x hx
 rcases List.mem_or_eq_of_mem_set hx with h'|h'
 ·exact h x h'
 ·rw[h'];exact hy
theorem vu {α:Type} {s:Nat} {xs:List (List α)} {i j:Nat} {x ys:List α} (h:∀x∈xs,x.length=s) (hi:xs[i]? = some x) (hj:j+ys.length<=x.length) :
  (xs.set i (spl x j ys)).flatten=spl xs.flatten (i*s+j) ys/\i*s+j+ys.length<=xs.flatten.length:=by
 have hx:=h x (Cq hi)
 have hlt:i<xs.length:=(Ch.1 hi).1
 have hle:i*s+s<=xs.flatten.length:=by
  rw[bU h]
  have:=Nat.mul_le_mul_right s (Nat.succ_le_of_lt hlt)
  rw[Nat.succ_mul]at this
  exact this
 refine⟨?_,by omega⟩
 rw[uw h hi (by rw[gd hj,hx])]
 apply List.ext_getElem?
 intro k
 rw[cp (l:=xs.flatten) (ys:=spl x j ys) (by rw[gd hj];omega),cp (l:=xs.flatten) (ys:=ys) (by omega),gd hj,hx]
 by_cases h1:i*s<=k/\k<i*s+s
 ·rw[if_pos h1,cp hj]
  by_cases h2:j<=k-i*s/\k-i*s<j+ys.length
  ·rw[if_pos h2,if_pos (by omega)]
   congr 1
   omega
  ·rw[if_neg h2,if_neg (by omega)]
   have hk:k-i*s<x.length:=by omega
   have:=eH h hi (Ci hk)
   rw[show i*s+(k-i*s)=k by omega]at this
   rw[this,Ci hk]
 ·rw[if_neg h1,if_neg (by omega)]
inductive Rep (w:World) (I:Nat->Prop):TV->Value->Prop
 | lit (v:Value):Rep w I (.lit v) v
 | hole (v:Value):Rep w I .hole v
 | buf {s:ByteArray} (e:TypeId) (h:s.size=0):Rep w I (.buf s e) bj
 | sl {size : Nat} {xs : List (List TV)} {a : Addr} {cap : Nat} (cell : Nat → Value) (hI : 0 < xs.length → I a.block) (hc : xs.length ≤ cap) (hm : cap ≤ maxLen)
   (hl:∀x∈xs,x.length=size) (hcell:∀k,k<xs.length*size->w.cell? (a.add k)=some (cell k)) (h1:∀k,k<xs.length*size->(cell k).oneCell'=true)
   (hr:∀(i:Nat) (x:List TV),xs[i]? = some x->∀(j:Nat) (c:TV),x[j]? = some c->Rep w I c (cell (i*size+j))):Rep w I (.sl false size xs) (.slice (some a) xs.length cap)
 | agg {cs : List TV} {vs : Array Value} (hl : vs.size = cs.length) (h1 : ∀ j, j < vs.size → (vs.getD j undef).oneCell' = true)
   (hr:∀(j:Nat) (c:TV),cs[j]? = some c->Rep w I c (vs.getD j undef)):Rep w I (.agg cs) (.agg vs)
 | tup {cs:List TV} {vs:Array Value} (hl:vs.size=cs.length) (hr:∀(j:Nat) (c:TV),cs[j]? = some c->Rep w I c (vs.getD j undef)):Rep w I (.tup cs) (.tuple vs)
theorem Rep.mv {w w':World} {I I':Nat->Prop} (hh:∀b,I b->w'.heap[b]? = w.heap[b]?) (hI:∀b,I b->I' b) {x:TV} {v:Value} (h:Rep w I x v):Rep w' I' x v:=by
 induction h with
 | lit v=>exact .lit v
 | hole v=>exact .hole v
 | buf e h=>exact .buf e h
 | sl cell i c m l hcell h1 _ ih =>
  exact .sl cell (fun h=>hI _ (i h)) c m l (fun k hk=>by rw[<-hcell k hk];exact World.cell?_of_block (by rw[ek];exact hh _ (i (Nat.pos_of_ne_zero (fun e=>by simp[e]at hk))))) h1 ih
 | agg hl h1 _ ih=>exact .agg hl h1 ih
 | tup hl _ ih=>exact .tup hl ih
structure Row (w:World) (a:Addr) (n cap size:Nat) (us:List Value) (vs:Array Value) (ty:TypeId):Prop where
 heap:w.heap[a.block]? = some (.cells vs ty (0,0))
 spot:a.spot=none
 le:n<=cap
 max:cap<=maxLen
 fit:a.off+cap*size<=vs.size
 len:us.length=n*size
 cells:∀k,k<n*size->vs[a.off+k]? = us[k]?
 one:∀u∈us,u.oneCell'=true
theorem Row.cell {w:World} {a:Addr} {n cap size:Nat} {us:List Value} {vs:Array Value} {ty:TypeId} (h:Row w a n cap size us vs ty) {k:Nat} {u:Value} (hk:us[k]? = some u):w.cell? (a.add k)=some u:=by
 have hlt:k<n*size:=by rw[<-h.len];exact(Ch.1 hk).1
 have:a.add k=⟨a.block,a.off+k,none⟩:=by
  have:=h.spot
  obtain⟨b,o,sp⟩:=a
  simp at this
  subst this
  exact fc b o k
 rw[this]
 simp only[World.cell?,h.heap]
 simp only[Option.isSome_none,Bool.false_eq_true,if_false]
 rw[h.cells k hlt,hk]
inductive al (w:World) (I:Nat->Prop):TV->Value->(Nat->Prop)->Prop
 | fr {x:TV} {v:Value} {S:Nat->Prop} (h:Rep w I x v):al w I x v S
 | sl {size : Nat} {xs : List (List TV)} {a : Addr} {cap : Nat} {S : Nat → Prop} (us : List Value) (vs : Array Value) (ty : TypeId) (F : Nat → Nat → Prop) (hS : S a.block)
   (row:Row w a xs.length cap size us vs ty) (hl:∀x∈xs,x.length=size) (hr:∀(k:Nat) (c:TV),xs.flatten[k]? = some c->al w I c (us.getD k undef) (F k))
   (hF:∀k b,F k b->S b/\b≠a.block) (hd:∀k k' b,F k b->F k' b->k=k'):al w I (.sl true size xs) (.slice (some a) xs.length cap) S
 | agg {cs : List TV} {vs : Array Value} {S : Nat → Prop} (F : Nat → Nat → Prop) (hl : vs.size = cs.length) (h1 : ∀ j, j < vs.size → (vs.getD j undef).oneCell' = true)
   (hr:∀(j:Nat) (c:TV),cs[j]? = some c->al w I c (vs.getD j undef) (F j)) (hF:∀j b,F j b->S b) (hd:∀k k' b,F k b->F k' b->k=k'):al w I (.agg cs) (.agg vs) S
 | buf {s:ByteArray} {e:TypeId} {v:Value} {S:Nat->Prop} (h:w.ownsRowF 0 e 1 v s.size (Lib.strCells s)) (hS:∀b,v.ownBlock=some b->S b):al w I (.buf s e) v S
 | tup {cs : List TV} {vs : Array Value} {S : Nat → Prop} (F : Nat → Nat → Prop) (hl : vs.size = cs.length)
   (hr:∀(j:Nat) (c:TV),cs[j]? = some c->al w I c (vs.getD j undef) (F j)) (hF:∀j b,F j b->S b) (hd:∀k k' b,F k b->F k' b->k=k'):al w I (.tup cs) (.tuple vs) S
theorem _root_.Go.World.ownsRowF.moved {w w':World} {base:Nat} {e:TypeId} {size:Nat} {v:Value} {n:Nat} {xs:List Value} (h:w.ownsRowF base e size v n xs) (hh:∀b,v.ownBlock=some b->w'.heap[b]? = w.heap[b]?):w'.ownsRowF base e size v n xs:=by
 refine⟨h.1,?_⟩
 rcases h.2 with hn|⟨g,cap,cur,fz,rfl,hb,hgg,rest⟩
 ·exact .inl hn
 ·exact .inr ⟨g,cap,cur,fz,rfl,hb,by rw[hh g rfl];exact hgg,rest⟩
theorem al.mv {w w':World} {I I':Nat->Prop} (hI:∀b,I b->w'.heap[b]? = w.heap[b]?) (hs:∀b,I b->I' b) {x:TV} {v:Value} {S:Nat->Prop} (h:al w I x v S) :
  ∀{S':Nat->Prop},(∀b,S b->w'.heap[b]? = w.heap[b]?)->(∀b,S b->S' b)->al w' I' x v S':=by
 induction h with
 | fr h=>intro S' _ _;exact .fr (h.mv hI hs)
 | @sl size xs a cap S us vs ty F hS row hl hr hF hd ih =>
  intro S' hh hSS
  exact .sl us vs ty F (hSS _ hS) ⟨by rw[hh _ hS];exact row.heap,row.spot,row.le,row.max,row.fit,row.len,row.cells,row.one⟩ hl (fun k c hk=>ih k c hk (fun b hb=>hh b (hF k b hb).1) (fun b hb=>hb))
   (fun k b hb=>⟨hSS b (hF k b hb).1,(hF k b hb).2⟩) hd
 | @buf s e v S h hS =>
  intro S' hh hSS
  exact .buf (h.moved (fun b hb=>hh b (hS b hb))) (fun b hb=>hSS b (hS b hb))
 | @agg cs vs S F hl h1 hr hF hd ih =>
  intro S' hh hSS
  exact .agg F hl h1 (fun k c hk=>ih k c hk (fun b hb=>hh b (hF k b hb)) (fun b hb=>hb)) (fun k b hb=>hSS b (hF k b hb)) hd
 | @tup cs vs S F hl hr hF hd ih =>
  intro S' hh hSS
  exact .tup F hl (fun k c hk=>ih k c hk (fun b hb=>hh b (hF k b hb)) (fun b hb=>hb)) (fun k b hb=>hSS b (hF k b hb)) hd
theorem al.mono {w:World} {I:Nat->Prop} {x:TV} {v:Value} {S S':Nat->Prop} (h:al w I x v S) (hS:∀b,S b->S' b):al w I x v S' :=
 h.mv (fun _ _=>rfl) (fun _ h=>h) (fun _ _=>rfl) hS
theorem bp {w:World} {I:Nat->Prop} {v u:Value} (h:Rep w I (.lit v) u):u=v:=by cases h;rfl
theorem a9 {w:World} {I:Nat->Prop} {v u:Value} {S:Nat->Prop} (h:al w I (.lit v) u S):u=v:=by cases h with|fr h=>exact bp h
theorem zg {w:World} {I:Nat->Prop} {s:Nat} {xs:List (List TV)} {u:Value} {S:Nat->Prop} (h:al w I (.sl false s xs) u S):Rep w I (.sl false s xs) u:=by cases h with|fr h=>exact h
theorem oV {w:World} {I:Nat->Prop} {o:Bool} {s:Nat} {xs:List (List TV)} {u:Value} {S:Nat->Prop} (h:al w I (.sl o s xs) u S):∃a cap,u=.slice (some a) xs.length cap:=by
 cases h with
 | fr h=>cases h;exact⟨_,_,rfl⟩
 | sl=>exact⟨_,_,rfl⟩
theorem gw {w:World} {I:Nat->Prop} {x:TV} {u:Value} {S:Nat->Prop} (h:al w I x u S) (hx:x.isSl=true):∃a n cap,u=.slice a n cap:=by
 cases x with
 | lit v =>
  have:=a9 h
  subst this
  cases u<;>simp[TV.isSl,az]at hx ⊢
 | sl o s xs=>obtain⟨a,cap,rfl⟩:=oV h;exact⟨_,_,_,rfl⟩
 | _=>simp[TV.isSl]at hx
theorem o5 {v:Value} (h:scV v=true):v.oneCell'=true:=by cases v<;>first|rfl|simp[scV]at h
theorem eT {w:World} {I:Nat->Prop} {x:TV} {u:Value} {S:Nat->Prop} (h:al w I x u S) (hx:x.isSc=true):x=.lit u/\scV u=true:=by
 cases x with
 | lit v =>
  have:=a9 h
  subst this
  exact⟨rfl,hx⟩
 | _=>simp[TV.isSc]at hx
theorem BL {w:World} {I:Nat->Prop} {x:TV} {u:Value} {S:Nat->Prop} (h:al w I x u S):Rep w I x.lf u:=by
 cases x with
 | lit v=>have:=a9 h;subst this;exact .lit _
 | _=>exact .hole _
theorem kt:∀l:List TV,mu l=l.map frz
 | []=>rfl
 | x::l=>by simp[mu,kt l]
theorem fw:∀l:List (List TV),qb l=l.map fun x=>x.map frz
 | []=>rfl
 | x::l=>by simp[qb,fw l,kt]
theorem AG:∀l:List TV,lfL l=l.map TV.lf
 | []=>rfl
 | x::l=>by simp[lfL,AG l]
theorem wI:∀l:List (List TV),yX l=l.map fun x=>x.map TV.lf
 | []=>rfl
 | x::l=>by simp[yX,wI l,AG]
theorem Rep.frz {w:World} {I:Nat->Prop} {x:TV} {v:Value} (h:Rep w I x v):Rep w I (frz x) v:=by
 induction h with
 | lit v=>exact .lit v
 | hole v=>exact .hole v
 | buf e h=>exact .hole _
 | @sl size xs a cap cell hI hc hm hl hcell h1 _ ih =>
  simp only[Ab.frz,fw]
  have hlen:(xs.map fun x=>x.map Ab.frz).length=xs.length:=by simp
  have key:Rep w I (.sl false size (xs.map fun x=>x.map Ab.frz)) (.slice (some a) (xs.map fun x=>x.map Ab.frz).length cap):=by
   refine .sl cell (by rw[hlen];exact hI) (by rw[hlen];exact hc) hm (fun x hx=>?_) (by rw[hlen];exact hcell) (by rw[hlen];exact h1) (fun i y hy j c hj=>?_)
   ·obtain⟨y,hy,rfl⟩:=List.mem_map.1 hx
    simpa using hl y hy
   ·rw[Cn]at hy
    cases hxi:xs[i]? with
    | none=>simp[hxi]at hy
    | some x =>
     simp only[hxi,Cv,Cj]at hy
     subst hy
     rw[Cn]at hj
     cases hxj:x[j]? with
     | none=>simp[hxj]at hj
     | some c' =>
      simp only[hxj,Cv,Cj]at hj
      subst hj
      exact ih i x hxi j c' hxj
  rwa[hlen]at key
 | @agg cs vs hl h1 _ ih =>
  simp only[Ab.frz,kt]
  refine .agg (by simpa using hl) h1 (fun j c hj=>?_)
  rw[Cn]at hj
  cases hxj:cs[j]? with
  | none=>simp[hxj]at hj
  | some c'=>simp only[hxj,Cv,Cj]at hj;subst hj;exact ih j c' hxj
 | @tup cs vs hl _ ih =>
  simp only[Ab.frz,kt]
  refine .tup (by simpa using hl) (fun j c hj=>?_)
  rw[Cn]at hj
  cases hxj:cs[j]? with
  | none=>simp[hxj]at hj
  | some c'=>simp only[hxj,Cv,Cj]at hj;subst hj;exact ih j c' hxj
theorem al.frz {w:World} {I I':Nat->Prop} (hI:∀b,I b->I' b) {x:TV} {v:Value} {S:Nat->Prop} (h:al w I x v S):(∀b,S b->I' b)->Rep w I' (frz x) v:=by
 induction h with
 | fr h=>intro _;exact(h.mv (fun _ _=>rfl) hI).frz
 | buf _ _=>intro _;exact .hole _
 | @sl size xs a cap S us vs ty F hS row hl hr hF hd ih =>
  intro hSI
  simp only[Ab.frz,fw]
  have hlen:(xs.map fun x=>x.map Ab.frz).length=xs.length:=by simp
  have key:Rep w I' (.sl false size (xs.map fun x=>x.map Ab.frz)) (.slice (some a) (xs.map fun x=>x.map Ab.frz).length cap):=by
   refine .sl (fun k=>us.getD k undef) (fun _=>hSI _ hS) (by rw[hlen];exact row.le) row.max (fun x hx=>?_) (fun k hk=>?_) (fun k hk=>?_) (fun i y hy j c hj=>?_)
   ·obtain⟨y,hy,rfl⟩:=List.mem_map.1 hx
    simpa using hl y hy
   ·rw[hlen]at hk
    have:k<us.length:=by rw[row.len];exact hk
    exact row.cell (by simp[Ci this])
   ·rw[hlen]at hk
    have:k<us.length:=by rw[row.len];exact hk
    simp only[Cw,Ci this,Option.getD_some]
    exact row.one _ (List.getElem_mem this)
   ·rw[Cn]at hy
    cases hxi:xs[i]? with
    | none=>simp[hxi]at hy
    | some x =>
     simp only[hxi,Cv,Cj]at hy
     subst hy
     rw[Cn]at hj
     cases hxj:x[j]? with
     | none=>simp[hxj]at hj
     | some c' =>
      simp only[hxj,Cv,Cj]at hj
      subst hj
      exact ih _ c' (eH hl hxi hxj) (fun b hb=>hSI b (hF _ b hb).1)
  rwa[hlen]at key
 | @agg cs vs S F hl h1 hr hF hd ih =>
  intro hSI
  simp only[Ab.frz,kt]
  refine .agg (by simpa using hl) h1 (fun j c hj=>?_)
  rw[Cn]at hj
  cases hxj:cs[j]? with
  | none=>simp[hxj]at hj
  | some c'=>simp only[hxj,Cv,Cj]at hj;subst hj;exact ih j c' hxj (fun b hb=>hSI b (hF j b hb))
 | @tup cs vs S F hl hr hF hd ih =>
  intro hSI
  simp only[Ab.frz,kt]
  refine .tup (by simpa using hl) (fun j c hj=>?_)
  rw[Cn]at hj
  cases hxj:cs[j]? with
  | none=>simp[hxj]at hj
  | some c'=>simp only[hxj,Cv,Cj]at hj;subst hj;exact ih j c' hxj (fun b hb=>hSI b (hF j b hb))
theorem eU:∀{l:List TV},bN l=true->∀x∈l,bX x=true
 | [],_,x,hx=>by simp at hx
 | y::l,h,x,hx=>by
  simp only[bN,Ck]at h
  rcases List.mem_cons.1 hx with rfl|hx
  ·exact h.1
  ·exact eU h.2 x hx
theorem nN:∀{l:List (List TV)},kr l=true->∀x∈l,bN x=true
 | [],_,x,hx=>by simp at hx
 | y::l,h,x,hx=>by
  simp only[kr,Ck]at h
  rcases List.mem_cons.1 hx with rfl|hx
  ·exact h.1
  ·exact nN h.2 x hx
theorem Rep.own {w:World} {I I':Nat->Prop} {x:TV} {v:Value} (h:Rep w I x v):bX x=true->Rep w I' x v:=by
 induction h with
 | lit v=>intro _;exact .lit v
 | hole v=>intro _;exact .hole v
 | buf e h=>intro _;exact .buf e h
 | sl=>intro h;simp[bX]at h
 | @agg cs vs hl h1 _ ih=>intro h;simp only[bX]at h;exact .agg hl h1 (fun j c hj=>ih j c hj (eU h c (Cq hj)))
 | @tup cs vs hl _ ih=>intro h;simp only[bX]at h;exact .tup hl (fun j c hj=>ih j c hj (eU h c (Cq hj)))
theorem al.own {w:World} {I I':Nat->Prop} {x:TV} {v:Value} {S:Nat->Prop} (h:al w I x v S):bX x=true->al w I' x v S:=by
 induction h with
 | fr h=>intro ho;exact .fr (h.own ho)
 | buf h hS=>intro _;exact .buf h hS
 | @sl size xs a cap S us vs ty F hS row hl hr hF hd ih =>
  intro ho
  simp only[bX,Bool.true_and]at ho
  refine .sl us vs ty F hS row hl (fun k c hk=>ih k c hk ?_) hF hd
  obtain⟨x,hx,hc⟩:=List.mem_flatten.1 (Cq hk)
  exact eU (nN ho x hx) c hc
 | @agg cs vs S F hl h1 hr hF hd ih=>intro ho;simp only[bX]at ho;exact .agg F hl h1 (fun j c hj=>ih j c hj (eU ho c (Cq hj))) hF hd
 | @tup cs vs S F hl hr hF hd ih=>intro ho;simp only[bX]at ho;exact .tup F hl (fun j c hj=>ih j c hj (eU ho c (Cq hj))) hF hd
end Go.Ab
end
section
namespace Go.Ab
open Go.RowKit
def TV.nd (x:TV):Option (Nat × Nat):=match x with | .sl _ s xs=>some (s,xs.length)|_=>none
def Node (w:World):Way->TV->Value->Value->Option (Nat × Nat)->Prop
 | [],x,u,v,nd=>v=u/\nd=x.nd
 | (k,j)::p,x,u,v,nd=>∃o s xs a n cap e y u',x=.sl o s xs/\u=.slice (some a) n cap/\xs[k]? = some e/\e[j]? = some y/\w.cell? (a.add (k*s+j))=some u'/\Node w p y u' v nd
section
variable {w w':World} {I I':Nat->Prop} {x y:TV} {u v:Value} {S:Nat->Prop}
theorem getD_some {l:List Value} {k:Nat} {u:Value} (h:l[k]? = some u):l.getD k undef=u:=by simp[h]
theorem al.child {o:Bool} {s:Nat} {xs:List (List TV)} (h:al w I (.sl o s xs) u S) {k j:Nat} {e:List TV} {y:TV} (hk:xs[k]? = some e) (hj:e[j]? = some y) :
  ∃a cap u' S',u=.slice (some a) xs.length cap/\w.cell? (a.add (k*s+j))=some u'/\u'.oneCell'=true/\al w I y u' S'/\(∀b,S' b->S b)/\(S a.block\/I a.block)/\e.length=s:=by
 have hlt:k<xs.length:=(Ch.1 hk).1
 cases h with
 | fr h =>
  cases h with
  | @sl _ _ a cap cell hI hc hm hl hcell h1 hr =>
   have hel:=hl e (Cq hk)
   have hf:k*s+j<xs.length*s:=by
    have hj':=(Ch.1 hj).1
    have:=Nat.mul_le_mul_right s (Nat.succ_le_of_lt hlt)
    rw[Nat.succ_mul]at this
    omega
   exact⟨a,cap,_,fun _=>False,rfl,hcell _ hf,h1 _ hf,.fr (hr k e hk j y hj),fun _ h=>h.elim,.inr (hI (by omega)),hel⟩
 | @sl _ _ a cap S us vs ty F hS row hl hr hF hd =>
  have hel:=hl e (Cq hk)
  have hfg:=eH hl hk hj
  have hlt2:k*s+j<us.length:=by
   rw[row.len,<-bU hl]
   exact(Ch.1 hfg).1
  have hu:=Ci hlt2
  refine⟨a,cap,us[k*s+j],F (k*s+j),rfl,row.cell hu,row.one _ (List.getElem_mem hlt2),?_,fun b hb=>(hF _ b hb).1,.inl hS,hel⟩
  have:=hr _ _ hfg
  rwa[getD_some hu]at this
theorem Node.mv:∀{p:Way} {x:TV} {u v:Value} {nd:Option (Nat × Nat)} {S:Nat->Prop},al w I x u S->(∀b,I b->w'.heap[b]? = w.heap[b]?)->(∀b,S b->w'.heap[b]? = w.heap[b]?)->Node w p x u v nd->Node w' p x u v nd
 | [],x,u,v,nd,S,_,_,_,h=>h
 | (k,j)::p,x,u,v,nd,S,hr,hI,hS,⟨o,s,xs,a,n,cap,e,y,u',hx,hu,he,hy,hc,h⟩=>by
  subst hx
  obtain⟨a',cap',u2,S',h1,h2,h3,h4,h5,h6,h7⟩:=hr.child he hy
  rw[hu]at h1
  cases h1
  rw[hc]at h2
  cases h2
  refine⟨o,s,xs,a,_,_,e,y,u',rfl,hu,he,hy,?_,Node.mv h4 hI (fun b hb=>hS b (h5 b hb)) h⟩
  rw[<-hc]
  refine World.cell?_of_block ?_
  rw[ek]
  rcases h6 with h6|h6
  ·exact hS _ h6
  ·exact hI _ h6
theorem al.get:∀{p:Way} {x y:TV} {u:Value} {S:Nat->Prop},al w I x u S->aS p x=some y->∃v S',Node w p x u v y.nd/\al w I y v S'/\(∀b,S' b->S b)/\(p≠[]->v.oneCell'=true)
 | [],x,y,u,S,hr,h=>by
  simp only[aS,Cj]at h
  subst h
  exact⟨u,S,⟨rfl,rfl⟩,hr,fun _ h=>h,fun h=>absurd rfl h⟩
 | (k, j) :: p, x, y, u, S, hr, h => by
  cases x with
  | sl o s xs =>
   simp only[aS]at h
   cases he:xs[k]? with
   | none=>simp[he]at h
   | some e =>
    simp only[he]at h
    cases hz:e[j]? with
    | none=>simp[hz]at h
    | some z =>
     simp only[hz]at h
     obtain⟨a,cap,u',S1,h1,h2,h3,h4,h5,h6,h7⟩:=hr.child he hz
     obtain⟨v,S2,n1,n2,n3,n4⟩:=al.get h4 h
     refine⟨v,S2,⟨o,s,xs,a,_,cap,e,z,u',rfl,h1,he,hz,h2,n1⟩,n2,fun b hb=>h5 b (n3 b hb),fun _=>?_⟩
     cases p with
     | nil=>rw[n1.1];exact h3
     | cons=>exact n4 (by simp)
  | _=>simp[aS]at h
theorem Node.unique:∀{p:Way} {x:TV} {u v v':Value} {nd nd':Option (Nat × Nat)},Node w p x u v nd->Node w p x u v' nd'->v=v'/\nd=nd'
 | [],x,u,v,v',nd,nd',h,h'=>⟨h.1.trans h'.1.symm,h.2.trans h'.2.symm⟩
 | (k,j)::p,x,u,v,v',nd,nd',⟨o,s,xs,a,n,cap,e,y,u',hx,hu,he,hy,hc,h⟩,⟨o2,s2,xs2,a2,n2,cap2,e2,y2,u2,hx2,hu2,he2,hy2,hc2,h2⟩=>by
  subst hx
  cases hx2
  subst hu
  cases hu2
  rw[he]at he2
  cases he2
  rw[hy]at hy2
  cases hy2
  rw[hc]at hc2
  cases hc2
  exact Node.unique h h2
theorem al.sub : ∀ {p : Way} {x y : TV} {u : Value} {S : Nat → Prop}, al w I x u S → aS p x = some y →
  ∃ v Sy, al w I y v Sy ∧ (∀ b, Sy b → S b) ∧ Node w p x u v y.nd ∧ (p ≠ [] → v.oneCell' = true) ∧
   ∀(w':World) (I':Nat->Prop) (y' x':TV) (S':Nat->Prop),fP p x y'=some x'->(∀b,I b->w'.heap[b]? = w.heap[b]?)->(∀b,I b->I' b)->(∀b,S b->¬Sy b->w'.heap[b]? = w.heap[b]?) ->
    al w' I' y' v S'->(∀b,S' b->S b->Sy b)->al w' I' x' u (fun b=>(S b/\¬Sy b)\/S' b) /\
    ∀(q:Way) (v':Value) (nd:Option (Nat × Nat)),(∀q',q=p++q'->Node w q' y v v' nd->Node w' q' y' v v' nd)->Node w q x u v' nd->Node w' q x' u v' nd
 | [],x,y,u,S,hr,h=>by
  simp only[Ab.aS,Cj]at h
  subst h
  refine⟨u,S,hr,fun _ h=>h,⟨rfl,rfl⟩,fun h=>absurd rfl h,?_⟩
  intro w' I' y' x' S' hs hI hII hh hr' hd
  simp only[fP,Cj]at hs
  subst hs
  exact⟨hr'.mono (fun b hb=>.inr hb),fun q v' nd hq hn=>hq q rfl hn⟩
 | (k, j) :: p, x, y, u, S, hr, h => by
  cases x with
  | sl o s xs =>
   simp only[Ab.aS]at h
   cases he:xs[k]? with
   | none=>simp[he]at h
   | some e =>
    simp only[he]at h
    cases hz:e[j]? with
    | none=>simp[hz]at h
    | some z =>
     simp only[hz]at h
     cases o with
     | false =>
      obtain⟨v,S',n1,n2,n3,n4⟩:=al.get (p:=(k,j)::p) (y:=y) hr (by simp only[Ab.aS,he,hz,h])
      refine⟨v,S',n2,n3,n1,n4,?_⟩
      intro w' I' y' x' S2 hs
      simp[fP]at hs
     | true =>
      cases hr with
      | fr h=>cases h
      | @sl _ _ a cap S us vs ty F hS row hl hr hF hd =>
       have hel:=hl e (Cq he)
       have hjl:j<e.length:=(Ch.1 hz).1
       have hfg:=eH hl he hz
       have hlt2:k*s+j<us.length:=by
        rw[row.len,<-bU hl]
        exact(Ch.1 hfg).1
       have hu:=Ci hlt2
       have hrz:=hr _ _ hfg
       rw[getD_some hu]at hrz
       obtain⟨v,Sy,m1,m2,m3,m4,m5⟩:=al.sub hrz h
       have hSyF:∀b,Sy b->F (k*s+j) b:=m2
       refine⟨v,Sy,m1,fun b hb=>(hF _ b (m2 b hb)).1,⟨true,s,xs,a,_,cap,e,z,us[k*s+j],rfl,rfl,he,hz,row.cell hu,m3⟩,fun _=>?_,?_⟩
       ·cases p with
        | nil=>rw[m3.1];exact row.one _ (List.getElem_mem hlt2)
        | cons=>exact m4 (by simp)
       intro w' I' y' x' S' hs hI hII hh hr' hdis
       simp only[fP,he,hz]at hs
       cases hz':fP p z y' with
       | none=>simp[hz']at hs
       | some z' =>
        simp only[hz',Cj,ag]at hs
        subst hs
        have hablk:¬Sy a.block:=fun hb=>(hF _ _ (m2 _ hb)).2 rfl
        obtain⟨r1,r2⟩:=m5 w' I' y' z' S' hz' hI hII (fun b hb hn=>hh b (hF _ b hb).1 hn) hr' (fun b hb hb2=>hdis b hb (hF _ b hb2).1)
        have hset:e.set j z'=spl e j [z']:=by
         apply List.ext_getElem?
         intro m
         rw[cp (by simp;omega),List.getElem?_set]
         by_cases hjm:j=m
         ·subst hjm;simp[hjl]
         ·rw[if_neg hjm,if_neg (by simp;omega)]
        obtain⟨f1,f2⟩:=vu (ys:=[z']) hl he (by simp;omega:j + [z'].length<=e.length)
        have hlen:(xs.set k (e.set j z')).length=xs.length:=by simp
        have hrow:Row w' a (xs.set k (e.set j z')).length cap s us vs ty:=by
         rw[hlen]
         exact⟨by rw[hh _ hS hablk];exact row.heap,row.spot,row.le,row.max,row.fit,row.len,row.cells,row.one⟩
        have hother:∀m c,m≠k*s+j->xs.flatten[m]? = some c->al w' I' c (us.getD m undef) (F m):=fun m c hm hc =>
         (hr m c hc).mv hI hII (fun b hb=>hh b (hF m b hb).1 (fun hs=>hm (hd m _ b hb (m2 b hs)))) (fun _ h=>h)
        constructor
        ·have key:al w' I' (.sl true s (xs.set k (e.set j z'))) (.slice (some a) (xs.set k (e.set j z')).length cap) (fun b=>(S b/\¬Sy b)\/S' b):=by
          refine .sl us vs ty (fun m b=>if m=k*s+j then(F (k*s+j) b/\¬Sy b)\/S' b else F m b) (.inl ⟨hS,hablk⟩) hrow (wJ hl (by simp[hel])) (fun m c hc=>?_) (fun m b hb=>?_) (fun m m' b hb hb'=>?_)
          ·rw[hset,f1,cp f2]at hc
           by_cases hm:m=k*s+j
           ·subst hm
            simp only[List.length_singleton,Nat.sub_self]at hc
            rw[if_pos (by omega)]at hc
            simp only[List.getElem?_cons_zero,Cj]at hc
            subst hc
            simp only[if_true]
            rw[getD_some hu]
            exact r1
           ·rw[if_neg (by simp only[List.length_singleton];omega)]at hc
            simp only[hm,if_false]
            exact hother m c hm hc
          ·by_cases hm:m=k*s+j
           ·subst hm
            simp only[if_true]at hb
            rcases hb with⟨h1,h2⟩|h1
            ·exact⟨.inl ⟨(hF _ b h1).1,h2⟩,(hF _ b h1).2⟩
            ·exact⟨.inr h1,fun e=>by subst e;exact hablk (hdis _ h1 hS)⟩
           ·simp only[hm,if_false]at hb
            exact⟨.inl ⟨(hF _ b hb).1,fun hs=>hm (hd _ _ b hb (m2 b hs))⟩,(hF _ b hb).2⟩
          ·by_cases hm:m=k*s+j<;>by_cases hm':m'=k*s+j
           ·rw[hm,hm']
           ·simp only[hm,hm',if_true,if_false]at hb hb'
            rcases hb with⟨h1,h2⟩|h1
            ·exact hm▸hd _ _ b h1 hb'
            ·exact hm▸hd _ _ b (m2 b (hdis b h1 (hF _ b hb').1)) hb'
           ·simp only[hm,hm',if_true,if_false]at hb hb'
            rcases hb' with⟨h1,h2⟩|h1
            ·exact hm'▸hd _ _ b hb h1
            ·exact hm'▸hd _ _ b hb (m2 b (hdis b h1 (hF _ b hb).1))
           ·simp only[hm,hm',if_false]at hb hb'
            exact hd _ _ b hb hb'
         rwa[hlen]at key
        ·intro q v' nd hq hn
         cases q with
         | nil =>
          obtain⟨e1,e2⟩:=hn
          exact⟨e1,by rw[e2];simp[TV.nd]⟩
         | cons kj q =>
          obtain⟨k1,j1⟩:=kj
          obtain⟨o2,s2,xs2,a2,n2,cap2,e2,y2,u2,hx2,hu2,he2,hy2,hc2,hn2⟩:=hn
          cases hx2
          cases hu2
          have hblk:∀m,w'.cell? (a.add m)=w.cell? (a.add m):=fun m=>World.cell?_of_block (by rw[ek];exact hh _ hS hablk)
          by_cases hk1:k1=k
          ·subst hk1
           rw[he]at he2
           cases he2
           have hk2:k1<xs.length:=(Ch.1 he).1
           by_cases hj1:j1=j
           ·subst hj1
            rw[hz]at hy2
            cases hy2
            have:u2=us[k1*s+j1]:=by rw[row.cell hu]at hc2;exact(Option.some.inj hc2).symm
            subst this
            refine⟨true,s,_,a,_,cap,e.set j1 z',z',us[k1*s+j1],rfl,rfl,by rw[List.getElem?_set_self hk2],by rw[List.getElem?_set_self hjl],by rw[hblk];exact hc2,?_⟩
            exact r2 q v' nd (fun q' hq'=>hq q' (by rw[hq'];rfl)) hn2
           ·refine⟨true,s,_,a,_,cap,e.set j z',y2,u2,rfl,rfl,by rw[List.getElem?_set_self hk2],by rw[List.getElem?_set_ne (fun h=>hj1 h.symm)];exact hy2,by rw[hblk];exact hc2,?_⟩
            have hfg2:=eH hl he hy2
            have hm:k1*s+j1≠k1*s+j:=by omega
            have hr2:=hr _ _ hfg2
            have hlt3:k1*s+j1<us.length:=by rw[row.len,<-bU hl];exact(Ch.1 hfg2).1
            rw[getD_some (Ci hlt3)]at hr2
            have:u2=us[k1*s+j1]:=by rw[row.cell (Ci hlt3)]at hc2;exact(Option.some.inj hc2).symm
            subst this
            exact Node.mv hr2 hI (fun b hb=>hh b (hF _ b hb).1 (fun hs=>hm (hd _ _ b hb (m2 b hs)))) hn2
          ·refine⟨true,s,_,a,_,cap,e2,y2,u2,rfl,rfl,by rw[List.getElem?_set_ne (fun h=>hk1 h.symm)];exact he2,hy2,by rw[hblk];exact hc2,?_⟩
           have hfg2:=eH hl he2 hy2
           have hel2:=hl e2 (Cq he2)
           have hj2:j1<e2.length:=(Ch.1 hy2).1
           have hm:k1*s+j1≠k*s+j:=by
            intro heq
            rcases Nat.lt_or_gt_of_ne hk1 with h'|h'
            ·have:=Nat.mul_le_mul_right s (Nat.succ_le_of_lt h')
             rw[Nat.succ_mul]at this
             omega
            ·have:=Nat.mul_le_mul_right s (Nat.succ_le_of_lt h')
             rw[Nat.succ_mul]at this
             omega
           have hr2:=hr _ _ hfg2
           have hlt3:k1*s+j1<us.length:=by rw[row.len,<-bU hl];exact(Ch.1 hfg2).1
           rw[getD_some (Ci hlt3)]at hr2
           have:u2=us[k1*s+j1]:=by rw[row.cell (Ci hlt3)]at hc2;exact(Option.some.inj hc2).symm
           subst this
           exact Node.mv hr2 hI (fun b hb=>hh b (hF _ b hb).1 (fun hs=>hm (hd _ _ b hb (m2 b hs)))) hn2
  | _=>simp[Ab.aS]at h
end
end Go.Ab
end

import Derived.Test.YtpkpckdealhkhaaAC14F42
set_option linter.all false
section
set_option maxRecDepth 10000
namespace Go.Ab
theorem lM {a:Int} (ha:inW a):pconv (.int .i64) (W a)=some (I a):=by
 simp only[pconv]
 rw[IntKind.wrap_i64]
 have:=ha.1
 have:=ha.2
 congr 3
 omega
theorem nth16 (F:Nat->TV) {n:Nat} (h:n<16):pnth n [F 0,F 1,F 2,F 3,F 4,F 5,F 6,F 7,F 8,F 9,F 10,F 11,F 12,F 13,F 14,F 15]=some (F n):=by
 match n,h with
 | 0,_=>rfl
 | 1,_=>rfl
 | 2,_=>rfl
 | 3,_=>rfl
 | 4,_=>rfl
 | 5,_=>rfl
 | 6,_=>rfl
 | 7,_=>rfl
 | 8,_=>rfl
 | 9,_=>rfl
 | 10,_=>rfl
 | 11,_=>rfl
 | 12,_=>rfl
 | 13,_=>rfl
 | 14,_=>rfl
 | 15,_=>rfl
 | n+16,h=>omega
theorem F2.lf1 {rs:List (List TV)} {l:List Int} (h:F2 RI1 rs l):F2 RI1 (qK rs) l:=by
 induction h with
 | nil=>exact .nil
 | cons h1 _ ih =>
  obtain⟨rfl,h1⟩:=h1
  exact .cons ⟨rfl,h1⟩ ih
def upF (f:DFrame):DFrame:={ f with at_:=IntKind.i64.wrap (f.at_+1) }
def iW (f:DFrame) (n w:Int):DFrame:={ f with regs:=f.regs.set n.toNat w }
def bg (m:DMod) (f:DFrame):Option DBlock:=(m.funcs[f.f.toNat]?).bind fun u=>u.blocks[f.block.toNat]?
open Classical in
noncomputable def aK (m:DMod) (s:DMach) (w:Int):DMach :=
 match s.stack[s.stack.length-2]? with
 | none=>s
 | some f => if s.stack.length ≤ 1 then d7 { s with stack := [] } 1 w else
  match bg m f with
  | none=>s
  | some b=>if f.at_=b.ins.length then bJ { s with stack:=s.stack.take (s.stack.length-1) } { iW f b.fin.dst w with block:=b.fin.to,at_:=0 }else
   match b.ins[f.at_.toNat]? with
   | none=>s
   | some x=>bJ { s with stack:=s.stack.take (s.stack.length-1) } (upF (iW f x.dst w))
def reg (f:DFrame) (n:Int):Int:=f.regs.getD n.toNat 0
def fa (s:DMach) (n:Nat) (w:Int):DMach:={ s with cells:=s.cells.set n w }
def fP (m:DMod) (s:DMach) (f:DFrame) (x:DIns):DMach :=
 if x.op=11 then bQ m s x.f x.args else
 if x.op<=8 then(if(bR f x).2=true then bJ s (bR f x).1 else d7 s 3 0)else
 if x.op=9 then(if 16<=reg f x.a then d7 s 4 0 else bJ s (upF (iW f x.dst (s.c (reg f x.a).toNat))))else
 if x.op=10 then(if 16<=reg f x.a then d7 s 4 0 else bJ (fa s (reg f x.a).toNat (reg f x.b)) (upF f))else
 if x.op=12 then bJ { s with events:=s.events ++ [reg f x.a] } (upF f)else
 match s.inputs with
 | []=>d7 s 6 0
 | a::l=>bJ { s with events:=s.events ++ [a+65536],inputs:=l } (upF (iW f x.dst a))
theorem BH {s:DMach} {n j:Nat} {w:Int} (hl:s.cells.length=16) (hj:j<16):dq n j (W w) (W (s.c j))=W ((fa s n w).c j):=by
 have hl':j<s.cells.length:=by omega
 by_cases h:n=j
 ·subst h
  simp[dq,fa,DMach.c,List.getD,List.getElem?_set_self hl']
 ·have hb:n.beq j=false:=by
   cases h':n.beq j with
   | false=>rfl
   | true=>exact absurd (Nat.eq_of_beq_eq_true h') h
  simp[dq,hb,fa,DMach.c,List.getD,List.getElem?_set_ne h]
theorem zm {s:DMach} {n:Nat} {w:Int} (h:∀k,inW (s.c k)) (hw:inW w) (k:Nat):inW ((fa s n w).c k):=by
 have hk:=h k
 simp only[DMach.c,fa,List.getD,List.getElem?_set]at hk ⊢
 split
 ·split
  ·exact hw
  ·exact wz
 ·exact hk
end Go.Ab
namespace Go.Ab.C14
open Go Go.Ab Go.Proofs
theorem zX {op:Int} (h:has (ei op) 1=true):1<=op/\op<=13:=by
 by_cases hn:1<=op/\op<=13
 ·exact hn
 ·have:ei op=0:=by
   unfold ei
   repeat rw[if_neg (by omega)]
  rw[this]at h
  exact absurd h (by decide)
theorem ins3 {q q':Option Bool} {s:DMach} {f:DFrame} {g i v gr:TV} (hg:RL none 5 (RFrame none) g s.stack) (hi:RWords none i s.inputs) (hv:RInts q v s.events) (ho:s.ok) (hgr:RWords q' gr f.regs) (hof:f.ok) (h0:0<s.stack.length) (hl:s.stack.length<=4294967296) :
  ∃e2,aa prog 67 (f67_3 g (W (s.c 0)) (W (s.c 1)) (W (s.c 2)) (W (s.c 3)) (W (s.c 4)) (W (s.c 5)) (W (s.c 6)) (W (s.c 7)) (W (s.c 8)) (W (s.c 9)) (W (s.c 10)) (W (s.c 11)) (W (s.c 12)) (W (s.c 13)) (W (s.c 14)) (W (s.c 15)) i (I s.done) (W s.value) (I f.f) (I f.block) (I f.at_) (W f.fly) v gr) (.agg e2)/\RMach e2 (bJ s (upF f)):=by
 have hvz:=hv.frz (S:=RI1) fun _ _ h=>h.frz
 have hgz:=hgr.frz (S:=RW1) fun _ _ h=>h.frz
 obtain⟨e2,hr2,h2⟩:=tz (e:=ar s g i (Go.Ab.frz v)) (s:=s) (f:=upF f) (q':=some false) (e':=[I f.f,I f.block,I (IntKind.i64.wrap (f.at_+1)),Go.Ab.frz gr,W f.fly]) ⟨g,i,_,rfl,hg,hi,hvz.weak fun _ _ h=>h,ho⟩ ⟨_,rfl,hgz,hof.1,hof.2.1,wrap_i64 _,hof.2.2.2⟩ h0 hl
 refine⟨e2,?_,h2⟩
 obtain⟨g2,i2,v2,rfl,hg2,hi2,hv2,ho2⟩:=h2
 unfold f67_3
 exact aa.tv rfl (aa.call hr2 (aa.chk (bD hg2.isSl hi2.isSl hv2.isSl) aa.ret))
theorem ins2 {q q':Option Bool} {s:DMach} {f:DFrame} {x:DIns} {g i v gr z:TV} {b:Bool} (hb:b=false) (hg:RL none 5 (RFrame none) g s.stack) (hi:RWords none i s.inputs) (hv:RInts q v s.events) (ho:s.ok) (hgr:RWords q' gr f.regs) (hof:f.ok) (h0:0<s.stack.length) (hl:s.stack.length<=4294967296) :
  ∃e2,aa prog 67 (f67_2 (B b) g (W (s.c 0)) (W (s.c 1)) (W (s.c 2)) (W (s.c 3)) (W (s.c 4)) (W (s.c 5)) (W (s.c 6)) (W (s.c 7)) (W (s.c 8)) (W (s.c 9)) (W (s.c 10)) (W (s.c 11)) (W (s.c 12)) (W (s.c 13)) (W (s.c 14)) (W (s.c 15)) i (I s.done) (W s.value) (I f.f) (I f.block) (I f.at_) (W f.fly) (I x.op) (I x.dst) (I x.a) (I x.b) (W x.k) (I x.f) z v gr) (.agg e2)/\RMach e2 (bJ s (upF f)):=by
 obtain⟨e2,hr2,h2⟩:=ins3 hg hi hv ho hgr hof h0 hl
 refine⟨e2,?_,h2⟩
 subst hb
 unfold f67_2
 exact aa.ite rfl nofun fun _=>f67_3_J hr2
theorem ins1 {q q':Option Bool} {s:DMach} {f:DFrame} {x:DIns} {g i v gr z:TV} {b:Bool} (hb:b=false) (h13:¬x.op=13) (hg:RL none 5 (RFrame none) g s.stack) (hi:RWords none i s.inputs) (hv:RInts q v s.events) (ho:s.ok) (hgr:RWords q' gr f.regs) (hof:f.ok) (h0:0<s.stack.length) (hl:s.stack.length<=4294967296) :
  ∃e2,aa prog 67 (f67_1 (B b) g (W (s.c 0)) (W (s.c 1)) (W (s.c 2)) (W (s.c 3)) (W (s.c 4)) (W (s.c 5)) (W (s.c 6)) (W (s.c 7)) (W (s.c 8)) (W (s.c 9)) (W (s.c 10)) (W (s.c 11)) (W (s.c 12)) (W (s.c 13)) (W (s.c 14)) (W (s.c 15)) i v (I s.done) (W s.value) (I f.f) (I f.block) (I f.at_) (W f.fly) (I x.op) (I x.dst) (I x.a) (I x.b) (W x.k) (I x.f) z gr) (.agg e2)/\RMach e2 (bJ s (upF f)):=by
 obtain⟨e2,hr2,h2⟩:=ins2 (x:=x) (z:=z) (b:=decide (x.op=13)) (by simpa using h13) hg hi hv ho hgr hof h0 hl
 refine⟨e2,?_,h2⟩
 subst hb
 unfold f67_1
 exact aa.ite rfl nofun fun _=>aa.tv rfl (aa.chk hv.isSl (f67_2_J hr2))
theorem rIns {q q' q'':Option Bool} {e es ef ex:List TV} {m:DMod} {s:DMach} {f:DFrame} {x:DIns} (hm:RMod q e m) (hM:cF m) (hs:RMach es s) (hf:RFrame q' ef f) (hx:RIns q'' ex x) (hp:li m.funcs f.regs.length x) (ht:jT s=some f) (hrl:f.regs.length<=256) (hal:x.args.length<=4294967295) (hl:s.stack.length<=4294967296) (hel:s.events.length+1<=4294967296) :
  ∃e2,aj prog 67 [.agg e,.agg es,.agg ef,.agg ex] (.agg e2)/\RMach e2 (fP m s f x):=by
 have hm':=hm
 have hs':=hs
 have hf':=hf
 have hx':=hx
 obtain⟨y,rfl,hy⟩:=hm
 obtain⟨g,i,v,rfl,hg,hi,hv,ho⟩:=hs
 obtain⟨gr,rfl,hgr,hof⟩:=hf
 obtain⟨z,rfl,hz,hxo⟩:=hx
 obtain⟨hp1,hpd,hpa,hpb,_,hpc⟩:=hp
 have h0:0<s.stack.length:=by
  have:=(FP.1 ht).1
  omega
 obtain⟨hlo,hhi⟩:=zX hp1
 by_cases h11:x.op=11
 ·have hT:fP m s f x=bQ m s x.f x.args:=by simp[fP,h11]
  rw[hT]
  rw[h11]at hpc
  obtain⟨_,u,hu,hul,hua⟩:=hpc.1 rfl
  obtain⟨e2,hr2,h2⟩:=AB hm' hM hs' hxo.2.2.2.2.2 hz ht (fun k p hk=>hua k (FP.1 hk).1 p hk) hal
  refine⟨e2,?_,h2⟩
  obtain⟨g2,i2,v2,rfl,hg2,hi2,hv2,ho2⟩:=h2
  refine aj.of (f67_MR _ _ _ _) ?_
  unfold f67_M
  refine aa.chk rfl (aa.chk rfl (aa.chk rfl (aa.chk rfl (aa.tv rfl (aa.ite rfl (fun _=>?_) fun h=>?_)))))
  ·exact aa.call hr2 (aa.chk (bD hg2.isSl hi2.isSl hv2.isSl) aa.ret)
  ·simp[TV.cell,nth]at h;omega
 by_cases h8:x.op<=8
 ·have hT:fP m s f x=if(bR f x).2=true then bJ s (bR f x).1 else d7 s 3 0:=by simp[fP,h11,h8]
  rw[hT]
  obtain⟨e3,hr3,h3⟩:=Cp hf' hx' (by omega)
  obtain⟨e5,hr5,h5⟩:=pq (how:=3) (w:=0) hs' ⟨by decide,by decide⟩ wz
  obtain⟨e4,hr4,h4⟩:=tz hs' h3.frz h0 hl
  generalize hR:bR f x=R at *
  obtain⟨f3,ok⟩:=R
  simp only at hr3 h3 hr4 h4 ⊢
  obtain⟨g3,rfl,hg3,_⟩:=h3
  cases ok with
  | false =>
   refine⟨e5,?_,by simpa using h5⟩
   obtain⟨g2,i2,v2,rfl,hg2,hi2,hv2,ho2⟩:=h5
   refine aj.of (f67_MR _ _ _ _) ?_
   unfold f67_M
   refine aa.chk rfl (aa.chk rfl (aa.chk rfl (aa.chk rfl (aa.tv rfl (aa.ite rfl (fun h=>?_) fun _=>?_)))))
   ·simp[TV.cell,nth]at h;omega
   refine aa.tv rfl (aa.ite rfl (fun _=>?_) fun h=>?_)
   rotate_left
   ·simp[TV.cell,nth]at h;omega
   refine aa.call hr3 (aa.chk rfl (aa.chk (dl hg3.isSl) (aa.chk rfl (aa.tv rfl (aa.ite rfl (fun _=>?_) nofun)))))
   exact aa.call hr5 (aa.chk (bD hg2.isSl hi2.isSl hv2.isSl) aa.ret)
  | true =>
   refine⟨e4,?_,by simpa using h4⟩
   obtain⟨g2,i2,v2,rfl,hg2,hi2,hv2,ho2⟩:=h4
   refine aj.of (f67_MR _ _ _ _) ?_
   unfold f67_M
   refine aa.chk rfl (aa.chk rfl (aa.chk rfl (aa.chk rfl (aa.tv rfl (aa.ite rfl (fun h=>?_) fun _=>?_)))))
   ·simp[TV.cell,nth]at h;omega
   refine aa.tv rfl (aa.ite rfl (fun _=>?_) fun h=>?_)
   rotate_left
   ·simp[TV.cell,nth]at h;omega
   refine aa.call hr3 (aa.chk rfl (aa.chk (dl hg3.isSl) (aa.chk rfl (aa.tv rfl (aa.ite rfl nofun fun _=>?_)))))
   exact aa.call hr4 (aa.chk (bD hg2.isSl hi2.isSl hv2.isSl) aa.ret)
 have start:∀{r:TV},aa prog 67 (f67_0 (B (decide (x.op=9\/x.op=10))) g (W (s.c 0)) (W (s.c 1)) (W (s.c 2)) (W (s.c 3)) (W (s.c 4)) (W (s.c 5)) (W (s.c 6)) (W (s.c 7)) (W (s.c 8)) (W (s.c 9)) (W (s.c 10)) (W (s.c 11)) (W (s.c 12)) (W (s.c 13)) (W (s.c 14)) (W (s.c 15)) i v (I s.done) (W s.value) (I f.f) (I f.block) (I f.at_) gr (W f.fly) (I x.op) (I x.dst) (I x.a) (I x.b) (W x.k) (I x.f) z) r->aj prog 67 [.agg [y],.agg (ar s g i v),.agg [I f.f,I f.block,I f.at_,gr,W f.fly],.agg [I x.op,I x.dst,I x.a,I x.b,W x.k,I x.f,z]] r:=by
  intro r hr
  refine aj.of (f67_MR _ _ _ _) ?_
  unfold f67_M
  refine aa.chk rfl (aa.chk rfl (aa.chk rfl (aa.chk rfl (aa.tv rfl (aa.ite rfl (fun h=>?_) fun _=>?_)))))
  ·simp[TV.cell,nth]at h;omega
  refine aa.tv rfl (aa.ite rfl (fun h=>?_) fun _=>?_)
  ·simp[TV.cell,nth]at h;omega
  refine aa.tv rfl (aa.ite rfl (fun h=>?_) fun h=>?_)
  ·have h9:x.op=9:=by simpa[TV.cell,nth]using h
   refine f67_0_J ?_
   have hd:decide (x.op=9\/x.op=10)=true:=by simp[h9]
   rw[hd]at hr
   exact hr
  ·have h9:¬x.op=9:=by simpa[TV.cell,nth]using h
   refine aa.tv rfl (f67_0_J ?_)
   have hd:decide (x.op=9\/x.op=10)=(x.op==10):=by simp[h9];rfl
   rw[hd]at hr
   exact hr
 by_cases h9:x.op=9\/x.op=10
 ·have hd:decide (x.op=9\/x.op=10)=true:=by simp[h9]
  rw[hd]at start
  have hA:within x.a f.regs.length:=by
   rcases h9 with h|h
   ·rw[h]at hpa;exact hpa.1 rfl
   ·rw[h]at hpa;exact hpa.1 rfl
  obtain⟨a,ha,hal'⟩:=gj hA
  obtain⟨hia,haw⟩:=RWords.at_ hgr (k:=.i64) hA.1 ha
  have hra:reg f x.a=a:=nz ha
  by_cases h16:16<=a
  ·obtain⟨e5,hr5,h5⟩:=pq (how:=4) (w:=0) hs' ⟨by decide,by decide⟩ wz
   have hT:fP m s f x=d7 s 4 0:=by
    unfold fP
    rw[if_neg h11,if_neg h8,hra]
    rcases h9 with h|h
    ·rw[if_pos h,if_pos h16]
    ·rw[if_neg (by omega),if_pos h,if_pos h16]
   rw[hT]
   refine⟨e5,start ?_,h5⟩
   obtain⟨g2,i2,v2,rfl,hg2,hi2,hv2,ho2⟩:=h5
   unfold f67_0
   refine aa.ite rfl (fun _=>?_) nofun
   refine aa.tvs hia (aa.chk rfl (aa.tv (lM haw) (aa.tv rfl (aa.ite rfl (fun _=>?_) fun h=>?_))))
   ·exact aa.call hr5 (aa.chk (bD hg2.isSl hi2.isSl hv2.isSl) aa.ret)
   ·simp at h;omega
  have han:aJ (I a)=some a.toNat:=jY haw.1 ⟨by have:=haw.1;omega,by omega⟩
  have hlt:a.toNat<16:=by have:=haw.1;omega
  by_cases h9':x.op=9
  ·have hT:fP m s f x=bJ s (upF (iW f x.dst (s.c a.toNat))):=by
    unfold fP
    rw[if_neg h11,if_neg h8,if_pos h9',hra,if_neg h16]
   rw[hT]
   rw[h9']at hpd
   have hD:within x.dst f.regs.length:=hpd.1 rfl
   obtain⟨e6,hr6,h6⟩:=ug (w:=s.c a.toNat) hf' (by omega) hD hxo.2.1 (ho.2.1 _)
   obtain⟨g6,rfl,hg6,hof6⟩:=h6
   obtain⟨e2,hr2,h2⟩:=ins1 (f:=iW f x.dst (s.c a.toNat)) (x:=x) (z:=z) (b:=x.op==12) (by simp;omega) (by omega) hg hi hv ho hg6 hof6 h0 hl
   refine⟨e2,start ?_,h2⟩
   unfold f67_0
   refine aa.ite rfl (fun _=>?_) nofun
   refine aa.tvs hia (aa.chk rfl (aa.tv (lM haw) (aa.tv rfl (aa.ite rfl (fun h=>?_) fun _=>?_))))
   ·simp at h;omega
   refine aa.tv rfl (aa.ite rfl (fun _=>?_) fun h=>?_)
   rotate_left
   ·simp at h;omega
   refine aa.nat han (aa.chk (j8 hlt) (aa.tv (nth16 (fun k=>W (s.c k)) hlt) (aa.call hr6 (aa.chk (dl hg6.isSl) (aa.tv rfl (f67_1_J hr2))))))
  ·have h10:x.op=10:=by omega
   rw[h10]at hpb
   have hB:within x.b f.regs.length:=hpb.1 rfl
   obtain⟨b,hb,hbl⟩:=gj hB
   obtain⟨hib,hbw⟩:=RWords.at_ hgr (k:=.i64) hB.1 hb
   have hrb:reg f x.b=b:=nz hb
   have hT:fP m s f x=bJ (fa s a.toNat b) (upF f):=by
    unfold fP
    rw[if_neg h11,if_neg h8,if_neg h9',if_pos h10,hra,hrb,if_neg h16]
   rw[hT]
   have ho':(fa s a.toNat b).ok:=⟨by simp[fa,ho.1],zm ho.2.1 hbw,ho.2.2⟩
   obtain⟨e2,hr2,h2⟩:=ins1 (s:=fa s a.toNat b) (f:=f) (x:=x) (z:=z) (b:=x.op==12) (by simp;omega) (by omega) hg hi hv ho' hgr hof h0 hl
   refine⟨e2,start ?_,h2⟩
   unfold f67_0
   refine aa.ite rfl (fun _=>?_) nofun
   refine aa.tvs hia (aa.chk rfl (aa.tv (lM haw) (aa.tv rfl (aa.ite rfl (fun h=>?_) fun _=>?_))))
   ·simp at h;omega
   refine aa.tv rfl (aa.ite rfl (fun h=>?_) fun _=>?_)
   ·simp at h;omega
   refine aa.tvs hib (aa.chk rfl (aa.nat han (aa.chk (j8 hlt) (aa.tv rfl (aa.chk hgr.isSl (f67_1_J ?_))))))
   have hc:∀j,j<16->dq a.toNat j (W b) (W (s.c j))=W ((fa s a.toNat b).c j):=fun j hj=>BH ho.1 hj
   show aa prog 67 (f67_1 (B (x.op==12)) g (dq a.toNat 0 (W b) (W (s.c 0))) (dq a.toNat 1 (W b) (W (s.c 1))) (dq a.toNat 2 (W b) (W (s.c 2))) (dq a.toNat 3 (W b) (W (s.c 3))) (dq a.toNat 4 (W b) (W (s.c 4))) (dq a.toNat 5 (W b) (W (s.c 5))) (dq a.toNat 6 (W b) (W (s.c 6))) (dq a.toNat 7 (W b) (W (s.c 7))) (dq a.toNat 8 (W b) (W (s.c 8))) (dq a.toNat 9 (W b) (W (s.c 9))) (dq a.toNat 10 (W b) (W (s.c 10))) (dq a.toNat 11 (W b) (W (s.c 11))) (dq a.toNat 12 (W b) (W (s.c 12))) (dq a.toNat 13 (W b) (W (s.c 13))) (dq a.toNat 14 (W b) (W (s.c 14))) (dq a.toNat 15 (W b) (W (s.c 15))) i v (I s.done) (W s.value) (I f.f) (I f.block) (I f.at_) (W f.fly) (I x.op) (I x.dst) (I x.a) (I x.b) (W x.k) (I x.f) z gr) _
   rw[hc 0 (by omega),hc 1 (by omega),hc 2 (by omega),hc 3 (by omega),hc 4 (by omega),hc 5 (by omega),hc 6 (by omega),hc 7 (by omega),hc 8 (by omega),hc 9 (by omega),hc 10 (by omega),hc 11 (by omega),hc 12 (by omega),hc 13 (by omega),hc 14 (by omega),hc 15 (by omega)]
   exact hr2
 have hd:decide (x.op=9\/x.op=10)=false:=by simp[h9]
 rw[hd]at start
 by_cases h12:x.op=12
 ·rw[h12]at hpa
  have hA:within x.a f.regs.length:=hpa.1 rfl
  obtain⟨a,ha,hal'⟩:=gj hA
  obtain⟨pe,hpe,rfl,haw⟩:=hgr.pel ha
  have hra:reg f x.a=a:=nz ha
  have hT:fP m s f x=bJ { s with events:=s.events ++ [a] } (upF f):=by
   unfold fP
   rw[if_neg h11,if_neg h8,if_neg (by omega),if_neg (by omega),if_pos h12,hra]
  rw[hT]
  obtain⟨rs,hrs,hF⟩:=hv.elems
  have hnil:RL (some true) 1 RI1 (.sl true 1 []) ([]:List Int):=.sl (by simp) .nil (by simp)
  obtain⟨z1,hz1,hrz1⟩:=hnil.Fm hF (by simp;omega)
  obtain⟨z2,hz2,hrz2⟩:=hrz1.app1 (e:=[I a]) (a:=a) ⟨rfl,by have:=haw.1;have:=haw.2;constructor<;>omega⟩ (by simp;omega)
  obtain⟨e2,hr2,h2⟩:=ins2 (s:={ s with events:=s.events ++ [a] }) (f:=f) (x:=x) (z:=z) (b:=x.op==13) (by simp;omega) hg hi hrz2 ho hgr hof h0 hl
  refine⟨e2,start ?_,h2⟩
  unfold f67_0
  refine aa.ite rfl nofun fun _=>aa.tv rfl (aa.chk hgr.isSl (f67_1_J ?_))
  unfold f67_1
  refine aa.ite rfl (fun _=>?_) fun h=>?_
  rotate_left
  ·simp at h;omega
  refine aa.rws hrs (aa.tv hz1 (aa.nat hgr.slLen (aa.nat (jY hA.1 hxo.2.2.1) (aa.chk ?_ (aa.tvs hpe (aa.chk rfl (aa.tv (lM haw) (aa.rws rfl (aa.tv hz2 (aa.tv rfl (f67_2_J hr2)))))))))))
  rw[j8 hal'];exact(Bool.and_true _).trans hgr.slSize
 have h13:x.op=13:=by omega
 rw[h13]at hpd
 have hD:within x.dst f.regs.length:=hpd.1 rfl
 have go2:∀{r:TV},aa prog 67 (f67_2 (B (x.op==13)) g (W (s.c 0)) (W (s.c 1)) (W (s.c 2)) (W (s.c 3)) (W (s.c 4)) (W (s.c 5)) (W (s.c 6)) (W (s.c 7)) (W (s.c 8)) (W (s.c 9)) (W (s.c 10)) (W (s.c 11)) (W (s.c 12)) (W (s.c 13)) (W (s.c 14)) (W (s.c 15)) i (I s.done) (W s.value) (I f.f) (I f.block) (I f.at_) (W f.fly) (I x.op) (I x.dst) (I x.a) (I x.b) (W x.k) (I x.f) z v gr) r->aj prog 67 [.agg [y],.agg (ar s g i v),.agg [I f.f,I f.block,I f.at_,gr,W f.fly],.agg [I x.op,I x.dst,I x.a,I x.b,W x.k,I x.f,z]] r:=by
  intro r hr
  refine start ?_
  unfold f67_0
  refine aa.ite rfl nofun fun _=>aa.tv rfl (aa.chk hgr.isSl (f67_1_J ?_))
  unfold f67_1
  refine aa.ite rfl (fun h=>?_) fun _=>?_
  ·simp at h;omega
  exact aa.tv rfl (aa.chk hv.isSl (f67_2_J hr))
 have hvz:=(hv.frz (S:=RI1) fun _ _ h=>h.frz).weak (S:=RI1) fun _ _ h=>h
 cases hin:s.inputs with
 | nil =>
  have hT:fP m s f x=d7 s 6 0:=by
   unfold fP
   rw[if_neg h11,if_neg h8,if_neg (by omega),if_neg (by omega),if_neg h12,hin]
  rw[hT]
  obtain⟨e5,hr5,h5⟩:=pq (e:=ar s g i (Go.Ab.frz v)) (s:=s) (how:=6) (w:=0) ⟨g,i,_,rfl,hg,hi,hvz,ho⟩ ⟨by decide,by decide⟩ wz
  refine⟨e5,go2 ?_,h5⟩
  obtain⟨g2,i2,v2,rfl,hg2,hi2,hv2,ho2⟩:=h5
  have hlen:=RL.len (t:=53) hi
  rw[hin]at hlen
  unfold f67_2
  refine aa.ite rfl (fun _=>?_) fun h=>?_
  rotate_left
  ·simp at h;omega
  refine aa.tv hlen (aa.tv rfl (aa.ite rfl (fun _=>?_) nofun))
  exact aa.call hr5 (aa.chk (bD hg2.isSl hi2.isSl hv2.isSl) aa.ret)
 | cons a l =>
  have hT:fP m s f x=bJ { s with events:=s.events ++ [a+65536],inputs:=l } (upF (iW f x.dst a)):=by
   unfold fP
   rw[if_neg h11,if_neg h8,if_neg (by omega),if_neg (by omega),if_neg h12,hin]
  rw[hT]
  have hlen:=RL.len (t:=53) hi
  have hbnd:=hi.bnd
  rw[hin]at hlen hbnd hi
  obtain⟨hi0,haw⟩:=RWords.at_ hi (k:=.i64) (n:=0) (a:=a) (by decide) rfl
  obtain⟨si,hsi,hrsi⟩:=hi.slice (t:=53) (lo:=some 1) (hi:=none) (by simp) (by simp)
  have hrsi:RWords none si l:=by
   have:((a::l).drop ((some 1).getD 0)).take ((none:Option Nat).getD (a::l).length-(some 1).getD 0)=l:=by simp
   rw[this]at hrsi
   exact hrsi
  have hgz:=hgr.frz (S:=RW1) fun _ _ h=>h.frz
  obtain⟨e6,hr6,h6⟩:=ug (w:=a) (e:=[I f.f,I f.block,I f.at_,Go.Ab.frz gr,W f.fly]) (f:=f) (q:=some false) ⟨_,rfl,hgz,hof⟩ (by omega) hD hxo.2.1 haw
  obtain⟨g6,rfl,hg6,hof6⟩:=h6
  obtain⟨rs,hrs,hF⟩:=hv.elems
  have hnil:RL (some true) 1 RI1 (.sl true 1 []) ([]:List Int):=.sl (by simp) .nil (by simp)
  have hF:=F2.lf1 hF
  obtain⟨z1,hz1,hrz1⟩:=hnil.Fm hF (by simp;omega)
  obtain⟨z2,hz2,hrz2⟩:=hrz1.app1 (e:=[I (a+65536)]) (a:=a+65536) ⟨rfl,by have:=haw.1;have:=haw.2;constructor<;>omega⟩ (by simp;omega)
  obtain⟨e2,hr2,h2⟩:=ins3 (s:={ s with events:=s.events ++ [a+65536],inputs:=l }) (f:=iW f x.dst a) hg hrsi hrz2 ho hg6 hof6 h0 hl
  refine⟨e2,go2 ?_,h2⟩
  unfold f67_2
  refine aa.ite rfl (fun _=>?_) fun h=>?_
  rotate_left
  ·simp at h;omega
  refine aa.tv hlen (aa.tv rfl (aa.ite rfl (fun h=>?_) fun _=>?_))
  ·simp at h;omega
  have hadd:pbin (.int .i64) .add (I a) (I 65536)=some (I (a+65536)):=padd (by have:=haw.1;have:=haw.2;constructor<;>omega)
  exact aa.tvs hi0 (aa.chk rfl (aa.call hr6 (aa.chk (dl hg6.isSl) (aa.rws hrs (aa.tv hz1 (aa.tvs hi0 (aa.chk rfl (aa.tv (lM haw) (aa.tv hadd (aa.rws rfl (aa.tv hz2 (aa.nat rfl (aa.tv hsi (f67_3_J hr2))))))))))))))
end Go.Ab.C14
end
section
set_option maxRecDepth 10000
namespace Go.Ab
def rW (m:DMod) (f g:DFrame):Prop :=
 ∃u b,m.funcs[f.f.toNat]? = some u/\u.blocks[f.block.toNat]? = some b/\((f.at_=b.ins.length/\b.fin.kind=4/\b.fin.f=g.f)\/(¬f.at_=b.ins.length/\∃x,b.ins[f.at_.toNat]? = some x/\x.op=11/\x.f=g.f))
def db (m:DMod) (s:DMach):Prop :=
 (0<=s.done/\s.done<=6)/\s.stack.length<=32/\(s.done=0->0<s.stack.length)/\(∀(k:Nat) f,s.stack[k]? = some f->ca m f)/\∀(k:Nat) f g,s.stack[k]? = some f->s.stack[k+1]? = some g->rW m f g
theorem xU {x:TV} {k j:Nat} {e:List TV} {y:TV} (h:pel x k=some e) (hj:e[j]? = some y):a8 [(k,j)] x=some y:=by
 cases x<;>simp[pel]at h
 simp[a8,h,hj]
noncomputable def aI (m:DMod) (s:DMach):DMach :=
  if ¬s.done=0 then s else
  match jT s with
  | none=>s
  | some f => match bg m f with
    | none=>s
    | some b => if f.at_ = b.ins.length then
        (if b.fin.kind = 1 then aK m s (reg f b.fin.a) else
         if b.fin.kind=4 then bQ m s b.fin.f b.fin.args else
         if b.fin.kind=5 then bI m s (reg f b.fin.a)else
         if b.fin.kind=6 then bI m s f.fly else
         if b.fin.kind=3/\reg f b.fin.a=0 then bJ s { f with block:=b.fin.els,at_:=0 }else bJ s { f with block:=b.fin.to,at_:=0 })
      else match b.ins[f.at_.toNat]? with
        | none=>s
        | some x=>fP m s f x
end Go.Ab
namespace Go.Ab.C14
open Go Go.Ab Go.Proofs
theorem ri {m:DMod} {g:DFunc} {b:DBlock} {x:DIns} {n k j:Nat} (h:cF m) (hg:m.funcs[n]? = some g) (hb:g.blocks[k]? = some b) (hx:b.ins[j]? = some x):li m.funcs g.regs x :=
 (j6 h hg hb).2.2.1 j (FP.1 hx).1 x hx
theorem oC {m:DMod} {g:DFunc} {b:DBlock} {n k:Nat} (h:cF m) (hg:m.funcs[n]? = some g) (hb:g.blocks[k]? = some b):nl m.funcs g.regs g.blocks b.fin :=
 (j6 h hg hb).2.2.2
theorem BE {q:Option Bool} {e es:List TV} {m:DMod} {s:DMach} {w:Int} (hm:RMod q e m) (hM:cF m) (hs:RMach es s) (hw:inW w) (hQ:db m s) (h0:0<s.stack.length) :
  ∃e2,aj prog 68 [.agg e,.agg es,W w] (.agg e2)/\RMach e2 (aK m s w):=by
 obtain⟨_,h32,_,hQf,hL⟩:=hQ
 have hm':=hm
 obtain⟨y,rfl,hy⟩:=hm
 obtain⟨g,i,v,rfl,hg,hi,hv,ho⟩:=hs
 obtain⟨st,hst,hrst⟩:=hg.slice (t:=97) (lo:=none) (hi:=some (s.stack.length-1)) (by simp) (by simp)
 have hrst:RL none 5 (RFrame none) st (s.stack.take (s.stack.length-1)):=by simpa using hrst
 generalize hTe:s.stack.take (s.stack.length-1)=t at hrst
 have htl:t.length=s.stack.length-1:=by rw[<-hTe];simp
 obtain⟨f,hf⟩:∃f,s.stack[s.stack.length-2]? = some f:=⟨_,FQ (by omega)⟩
 have lenT:=RL.len (t:=97) hrst
 by_cases h1:s.stack.length<=1
 ·have ht0:t=[]:=List.length_eq_zero_iff.1 (by omega)
  have hT:aK m s w=d7 { s with stack:=t } 1 w:=by
   unfold aK
   rw[hf]
   simp only
   rw[if_pos h1,ht0]
  rw[hT]
  obtain⟨e2,hr2,h2⟩:=pq (e:=ar { s with stack:=t } st i v) (s:={ s with stack:=t }) (how:=1) (w:=w) ⟨st,i,v,rfl,hrst,hi,hv,ho⟩ ⟨by decide,by decide⟩ hw
  refine⟨e2,?_,h2⟩
  obtain⟨g2,i2,v2,rfl,hg2,hi2,hv2,ho2⟩:=h2
  refine aj.of (f68_MR _ _ _) ?_
  unfold f68_M
  refine aa.chk rfl (aa.chk rfl (aa.tv (RL.len hg) (aa.tv (dec h0 (by omega)) (aa.nat (iY (by omega)) (aa.tv hst (aa.tv lenT (aa.tv rfl (aa.ite rfl (fun _=>?_) fun h=>?_))))))))
  ·exact aa.call hr2 (aa.chk (bD hg2.isSl hi2.isSl hv2.isSl) aa.ret)
  ·rw[ht0]at h;simp at h
 have htf:t[t.length-1]? = some f:=by
  rw[<-hTe,List.getElem?_take]
  rw[if_pos (by simp;omega)]
  rw[<-hf]
  congr 1
  simp;omega
 obtain⟨f2,hf2⟩:∃f,s.stack[s.stack.length-2+1]? = some f:=⟨_,FQ (by omega)⟩
 obtain⟨u,b,hu,hb,hlink⟩:=hL _ f f2 hf hf2
 have hQ:=hQf _ f hf
 have hrl:=pm hM hQ
 obtain⟨hf0,u',hu',hLr,hb0,b',hb',ha0,ha1⟩:=hQ
 rw[hu]at hu'
 cases hu'
 rw[hb]at hb'
 cases hb'
 have hbo:bg m f=some b:=by simp[bg,hu,hb]
 obtain⟨ef,hef,hrf⟩:=hrst.idx (k:=.i64) htf
 obtain⟨eb,hrs,hrb⟩:=vG hm' hrf hf0 hu hb0 hb
 have hfit:=o9 hrb
 have hrf':=hrf
 obtain⟨gr,rfl,hgr,hof⟩:=hrf
 obtain⟨c,is,ga,rfl,hc,hdi,his,hga,hfo⟩:=hrb
 have fin:∀{f3:DFrame} {y3:TV},RWords (some true) y3 f3.regs->f3.ok->∃e2,aa prog 68 (f68_0 st (W (s.c 0)) (W (s.c 1)) (W (s.c 2)) (W (s.c 3)) (W (s.c 4)) (W (s.c 5)) (W (s.c 6)) (W (s.c 7)) (W (s.c 8)) (W (s.c 9)) (W (s.c 10)) (W (s.c 11)) (W (s.c 12)) (W (s.c 13)) (W (s.c 14)) (W (s.c 15)) i v (I s.done) (W s.value) (I f3.f) (I f3.block) (I f3.at_) (W f3.fly) TV.hole TV.hole TV.hole y3 TV.hole) (.agg e2)/\RMach e2 (bJ { s with stack:=t } f3):=by
  intro f3 y3 hy3 hof3
  have hz:=hy3.frz (S:=RW1) fun _ _ h=>h.frz
  obtain⟨e2,hr2,h2⟩:=tz (e:=ar { s with stack:=t } st i v) (s:={ s with stack:=t }) (f:=f3) (q':=some false) (e':=[I f3.f,I f3.block,I f3.at_,Go.Ab.frz y3,W f3.fly]) ⟨st,i,v,rfl,hrst,hi,hv,ho⟩ ⟨_,rfl,hz,hof3⟩ (by show 0<t.length;omega) (by show t.length<=_;omega)
  refine⟨e2,?_,h2⟩
  obtain⟨g2,i2,v2,rfl,hg2,hi2,hv2,ho2⟩:=h2
  unfold f68_0
  exact aa.call hr2 (aa.chk (bD hg2.isSl hi2.isSl hv2.isSl) aa.ret)
 by_cases hat:f.at_=(b.ins.length:Int)
 ·have h4:b.fin.kind=4:=by
   rcases hlink with⟨_,h,_⟩|⟨h,_⟩
   ·exact h
   ·exact absurd hat h
  have hT:aK m s w=bJ { s with stack:=t } { iW f b.fin.dst w with block:=b.fin.to,at_:=0 }:=by
   unfold aK
   rw[hf]
   simp only
   rw[if_neg h1,hbo]
   simp only
   rw[if_pos hat,hTe]
  rw[hT]
  rw[bp hat]at hrs
  have hE:=oC hM hu hb
  have hD:within b.fin.dst f.regs.length:=by
   rw[hLr]
   have:=hE.2.2.1.1
   rw[h4]at this
   exact this rfl
  obtain⟨e6,hr6,h6⟩:=ug hrf' (by omega) hD hfo.2.2.1 hw
  obtain⟨g6,rfl,hg6,hof6⟩:=h6
  obtain⟨e2,hr2,h2⟩:=fin (f3:={ iW f b.fin.dst w with block:=b.fin.to,at_:=0 }) hg6 ⟨hof6.1,hfo.2.2.2.2.1,in0,hof6.2.2.2⟩
  refine⟨e2,?_,h2⟩
  refine aj.of (f68_MR _ _ _) ?_
  unfold f68_M
  refine aa.chk rfl (aa.chk rfl (aa.tv (RL.len hg) (aa.tv (dec h0 (by omega)) (aa.nat (iY (by omega)) (aa.tv hst (aa.tv lenT (aa.tv rfl (aa.ite rfl (fun h=>?_) fun _=>?_))))))))
  ·simp at h;rw[h]at htl;simp at htl;omega
  refine aa.tv lenT (aa.tv (dec (by omega) (by omega)) (aa.tvs hef (aa.chk rfl ?_)))
  exact aa.call hrs (aa.chk rfl (aa.chk hfit (aa.chk rfl (aa.ite rfl (fun _=>aa.call hr6 (aa.chk (dl hg6.isSl) (f68_0_J hr2))) nofun))))
 ·obtain⟨x,hx,h11⟩:∃x,b.ins[f.at_.toNat]? = some x/\x.op=11:=by
   rcases hlink with⟨h,_⟩|⟨_,x,hx,h,_⟩
   ·exact absurd h hat
   ·exact⟨x,hx,h⟩
  have hT:aK m s w=bJ { s with stack:=t } (upF (iW f x.dst w)):=by
   unfold aK
   rw[hf]
   simp only
   rw[if_neg h1,hbo]
   simp only
   rw[if_neg hat,hTe,hx]
  rw[hT]
  rw[ck hat]at hrs
  have hI:=ri hM hu hb hx
  have hD:within x.dst f.regs.length:=by
   rw[hLr]
   have:=hI.2.1.1
   rw[h11]at this
   exact this rfl
  obtain⟨ex,hex,hrx⟩:=his.pel hx
  obtain⟨z,rfl,hz,hxo⟩:=hrx
  obtain⟨e6,hr6,h6⟩:=ug hrf' (by omega) hD hxo.2.1 hw
  obtain⟨g6,rfl,hg6,hof6⟩:=h6
  obtain⟨e2,hr2,h2⟩:=fin (f3:=upF (iW f x.dst w)) hg6 ⟨hof6.1,hof6.2.1,wrap_i64 _,hof6.2.2.2⟩
  refine⟨e2,?_,h2⟩
  refine aj.of (f68_MR _ _ _) ?_
  unfold f68_M
  refine aa.chk rfl (aa.chk rfl (aa.tv (RL.len hg) (aa.tv (dec h0 (by omega)) (aa.nat (iY (by omega)) (aa.tv hst (aa.tv lenT (aa.tv rfl (aa.ite rfl (fun h=>?_) fun _=>?_))))))))
  ·simp at h;rw[h]at htl;simp at htl;omega
  refine aa.tv lenT (aa.tv (dec (by omega) (by omega)) (aa.tvs hef (aa.chk rfl ?_)))
  have hlt:f.at_.toNat<b.ins.length:=(FP.1 hx).1
  refine aa.call hrs (aa.chk rfl (aa.chk hfit (aa.chk rfl (aa.ite rfl nofun fun _=>?_))))
  refine aa.nat his.slLen (aa.nat (jY ha0 hof.2.2.1) (aa.chk ?_ (aa.tvs hex (aa.chk rfl (aa.call hr6 (aa.chk (dl hg6.isSl) (aa.tv rfl (f68_0_J hr2))))))))
  rw[j8 hlt];exact(Bool.and_true _).trans his.slSize
end Go.Ab.C14
end
section
set_option maxRecDepth 10000
namespace Go.Ab.C14
open Go Go.Ab Go.Proofs
theorem wL {k:Int} (h:has (dm k) 1=true):1<=k/\k<=6:=by
 by_cases hn:1<=k/\k<=6
 ·exact hn
 ·have:dm k=0:=by
   unfold dm
   repeat rw[if_neg (by omega)]
  rw[this]at h
  exact absurd h (by decide)
theorem yq {m:DMod} {regs n:Int} {l:List Int} (hM:cF m) (h:jf m.funcs regs n l):l.length<=8:=by
 obtain⟨_,g,hg,hl,_⟩:=h
 have:=(lK hM hg).1
 omega
theorem rStep {e es : List TV} {m : DMod} {s : DMach} (hm : RMod (some false) e m) (hM : cF m) (hs : RMach es s) (hQ : db m s) (hel : s.events.length + 1 ≤ 4294967296) :
    ∃e2,aj prog 55 [.agg e,.agg es] (.agg e2)/\RMach e2 (aI m s):=by
  have hQ':=hQ
  obtain⟨_,h32,h00,hQf,hL⟩:=hQ
  have hm':=hm
  have hs':=hs
  obtain⟨y,rfl,hy⟩:=hm
  obtain⟨g,i,v,rfl,hg,hi,hv,ho⟩:=hs
  by_cases hd:s.done=0
  rotate_left
  · have hT : aI m s = s := by simp [aI, hd]
    rw[hT]
    refine⟨_,?_,hs'⟩
    refine aj.of (f55_MR _ _) ?_
    unfold f55_M
    refine aa.chk rfl (aa.chk rfl (aa.tv rfl (aa.ite rfl (fun _=>aa.ret) fun h=>?_)))
    simp[TV.cell,nth,ar]at h;exact absurd h hd
  have h0:=h00 hd
  obtain⟨f,ht⟩:∃f,s.stack[s.stack.length-1]? = some f:=⟨_,FQ (by omega)⟩
  have hQ:=hQf _ f ht
  have hrl:=pm hM hQ
  obtain⟨hf0,u,hu,hLr,hb0,b,hb,ha0,ha1⟩:=hQ
  have hbo:bg m f=some b:=by simp[bg,hu,hb]
  obtain⟨ef,hef,hrf⟩:=hg.idx (k:=.i64) ht
  obtain⟨eb,hrs,hrb⟩:=vG hm' hrf hf0 hu hb0 hb
  have hfit:=o9 hrb
  have hrf':=hrf
  obtain⟨gr,rfl,hgr,hof⟩:=hrf
  obtain⟨c,is,ga,rfl,hc,hdi,his,hga,hfo⟩:=hrb
  have hT:aI m s=if f.at_=b.ins.length then
        (if b.fin.kind = 1 then aK m s (reg f b.fin.a) else
         if b.fin.kind=4 then bQ m s b.fin.f b.fin.args else
         if b.fin.kind=5 then bI m s (reg f b.fin.a)else
         if b.fin.kind=6 then bI m s f.fly else
         if b.fin.kind=3/\reg f b.fin.a=0 then bJ s { f with block:=b.fin.els,at_:=0 }else bJ s { f with block:=b.fin.to,at_:=0 })
      else match b.ins[f.at_.toNat]? with
        | none=>s
        | some x=>fP m s f x:=by
    unfold aI
    rw[if_neg (by simpa using hd)]
    first|(simp only[jT,ht,hbo];done)|(simp only[jT,ht,hbo];rfl)
  rw[hT]
  by_cases hat:f.at_=(b.ins.length:Int)
  rotate_left
  · rw [if_neg hat]
    rw[ck hat]at hrs
    have hlt:f.at_.toNat<b.ins.length:=by omega
    have hx:b.ins[f.at_.toNat]? = some b.ins[f.at_.toNat]:=FQ hlt
    generalize b.ins[f.at_.toNat]=x at hx
    rw[hx]
    simp only
    have hI:=ri hM hu hb hx
    rw[<-hLr]at hI
    obtain⟨ex,hex,hrx⟩:=his.pel hx
    have hal:x.args.length<=4294967295:=by
      by_cases h11:x.op=11
      · have := hI.2.2.2.2.2.1
        rw[h11]at this
        have:=yq hM (this rfl)
        omega
      · have hu := zX hI.1
        have hn:has (ei x.op) 32=false:=by
          have:x.op=1\/x.op=2\/x.op=3\/x.op=4\/x.op=5\/x.op=6\/x.op=7\/x.op=8\/x.op=9\/x.op=10\/x.op=12\/x.op=13:=by omega
          rcases this with h|h|h|h|h|h|h|h|h|h|h|h<;>(rw[h];rfl)
        have:=(hI.2.2.2.2.2.2 hn).2
        rw[this];simp
    obtain⟨e2,hr2,h2⟩:=rIns hm' hM hs' hrf' hrx hI ht hrl hal (by omega) hel
    refine⟨e2,?_,h2⟩
    obtain⟨g2,i2,v2,rfl,hg2,hi2,hv2,ho2⟩:=h2
    obtain⟨z,rfl,hz,hxo⟩:=hrx
    refine aj.of (f55_MR _ _) ?_
    unfold f55_M
    refine aa.chk rfl (aa.chk rfl (aa.tv rfl (aa.ite rfl (fun h=>?_) fun _=>?_)))
    · simp[TV.cell,nth,ar]at h;exact absurd hd h
    refine aa.tv (RL.len hg) (aa.tv (dec h0 (by omega)) (aa.tvs hef (aa.chk rfl (aa.call hrs (aa.chk rfl (aa.chk hfit (aa.chk rfl (aa.tv rfl (aa.ite rfl (fun _=>?_) nofun)))))))))
    refine aa.nat his.slLen (aa.nat (jY ha0 hof.2.2.1) (aa.chk ?_ (aa.tvs hex (aa.chk ?_ (aa.tv (xU hex rfl) (aa.chk hz.jb (aa.call hr2 (aa.chk (bD hg2.isSl hi2.isSl hv2.isSl) aa.ret))))))))
    · rw[j8 hlt];exact(Bool.and_true _).trans his.slSize
    · simp[ab,zIns,aF,hz.isSl,TV.isSc,scV]
  rw[if_pos hat]
  rw[bp hat]at hrs
  have hE:=oC hM hu hb
  obtain⟨hk0,hk1⟩:=wL hE.1
  have hpa:=hE.2.1
  rw[<-hLr]at hpa
  have wordA:within b.fin.a f.regs.length->∃a,pidx 1 gr (I b.fin.a)=some [W a]/\inW a/\reg f b.fin.a=a:=by
    intro hA
    obtain⟨a,ha,_⟩:=gj hA
    obtain⟨hia,haw⟩:=RWords.at_ hgr (k:=.i64) hA.1 ha
    exact⟨a,hia,haw,nz ha⟩
  by_cases h1:b.fin.kind=1
  · rw [if_pos h1]
    rw[h1]at hpa
    obtain⟨a,hia,haw,hra⟩:=wordA (hpa.1 rfl)
    rw[hra]
    obtain⟨e2,hr2,h2⟩:=BE hm' hM hs' haw hQ' h0
    refine⟨e2,?_,h2⟩
    obtain⟨g2,i2,v2,rfl,hg2,hi2,hv2,ho2⟩:=h2
    refine aj.of (f55_MR _ _) ?_
    unfold f55_M
    refine aa.chk rfl (aa.chk rfl (aa.tv rfl (aa.ite rfl (fun h=>?_) fun _=>?_)))
    · simp[TV.cell,nth,ar]at h;exact absurd hd h
    refine aa.tv (RL.len hg) (aa.tv (dec h0 (by omega)) (aa.tvs hef (aa.chk rfl (aa.call hrs (aa.chk rfl (aa.chk hfit (aa.chk rfl (aa.tv rfl (aa.ite rfl nofun fun _=>?_)))))))))
    refine aa.tv rfl (aa.ite rfl (fun _=>?_) fun h=>?_)
    rotate_left
    · simp[TV.cell,TV.comp,nth]at h;omega
    exact aa.tvs hia (aa.chk rfl (aa.call hr2 (aa.chk (bD hg2.isSl hi2.isSl hv2.isSl) aa.ret)))
  rw[if_neg h1]
  by_cases h4:b.fin.kind=4
  · rw [if_pos h4]
    have hc4:=hE.2.2.2.1
    rw[h4,<-hLr]at hc4
    have hA:=hc4.1 rfl
    have hal:=yq hM hA
    obtain⟨_,u2,hu2,_,hpp⟩:=hA
    have hgz:=hga.frz (S:=RI1) fun _ _ h=>h.frz
    obtain⟨e2,hr2,h2⟩:=AB hm' hM hs' hfo.2.2.2.1 hgz ht (fun k p hk=>hpp k (FP.1 hk).1 p hk) (by omega)
    refine⟨e2,?_,h2⟩
    obtain⟨g2,i2,v2,rfl,hg2,hi2,hv2,ho2⟩:=h2
    refine aj.of (f55_MR _ _) ?_
    unfold f55_M
    refine aa.chk rfl (aa.chk rfl (aa.tv rfl (aa.ite rfl (fun h=>?_) fun _=>?_)))
    · simp[TV.cell,nth,ar]at h;exact absurd hd h
    refine aa.tv (RL.len hg) (aa.tv (dec h0 (by omega)) (aa.tvs hef (aa.chk rfl (aa.call hrs (aa.chk rfl (aa.chk hfit (aa.chk rfl (aa.tv rfl (aa.ite rfl nofun fun _=>?_)))))))))
    refine aa.tv rfl (aa.ite rfl (fun h=>?_) fun _=>?_)
    · simp[TV.cell,TV.comp,nth]at h;omega
    refine aa.tv rfl (aa.ite rfl (fun _=>?_) fun h=>?_)
    rotate_left
    · simp[TV.cell,TV.comp,nth]at h;omega
    exact aa.call hr2 (aa.chk (bD hg2.isSl hi2.isSl hv2.isSl) aa.ret)
  rw[if_neg h4]
  by_cases h5:b.fin.kind=5
  · rw [if_pos h5]
    rw[h5]at hpa
    obtain⟨a,hia,haw,hra⟩:=wordA (hpa.1 rfl)
    rw[hra]
    obtain⟨e2,hr2,h2⟩:=Aa hm' hM hs' haw h0 (by omega) hQf
    refine⟨e2,?_,h2⟩
    obtain⟨g2,i2,v2,rfl,hg2,hi2,hv2,ho2⟩:=h2
    refine aj.of (f55_MR _ _) ?_
    unfold f55_M
    refine aa.chk rfl (aa.chk rfl (aa.tv rfl (aa.ite rfl (fun h=>?_) fun _=>?_)))
    · simp[TV.cell,nth,ar]at h;exact absurd hd h
    refine aa.tv (RL.len hg) (aa.tv (dec h0 (by omega)) (aa.tvs hef (aa.chk rfl (aa.call hrs (aa.chk rfl (aa.chk hfit (aa.chk rfl (aa.tv rfl (aa.ite rfl nofun fun _=>?_)))))))))
    refine aa.tv rfl (aa.ite rfl (fun h=>?_) fun _=>?_)
    · simp[TV.cell,TV.comp,nth]at h;omega
    refine aa.tv rfl (aa.ite rfl (fun h=>?_) fun _=>?_)
    · simp[TV.cell,TV.comp,nth]at h;omega
    refine aa.tv rfl (aa.ite rfl (fun _=>?_) fun h=>?_)
    rotate_left
    · simp[TV.cell,TV.comp,nth]at h;omega
    exact aa.tvs hia (aa.chk rfl (aa.call hr2 (aa.chk (bD hg2.isSl hi2.isSl hv2.isSl) aa.ret)))
  rw[if_neg h5]
  by_cases h6:b.fin.kind=6
  · rw [if_pos h6]
    obtain⟨e2,hr2,h2⟩:=Aa hm' hM hs' hof.2.2.2 h0 (by omega) hQf
    refine⟨e2,?_,h2⟩
    obtain⟨g2,i2,v2,rfl,hg2,hi2,hv2,ho2⟩:=h2
    refine aj.of (f55_MR _ _) ?_
    unfold f55_M
    refine aa.chk rfl (aa.chk rfl (aa.tv rfl (aa.ite rfl (fun h=>?_) fun _=>?_)))
    · simp[TV.cell,nth,ar]at h;exact absurd hd h
    refine aa.tv (RL.len hg) (aa.tv (dec h0 (by omega)) (aa.tvs hef (aa.chk rfl (aa.call hrs (aa.chk rfl (aa.chk hfit (aa.chk rfl (aa.tv rfl (aa.ite rfl nofun fun _=>?_)))))))))
    refine aa.tv rfl (aa.ite rfl (fun h=>?_) fun _=>?_)
    · simp[TV.cell,TV.comp,nth]at h;omega
    refine aa.tv rfl (aa.ite rfl (fun h=>?_) fun _=>?_)
    · simp[TV.cell,TV.comp,nth]at h;omega
    refine aa.tv rfl (aa.ite rfl (fun h=>?_) fun _=>?_)
    · simp[TV.cell,TV.comp,nth]at h;omega
    refine aa.tv rfl (aa.ite rfl (fun _=>?_) fun h=>?_)
    rotate_left
    · simp[TV.cell,TV.comp,nth]at h;omega
    exact aa.call hr2 (aa.chk (bD hg2.isSl hi2.isSl hv2.isSl) aa.ret)
  rw[if_neg h6]
  have fin:∀n,inI n->∃e2,aa prog 55 (f55_0 g (W (s.c 0)) (W (s.c 1)) (W (s.c 2)) (W (s.c 3)) (W (s.c 4)) (W (s.c 5)) (W (s.c 6)) (W (s.c 7)) (W (s.c 8)) (W (s.c 9)) (W (s.c 10)) (W (s.c 11)) (W (s.c 12)) (W (s.c 13)) (W (s.c 14)) (W (s.c 15)) i v (I s.done) (W s.value) (I f.f) (I n) (I 0) gr (W f.fly)) (.agg e2)/\RMach e2 (bJ s { f with block:=n,at_:=0 }):=by
    intro n hn
    obtain⟨e2,hr2,h2⟩:=tz (f:={ f with block:=n,at_:=0 }) (q':=none) (e':=[I f.f,I n,I 0,gr,W f.fly]) hs' ⟨_,rfl,hgr,hof.1,hn,in0,hof.2.2.2⟩ h0 (by omega)
    refine⟨e2,?_,h2⟩
    obtain⟨g2,i2,v2,rfl,hg2,hi2,hv2,ho2⟩:=h2
    unfold f55_0
    exact aa.call hr2 (aa.chk (bD hg2.isSl hi2.isSl hv2.isSl) aa.ret)
  by_cases h3:b.fin.kind=3
  · rw [h3] at hpa
    obtain⟨a,hia,haw,hra⟩:=wordA (hpa.1 rfl)
    rw[hra]
    by_cases ha0:a=0
    · rw [if_pos ⟨h3, ha0⟩]
      obtain⟨e2,hr2,h2⟩:=fin b.fin.els hfo.2.2.2.2.2.1
      refine⟨e2,?_,h2⟩
      refine aj.of (f55_MR _ _) ?_
      unfold f55_M
      refine aa.chk rfl (aa.chk rfl (aa.tv rfl (aa.ite rfl (fun h=>?_) fun _=>?_)))
      · simp[TV.cell,nth,ar]at h;exact absurd hd h
      refine aa.tv (RL.len hg) (aa.tv (dec h0 (by omega)) (aa.tvs hef (aa.chk rfl (aa.call hrs (aa.chk rfl (aa.chk hfit (aa.chk rfl (aa.tv rfl (aa.ite rfl nofun fun _=>?_)))))))))
      refine aa.tv rfl (aa.ite rfl (fun h=>?_) fun _=>?_)
      · simp[TV.cell,TV.comp,nth]at h;omega
      refine aa.tv rfl (aa.ite rfl (fun h=>?_) fun _=>?_)
      · simp[TV.cell,TV.comp,nth]at h;omega
      refine aa.tv rfl (aa.ite rfl (fun h=>?_) fun _=>?_)
      · simp[TV.cell,TV.comp,nth]at h;omega
      refine aa.tv rfl (aa.ite rfl (fun h=>?_) fun _=>?_)
      · simp[TV.cell,TV.comp,nth]at h;omega
      refine aa.tv rfl (aa.ite rfl (fun _=>?_) fun h=>?_)
      rotate_left
      · simp[TV.cell,TV.comp,nth]at h;omega
      refine aa.tvs hia (aa.chk rfl (aa.tv rfl (aa.ite rfl (fun _=>f55_0_J hr2) fun h=>?_)))
      simp at h;exact absurd ha0 h
    · rw [if_neg fun h => ha0 h.2]
      obtain⟨e2,hr2,h2⟩:=fin b.fin.to hfo.2.2.2.2.1
      refine⟨e2,?_,h2⟩
      refine aj.of (f55_MR _ _) ?_
      unfold f55_M
      refine aa.chk rfl (aa.chk rfl (aa.tv rfl (aa.ite rfl (fun h=>?_) fun _=>?_)))
      · simp[TV.cell,nth,ar]at h;exact absurd hd h
      refine aa.tv (RL.len hg) (aa.tv (dec h0 (by omega)) (aa.tvs hef (aa.chk rfl (aa.call hrs (aa.chk rfl (aa.chk hfit (aa.chk rfl (aa.tv rfl (aa.ite rfl nofun fun _=>?_)))))))))
      refine aa.tv rfl (aa.ite rfl (fun h=>?_) fun _=>?_)
      · simp[TV.cell,TV.comp,nth]at h;omega
      refine aa.tv rfl (aa.ite rfl (fun h=>?_) fun _=>?_)
      · simp[TV.cell,TV.comp,nth]at h;omega
      refine aa.tv rfl (aa.ite rfl (fun h=>?_) fun _=>?_)
      · simp[TV.cell,TV.comp,nth]at h;omega
      refine aa.tv rfl (aa.ite rfl (fun h=>?_) fun _=>?_)
      · simp[TV.cell,TV.comp,nth]at h;omega
      refine aa.tv rfl (aa.ite rfl (fun _=>?_) fun h=>?_)
      rotate_left
      · simp[TV.cell,TV.comp,nth]at h;omega
      refine aa.tvs hia (aa.chk rfl (aa.tv rfl (aa.ite rfl (fun h=>?_) fun _=>f55_0_J hr2)))
      simp at h;exact absurd h ha0
  rw[if_neg fun h=>h3 h.1]
  obtain⟨e2,hr2,h2⟩:=fin b.fin.to hfo.2.2.2.2.1
  refine⟨e2,?_,h2⟩
  refine aj.of (f55_MR _ _) ?_
  unfold f55_M
  refine aa.chk rfl (aa.chk rfl (aa.tv rfl (aa.ite rfl (fun h=>?_) fun _=>?_)))
  · simp[TV.cell,nth,ar]at h;exact absurd hd h
  refine aa.tv (RL.len hg) (aa.tv (dec h0 (by omega)) (aa.tvs hef (aa.chk rfl (aa.call hrs (aa.chk rfl (aa.chk hfit (aa.chk rfl (aa.tv rfl (aa.ite rfl nofun fun _=>?_)))))))))
  refine aa.tv rfl (aa.ite rfl (fun h=>?_) fun _=>?_)
  · simp[TV.cell,TV.comp,nth]at h;omega
  refine aa.tv rfl (aa.ite rfl (fun h=>?_) fun _=>?_)
  · simp[TV.cell,TV.comp,nth]at h;omega
  refine aa.tv rfl (aa.ite rfl (fun h=>?_) fun _=>?_)
  · simp[TV.cell,TV.comp,nth]at h;omega
  refine aa.tv rfl (aa.ite rfl (fun h=>?_) fun _=>?_)
  · simp[TV.cell,TV.comp,nth]at h;omega
  refine aa.tv rfl (aa.ite rfl (fun h=>?_) fun _=>?_)
  · simp[TV.cell,TV.comp,nth]at h;omega
  exact f55_0_J hr2
end Go.Ab.C14
end
section
set_option maxRecDepth 10000
namespace Go.Ab
def go (m:DMod) (l:List DFrame):Prop:=(∀(k:Nat) f,l[k]? = some f->ca m f)/\∀(k:Nat) f g,l[k]? = some f->l[k+1]? = some g->rW m f g
theorem go.take {m:DMod} {l:List DFrame} (h:go m l) (n:Nat):go m (l.take n):=by
 have key:∀(k:Nat) (f:DFrame),(l.take n)[k]? = some f->l[k]? = some f:=by
  intro k f hk
  rw[List.getElem?_take]at hk
  split at hk
  ·exact hk
  ·cases hk
 exact⟨fun k f hk=>h.1 k f (key k f hk),fun k f g hf hg=>h.2 k f g (key k f hf) (key _ g hg)⟩
theorem jp {α:Type} {l:List α} {a b:α} {k:Nat} (h:(l ++ [a])[k]? = some b):(k<l.length/\l[k]? = some b)\/(k=l.length/\b=a):=by
 by_cases hk:k<l.length
 ·rw[F3 hk]at h
  exact .inl ⟨hk,h⟩
 ·rw[F4 (by omega)]at h
  have:=(FP.1 h).1
  simp at this
  have hk:k=l.length:=by omega
  subst hk
  simp at h
  exact .inr ⟨rfl,h.symm⟩
theorem xa {α:Type} {l:List α} {a:α}:(l ++ [a])[l.length]? = some a:=by simp
theorem rW.to {m:DMod} {f g g':DFrame} (h:rW m f g) (hf:g'.f=g.f):rW m f g':=by
 obtain⟨u,b,hu,hb,h⟩:=h
 refine⟨u,b,hu,hb,?_⟩
 rw[hf]
 exact h
theorem go.top {m:DMod} {l:List DFrame} {f0 f:DFrame} (h:go m (l ++ [f0])) (hf:ca m f) (he:f.f=f0.f):go m (l ++ [f]):=by
 have key:∀(k:Nat) (g:DFrame),k<l.length->l[k]? = some g->(l ++ [f0])[k]? = some g:=fun k g hk hg=>by rw[F3 hk];exact hg
 refine⟨fun k g hg=>?_,fun k g g' hg hg'=>?_⟩
 ·rcases jp hg with⟨hk,hg⟩|⟨_,rfl⟩
  ·exact h.1 k g (key k g hk hg)
  ·exact hf
 ·rcases jp hg' with⟨hk',hg'⟩|⟨hk',rfl⟩
  ·rcases jp hg with⟨hk,hg⟩|⟨hk,rfl⟩
   ·exact h.2 k g g' (key k g hk hg) (key _ g' hk' hg')
   ·omega
  ·rcases jp hg with⟨hk,hg⟩|⟨hk,rfl⟩
   ·exact(h.2 k g f0 (key k g hk hg) (by rw[hk'];exact xa)).to he
   ·omega
theorem go.push {m:DMod} {l:List DFrame} {f0 g:DFrame} (h:go m (l ++ [f0])) (hg:ca m g) (hl:rW m f0 g):go m (l ++ [f0] ++ [g]):=by
 refine⟨fun k x hx=>?_,fun k x y hx hy=>?_⟩
 ·rcases jp hx with⟨_,hx⟩|⟨_,rfl⟩
  ·exact h.1 k x hx
  ·exact hg
 ·rcases jp hy with⟨_,hy⟩|⟨hk',rfl⟩
  ·rcases jp hx with⟨_,hx⟩|⟨hk,rfl⟩
   ·exact h.2 k x y hx hy
   ·have:=(FP.1 hy).1
    omega
  ·rcases jp hx with⟨_,hx⟩|⟨hk,rfl⟩
   ·have hk:k=l.length:=by simp at hk';omega
    rw[hk,xa]at hx
    cases hx
    exact hl
   ·omega
theorem vC {l:List DFrame} {f:DFrame} (h:l[l.length-1]? = some f):l=l.take (l.length-1) ++ [f]:=by
 have hlt:=(FP.1 h).1
 have h1:l.take (l.length-1+1)=l.take (l.length-1) ++ [f]:=by rw[List.take_add_one,h];rfl
 rw[show l.length-1+1=l.length by omega,List.take_length]at h1
 exact h1
theorem db.st {m:DMod} {s:DMach} (h:db m s):go m s.stack:=h.2.2.2
theorem cw {m:DMod} {s:DMach} {f0 f:DFrame} (hd:0<=s.done/\s.done<=6) (hl:s.stack.length<=32) (hs:go m s.stack) (ht:jT s=some f0) (hf:ca m f) (he:f.f=f0.f):db m (bJ s f):=by
 have hst:=vC ht
 have hlt:=(FP.1 ht).1
 refine⟨hd,?_,fun _=>?_,?_⟩
 ·simp[bJ];omega
 ·simp[bJ]
 ·rw[hst]at hs
  exact hs.top hf he
theorem eE {m:DMod} {s:DMach} {how w:Int} (hl:s.stack.length<=32) (hs:go m s.stack) (h:1<=how/\how<=6):db m (d7 s how w) :=
 ⟨⟨by show 0<=how;omega,h.2⟩,hl,fun h0=>by have h0:how=0:=h0;omega,hs⟩
theorem BD {m:DMod} {f:DFrame} {b:DBlock} {n:Int} (h:ca m f) (hb:bg m f=some b) (h0:0<=n) (h1:n<=b.ins.length):ca m { f with at_:=n }:=by
 obtain⟨hf0,u,hu,hL,hb0,b',hb',_⟩:=h
 have:b'=b:=by
  have:bg m f=some b':=by simp[bg,hu,hb']
  rw[hb]at this
  cases this
  rfl
 subst this
 exact⟨hf0,u,hu,hL,hb0,b',hb',h0,h1⟩
theorem mW {m:DMod} {f:DFrame} {n w:Int} (h:ca m f):ca m (iW f n w):=by
 obtain⟨hf0,u,hu,hL,hr⟩:=h
 exact⟨hf0,u,hu,by simpa[iW]using hL,hr⟩
theorem mw {m:DMod} {f:DFrame} {u:DFunc} {l:Bool} {n:Int} (h:ca m f) (hu:m.funcs[f.f.toNat]? = some u) (hg:dk u.blocks n l):ca m { f with block:=n,at_:=0 }:=by
 obtain⟨hf0,u',hu',hL,_⟩:=h
 rw[hu]at hu'
 cases hu'
 obtain⟨h0,b,hb,_⟩:=hg
 exact⟨hf0,u,hu,hL,h0,b,hb,Int.le_refl 0,by simp⟩
end Go.Ab
namespace Go.Ab.C14
open Go Go.Ab Go.Proofs
theorem uP {m:DMod} {n:Int} {args:List Int} {u:DFunc} (hM:cF m) (h0:0<=n) (hu:m.funcs[n.toNat]? = some u) (ha:(args.length:Int)=u.params) :
  ca m ((ij m n args).getD fc)/\((ij m n args).getD fc).f=n:=by
 have hT:ij m n args=some ⟨n,0,0,args.take u.regs.toNat++List.replicate (u.regs.toNat-args.length) 0,0⟩:=by simp[ij,h0,hu,ha]
 rw[hT]
 have hf:=lK hM hu
 obtain⟨b,hb,_⟩:=hf.2.2.1
 have hr:=sM hM hu
 refine⟨⟨h0,u,hu,?_,Int.le_refl 0,b,hb,Int.le_refl 0,by simp⟩,rfl⟩
 simp
 omega
theorem oM {m:DMod} {s:DMach} {n regs:Int} {places:List Int} {f:DFrame} (hM:cF m) (hQ:db m s) (ht:jT s=some f) (ha:jf m.funcs regs n places) (hl:∀g:DFrame,g.f=n->rW m f g):db m (bQ m s n places):=by
 obtain⟨h0,u,hu,hul,_⟩:=ha
 by_cases h32:32<=s.stack.length
 ·have hT:bQ m s n places=d7 s 5 0:=by simp[bQ,h32]
  rw[hT]
  exact eE hQ.2.1 hQ.st (by omega)
 ·have hT:bQ m s n places={ s with stack:=s.stack ++ [(ij m n (bY f.regs places)).getD fc] }:=by simp[bQ,h32,ht]
  rw[hT]
  obtain⟨hf,hn⟩:=uP (args:=bY f.regs places) hM h0 hu (by rw[qI];exact hul)
  refine⟨hQ.1,?_,fun _=>?_,?_⟩
  ·simp;omega
  ·simp
  ·have hst:=vC ht
   have hs:=hQ.st
   show go m (s.stack ++ [_])
   rw[hst]at hs ⊢
   exact hs.push hf (hl _ hn)
theorem land_f {m:DMod} {f:DFrame} {pad w:Int}:((im m f pad w).getD f).f=f.f:=by
 unfold im
 cases m.funcs[f.f.toNat]? with
 | none=>rfl
 | some g =>
  simp only[Option.bind_some]
  split
  ·cases g.blocks[pad.toNat]? with
   | none=>rfl
   | some b =>
    simp only[Option.bind_some]
    split<;>rfl
  ·rfl
theorem vW {m:DMod} {f:DFrame} {pad w:Int} (h:ca m f):ca m ((im m f pad w).getD f):=by
 obtain⟨h0,u,hu,hL,hr⟩:=h
 have hf:ca m f:=⟨h0,u,hu,hL,hr⟩
 by_cases hG:dk u.blocks pad true
 ·obtain⟨hp0,b,hb,hl⟩:=hG
  rw[sR hu hp0 hb hl]
  exact⟨h0,u,hu,by simpa using hL,hp0,b,hb,Int.le_refl 0,by simp⟩
 ·rw[kW hu hG]
  exact hf
theorem nX {m:DMod} {s:DMach} {w:Int} (hQ:db m s):db m (bI m s w):=by
 unfold bI
 split
 ·split
  ·exact hQ
  ·rename_i k hk
   split
   ·exact hQ
   ·rename_i f hf
    have hlt:=(FP.1 hf).1
    refine cw (s:={ s with stack:=s.stack.take (k+1) }) (f0:=f) hQ.1 ?_ (hQ.st.take _) ?_ (vW (hQ.st.1 k f hf)) land_f
    ·have:=hQ.2.1
     simp;omega
    ·simp only[jT,List.length_take]
     rw[List.getElem?_take,if_pos (by omega),<-hf]
     congr 1
     omega
 ·exact eE (by have:=hQ.2.1;simp;omega) (hQ.st.take _) (by omega)
theorem up_at {f:DFrame} {n:Nat} (h0:0<=f.at_) (h1:f.at_<n) (hn:n<=64):IntKind.i64.wrap (f.at_+1)=f.at_+1:=by
 rw[IntKind.wrap_i64];omega
theorem pS {m:DMod} {f:DFrame} {b:DBlock} (hM:cF m) (h:ca m f) (hb:bg m f=some b) (hlt:f.at_.toNat<b.ins.length):ca m (upF f):=by
 have hc:=h
 obtain⟨hf0,u,hu,hL,hb0,b',hb',h0,h1⟩:=hc
 have:bg m f=some b':=by simp[bg,hu,hb']
 rw[hb]at this
 cases this
 have h64:=(j6 hM hu hb').1
 have hw:=up_at (n:=b.ins.length) h0 (by omega) h64
 have:=BD (n:=IntKind.i64.wrap (f.at_+1)) h hb (by omega) (by omega)
 exact this
end Go.Ab.C14
end

import Derived.Test.YtfnpejmlcbkepaaSQ12F57
set_option linter.all false
section
set_option maxRecDepth 10000
namespace Go.Ab
theorem iv {α:Type} {l:List α} {K n:Nat} {a:α} (hn:n<=l.length) (hK:K + 1=n):(l.set K a).take n=(l.take n).take ((l.take n).length - 1) ++ [a]:=by
 have h1:(l.take n).length=n:=by simp; omega
 rw [List.take_set,<- kJ (a:=a) (l:=l.take n) (by omega),h1]
 congr 1
 omega
theorem km {x:TV} {s k n:Nat} (h:slSize x s=true) (hn:k < n):(Bool.and (slSize x s) (Nat.blt k n))=true:=by rw [h,ol hn]; rfl
theorem yG {x:TV} {s k n:Nat} (h:slSize x s=true) (hn:k<=n):(Bool.and (Bool.and (slSize x s) (Nat.ble 0 k)) (Nat.ble k n))=true:=by rw [h,Nat.ble_eq_true_of_le hn]; rfl
end Go.Ab
namespace Go.Ab.Q12
open Go Go.Ab Go.Proofs
theorem Ck {g:TV} {l:List DFrame} {k:Nat} {f:DFrame} {n:Int} (hg:RStack g l) (hk:l[k]? = some f) (hrl:f.regs.length<=256) (hn:inI n):∃ gr e3 g2,pel g k=some [I f.f,I f.block,I f.at_,gr,W f.fly]/\aE [(k,3)] g=some gr/\ab dZ [I f.f,I f.block,I f.at_,gr,W f.fly] 0=true /\
   ao prog 89 [.agg [I f.f,I f.block,I f.at_,Go.Ab.frz gr,W f.fly],I n] (.agg e3)/\(Bool.and ((TV.agg e3).isAgg 5) (ab dZ ((TV.agg e3).cellsL true) 0))=true /\
   (Bool.and (bK dZ [I f.f,I f.block,I f.at_,gr,W f.fly] 0) (ab dZ [TV.cell (.agg e3) 0,TV.cell (.agg e3) 1,TV.cell (.agg e3) 2,TV.cell (.agg e3) 3,TV.cell (.agg e3) 4] 0))=true /\
   cj [] g k 0 [TV.cell (.agg e3) 0,TV.cell (.agg e3) 1,TV.cell (.agg e3) 2,TV.cell (.agg e3) 3,TV.cell (.agg e3) 4]=some g2/\RStack g2 (l.set k { f with block:=n,at_:=0 }):=by
 obtain ⟨gr,he,hget,hgr,hof⟩:=hg.row hk
 have hfit:=cf (a:=f.f) (b:=f.block) (c:=f.at_) (d:=f.fly) hgr.isSl
 have hrz:=hgr.frz (S:=RW1) fun _ _ h=>h.frz
 obtain ⟨e3,hr3,h3⟩:=rGo (b:=n) (q:=some false) (x:=f) (e:=[I f.f,I f.block,I f.at_,Go.Ab.frz gr,W f.fly]) ⟨_,rfl,hrz,hof⟩ (by omega) hn
 obtain ⟨g2,hs2,hg2⟩:=hg.all hk h3
 obtain ⟨g3,rfl,hg3,hof3⟩:=h3
 have h1:=cf (a:=f.f) (b:=n) (c:=0) (d:=f.fly) hg3.isSl
 refine ⟨gr,_,g2,he,hget,hfit,hr3,fq hg3.isSl,?_,hs2,hg2⟩
 show (Bool.and (bK dZ _ 0) (ab dZ [I f.f,I n,I 0,g3,W f.fly] 0))=true
 rw [h1]
 exact (Bool.and_true _).trans (mq hfit)
theorem DK {m:DMod} {s:DMach} {f:DFrame} {u:DFunc} {b:DBlock} {y g i v:TV} (hm:RMod (some false) [y] m) (hM:bP m) (hg:RStack g s.stack) (hi:RWords (some true) i s.inputs) (hv:RInts (some true) v s.events) (ho:s.ok)
  (ht:i5 s=some f) (hf0:0<=f.f) (hu:m.funcs[f.f.toNat]? = some u) (hb0:0<=f.block) (hb:u.blocks[f.block.toNat]? = some b) (ha0:0<=f.at_) (hat:f.at_=b.ins.length) (hE:tM m.funcs f.regs.length u.blocks b.fin) (h4:b.fin.kind=4) :
  ∃ r,aa prog 52 (f52_0 (s.stack.length - 1) (W (s.c 0)) (W (s.c 1)) (W (s.c 2)) (W (s.c 3)) (W (s.c 4)) (W (s.c 5)) (W (s.c 6)) (W (s.c 7)) (W (s.c 8)) (W (s.c 9)) (W (s.c 10)) (W (s.c 11)) (W (s.c 12)) (W (s.c 13)) (W (s.c 14)) (W (s.c 15)) (I s.done) (W s.value) y g TV.hole TV.hole TV.hole TV.hole TV.hole TV.hole TV.hole TV.hole TV.hole TV.hole TV.hole TV.hole TV.hole TV.hole TV.hole TV.hole i v TV.hole TV.hole y) r/\bi (bJ m s b.fin.f b.fin.args) y r:=by
 have h0:0 < s.stack.length:=by
  have:=(EJ.1 ht).1
  omega
 have hyr:RL (some false) 3 (RFunc (some false)) y m.funcs:=by
  obtain ⟨y',h,h'⟩:=hm
  cases h
  exact h'
 obtain ⟨gr,he,hget,hgr,hof⟩:=hg.row ht
 have hfit:=cf (a:=f.f) (b:=f.block) (c:=f.at_) (d:=f.fly) hgr.isSl
 obtain ⟨eu,heu,hru⟩:=hyr.bW (k:=.i64) hf0 hu
 obtain ⟨bs,rfl,hbs,_⟩:=hru
 obtain ⟨eb,heb,hrb⟩:=hbs.bW (k:=.i64) hb0 hb
 obtain ⟨c,is,ga,rfl,hc,hdi,his,hga,hfo⟩:=hrb
 have hcl:=hE.2.2.2.1
 rw [h4] at hcl
 obtain ⟨hn0,w,hw,hwl,hpp⟩:=hcl.1 rfl
 have hlen:=RL.len (t:=51) hg
 by_cases h32:32<=s.stack.length
 ·have hT2:bJ m s b.fin.f b.fin.args=bO s 5 0:=by simp [bJ,h32]
  rw [hT2]
  refine ⟨_,?_,⟨g,i,v,rfl,hg,hi,hv,ho.1,ho.2.1,iy (by show 0<=(_:Int)/\(_:Int)<=6; simp [bO]),nY⟩⟩
  unfold f52_0
  have hblk:=f7 (c:=I f.at_) (z:=TV.lf (Go.Ab.frz gr)) (d:=W f.fly) heu rfl rfl heb
  refine aa.tvs he (aa.chk hfit (aa.tv hget (aa.call hblk (aa.chk rfl (aa.tvs he (aa.chk rfl (aa.tv (RL.len his) (aa.tv rfl (aa.ite rfl (fun h=>?_) fun _=>?_)))))))))
  ·simp [nth] at h; omega
  refine aa.tv rfl (aa.ite rfl (fun h=>?_) fun _=>?_)
  ·simp [nth] at h; omega
  refine aa.tv rfl (aa.ite rfl (fun h=>?_) fun _=>?_)
  ·simp [nth] at h; omega
  refine aa.tv rfl (aa.ite rfl (fun h=>?_) fun _=>?_)
  ·simp [nth] at h; omega
  refine aa.tv rfl (aa.ite rfl (fun _=>?_) fun h=>?_)
  rotate_left
  ·simp [nth] at h; omega
  refine aa.tv hlen (aa.tv rfl (aa.ite rfl (fun _=>aa.ret) fun h=>?_))
  simp at h; omega
 have hwf:=iP hM hw
 have hlr:b.fin.args.length<=w.regs.toNat:=by have:=hwf.1; omega
 have hT2:bJ m s b.fin.f b.fin.args={ s with stack:=s.stack ++ [⟨b.fin.f,0,0,aJ f.regs b.fin.args ++ List.replicate (w.regs.toNat - b.fin.args.length) 0,0⟩] }:=by
  have hnr:=we (args:=aJ f.regs b.fin.args) hn0 hw (by rw [bH]; exact hwl) (by rw [bH]; exact hlr)
  rw [bH] at hnr
  simp only [bJ,if_neg h32,ht,hnr]
 rw [hT2]
 obtain ⟨ew,hew,hrw⟩:=hyr.bW (k:=.i64) hn0 hw
 obtain ⟨bw,rfl,_⟩:=hrw
 obtain ⟨g2,hgo,hg2⟩:=pArgs3 (i:=i) (v:=v) (y:=y) hg ht hfo.2.2.2.1 hga (fun k p hk=>hpp k (EJ.1 hk).1 p hk) hlr (by have:=hwf.1; omega) (by omega)
 refine ⟨_,?_,⟨g2,i,v,rfl,hg2,hi,hv,ho⟩⟩
 have hnn:ak (I w.regs)=some w.regs.toNat:=aV (by have:=hwf.1; omega) ⟨by have:=hwf.1; omega,by have:=hwf.1; omega⟩
 have hbb:(Bool.and (Nat.ble w.regs.toNat w.regs.toNat) (Nat.ble w.regs.toNat 4294967296))=true:=by
  rw [Nat.ble_eq_true_of_le (Nat.le_refl _),Nat.ble_eq_true_of_le (by have:=hwf.1; omega)]
  rfl
 unfold f52_0
 have hblk:=f7 (c:=I f.at_) (z:=TV.lf (Go.Ab.frz gr)) (d:=W f.fly) heu rfl rfl heb
 refine aa.tvs he (aa.chk hfit (aa.tv hget (aa.call hblk (aa.chk rfl (aa.tvs he (aa.chk rfl (aa.tv (RL.len his) (aa.tv rfl (aa.ite rfl (fun h=>?_) fun _=>?_)))))))))
 ·simp [nth] at h; omega
 refine aa.tv rfl (aa.ite rfl (fun h=>?_) fun _=>?_)
 ·simp [nth] at h; omega
 refine aa.tv rfl (aa.ite rfl (fun h=>?_) fun _=>?_)
 ·simp [nth] at h; omega
 refine aa.tv rfl (aa.ite rfl (fun h=>?_) fun _=>?_)
 ·simp [nth] at h; omega
 refine aa.tv rfl (aa.ite rfl (fun _=>?_) fun h=>?_)
 rotate_left
 ·simp [nth] at h; omega
 refine aa.tv hlen (aa.tv rfl (aa.ite rfl (fun h=>?_) fun _=>?_))
 ·simp at h; omega
 exact aa.tvs hew (aa.chk rfl (aa.nat hnn (aa.nat hnn (aa.chk hbb (aa.tv (RL.len hga) (f52_3_J hgo))))))
theorem DM {m:DMod} {s:DMach} {f:DFrame} {u:DFunc} {b:DBlock} {y g i v:TV} (hm:RMod (some false) [y] m) (hM:bP m) (hg:RStack g s.stack) (hi:RWords (some true) i s.inputs) (hv:RInts (some true) v s.events) (ho:s.ok) (hQ:cH m s)
  (ht:i5 s=some f) (hf0:0<=f.f) (hu:m.funcs[f.f.toNat]? = some u) (hb0:0<=f.block) (hb:u.blocks[f.block.toNat]? = some b) (ha0:0<=f.at_) (hat:f.at_=b.ins.length) (hE:tM m.funcs f.regs.length u.blocks b.fin) (h1:b.fin.kind=1) :
  ∃ r,aa prog 52 (f52_0 (s.stack.length - 1) (W (s.c 0)) (W (s.c 1)) (W (s.c 2)) (W (s.c 3)) (W (s.c 4)) (W (s.c 5)) (W (s.c 6)) (W (s.c 7)) (W (s.c 8)) (W (s.c 9)) (W (s.c 10)) (W (s.c 11)) (W (s.c 12)) (W (s.c 13)) (W (s.c 14)) (W (s.c 15)) (I s.done) (W s.value) y g TV.hole TV.hole TV.hole TV.hole TV.hole TV.hole TV.hole TV.hole TV.hole TV.hole TV.hole TV.hole TV.hole TV.hole TV.hole TV.hole i v TV.hole TV.hole y) r/\bi (bQ m s (reg f b.fin.a)) y r:=by
 have h0:0 < s.stack.length:=by
  have:=(EJ.1 ht).1
  omega
 obtain ⟨_,h32,_,hQf,hL⟩:=hQ
 have hyr:RL (some false) 3 (RFunc (some false)) y m.funcs:=by
  obtain ⟨y',h,h'⟩:=hm
  cases h
  exact h'
 obtain ⟨gr,he,hget,hgr,hof⟩:=hg.row ht
 have hfit:=cf (a:=f.f) (b:=f.block) (c:=f.at_) (d:=f.fly) hgr.isSl
 have hfs:=fH (a:=f.f) (b:=f.block) (c:=f.at_) (d:=f.fly) hgr.isSl
 obtain ⟨eu,heu,hru⟩:=hyr.bW (k:=.i64) hf0 hu
 obtain ⟨bs,rfl,hbs,_⟩:=hru
 obtain ⟨eb,heb,hrb⟩:=hbs.bW (k:=.i64) hb0 hb
 obtain ⟨c,is,ga,rfl,hc,hdi,his,hga,hfo⟩:=hrb
 have hpa:=hE.2.1
 rw [h1] at hpa
 have hA:within b.fin.a f.regs.length:=hpa.1 rfl
 obtain ⟨a,ha,hal⟩:=bu hA
 obtain ⟨pe,hpe,rfl,haw⟩:=hgr.pel ha
 have hra:reg f b.fin.a=a:=iC ha
 have hla:=cF hgr.slSize hal
 rw [hra]
 have hlen:=RL.len (t:=51) hg
 have hcw:=yG hg.slSize (show s.stack.length - 1<=s.stack.length by omega)
 obtain ⟨gw,hgw,hrw⟩:=hg.win (n:=s.stack.length - 1) (by omega)
 have htl:(s.stack.take (s.stack.length - 1)).length=s.stack.length - 1:=by simp
 have hlw:=RL.len (t:=51) hrw
 rw [htl] at hlw
 by_cases hone:s.stack.length<=1
 ·have hT:bQ m s a=bO { s with stack:=[] } 1 a:=by
   unfold bQ
   obtain ⟨f',hf'⟩:∃ f',s.stack[s.stack.length - 2]? = some f':=⟨_,EK (by omega)⟩
   rw [hf']
   simp only
   rw [if_pos hone]
  rw [hT]
  have hnil:s.stack.take (s.stack.length - 1)=[]:=List.length_eq_zero_iff.1 (by rw [htl]; omega)
  rw [hnil] at hrw
  refine ⟨_,?_,⟨gw,i,v,rfl,hrw,hi,hv,ho.1,ho.2.1,iy (by show 0<=(_:Int)/\(_:Int)<=6; simp [bO]),haw⟩⟩
  unfold f52_0
  have hblk:=f7 (c:=I f.at_) (z:=TV.lf (Go.Ab.frz gr)) (d:=W f.fly) heu rfl rfl heb
  refine aa.tvs he (aa.chk hfit (aa.tv hget (aa.call hblk (aa.chk rfl (aa.tvs he (aa.chk rfl (aa.tv (RL.len his) (aa.tv rfl (aa.ite rfl (fun h=>?_) fun _=>?_)))))))))
  ·simp [nth] at h; omega
  refine aa.tv rfl (aa.ite rfl (fun _=>?_) fun h=>?_)
  rotate_left
  ·simp [nth] at h; omega
  refine aa.tvs he (aa.chk hfs (aa.tv hget (aa.nat hgr.slLen (aa.nat (aV hA.1 hfo.2.1) (aa.chk hla (aa.tv hget (aa.tvs hpe (aa.chk rfl ?_))))))))
  refine aa.tv hlen (aa.tv (dec h0 (by omega)) (aa.nat hg.slLen (aa.nat (aM (by omega)) (aa.chk hcw (aa.tv hgw (aa.tv hlw (aa.tv rfl (aa.ite rfl (fun _=>aa.tv hgw aa.ret) fun h=>?_))))))))
  simp at h; omega
 obtain ⟨f2,hf2⟩:∃ f2,s.stack[0 + (s.stack.length - 1 - 1)]? = some f2:=⟨_,EK (by omega)⟩
 have hK:0 + (s.stack.length - 1 - 1) + 1=s.stack.length - 1:=by omega
 have hf2':s.stack[s.stack.length - 2]? = some f2:=by rw [<- hf2]; congr 1; omega
 have hf2b:s.stack[s.stack.length - 2 + 1]? = some f:=by
  have ht':s.stack[s.stack.length - 1]? = some f:=ht
  rw [<- ht']; congr 1; omega
 obtain ⟨u2,b2,hu2,hb2,hlink⟩:=hL _ f2 f hf2' hf2b
 have hQ2:=hQf _ f2 hf2'
 have hrl:=iD hM hQ2
 obtain ⟨hf20,u',hu',hLr2,hb20,b',hb',ha20,ha21⟩:=hQ2
 rw [hu2] at hu'
 cases hu'
 rw [hb2] at hb'
 cases hb'
 have hbo:aY m f2=some b2:=by simp [aY,hu2,hb2]
 obtain ⟨gr2,he2,hget2,hgr2,hof2⟩:=hg.row hf2
 have hfit2:=cf (a:=f2.f) (b:=f2.block) (c:=f2.at_) (d:=f2.fly) hgr2.isSl
 have hfs2:=fH (a:=f2.f) (b:=f2.block) (c:=f2.at_) (d:=f2.fly) hgr2.isSl
 obtain ⟨eu2,heu2,hru2⟩:=hyr.bW (k:=.i64) hf20 hu2
 obtain ⟨bs2,rfl,hbs2,_⟩:=hru2
 obtain ⟨eb2,heb2,hrb2⟩:=hbs2.bW (k:=.i64) hb20 hb2
 obtain ⟨c2,is2,ga2,rfl,hc2,hdi2,his2,hga2,hfo2⟩:=hrb2
 have hblk2:=f7 (c:=I f2.at_) (z:=TV.lf (Go.Ab.frz gr2)) (d:=W f2.fly) heu2 rfl rfl heb2
 have hcs:=km hg.slSize (show s.stack.length - 1 - 1 < s.stack.length - 1 by omega)
 by_cases hat2:f2.at_=(b2.ins.length:Int)
 ·have hk4:b2.fin.kind=4:=by
   rcases hlink with ⟨_,h,_⟩ | ⟨h,_⟩
   ·exact h
   ·exact absurd hat2 h
  clear hlink
  have hT:bQ m s a=cG { s with stack:=s.stack.take (s.stack.length - 1) } { mS f2 b2.fin.dst a with block:=b2.fin.to,at_:=0 }:=by
   unfold bQ
   rw [hf2']
   simp only
   rw [if_neg hone,hbo]
   simp only
   rw [if_pos hat2]
  rw [hT]
  have hE2:=lZ hM hu2 hb2
  have hD:within b2.fin.dst f2.regs.length:=by
   rw [hLr2]
   have:=hE2.2.2.1.1
   rw [hk4] at this
   exact this rfl
  obtain ⟨d,hd,hdl⟩:=bu hD
  obtain ⟨pd,hpde,rfl,_⟩:=hgr2.pel hd
  have hld:=cF hgr2.slSize hdl
  obtain ⟨g1,hs1,hg1⟩:=hg.put hf2 (w:=a) hdl haw
  have ht1:=lq (b:={ f2 with regs:=f2.regs.set b2.fin.dst.toNat a }) hf2
  obtain ⟨gr3,e3,g2,he3,hget3,hfit3,hr3,hf3,hf4,hs2,hg2⟩:=Ck (n:=b2.fin.to) hg1 ht1 (by simpa using hrl) hfo2.2.2.2.2.1
  rw [dq] at hg2
  obtain ⟨g3,hs3,hg3⟩:=hg2.win (n:=s.stack.length - 1) (by simp)
  rw [iv (by omega) hK] at hg3
  refine ⟨_,?_,⟨g3,i,v,rfl,hg3,hi,hv,ho⟩⟩
  unfold f52_0
  have hblk:=f7 (c:=I f.at_) (z:=TV.lf (Go.Ab.frz gr)) (d:=W f.fly) heu rfl rfl heb
  refine aa.tvs he (aa.chk hfit (aa.tv hget (aa.call hblk (aa.chk rfl (aa.tvs he (aa.chk rfl (aa.tv (RL.len his) (aa.tv rfl (aa.ite rfl (fun h=>?_) fun _=>?_)))))))))
  ·simp [nth] at h; omega
  refine aa.tv rfl (aa.ite rfl (fun _=>?_) fun h=>?_)
  rotate_left
  ·simp [nth] at h; omega
  refine aa.tvs he (aa.chk hfs (aa.tv hget (aa.nat hgr.slLen (aa.nat (aV hA.1 hfo.2.1) (aa.chk hla (aa.tv hget (aa.tvs hpe (aa.chk rfl ?_))))))))
  refine aa.tv hlen (aa.tv (dec h0 (by omega)) (aa.nat hg.slLen (aa.nat (aM (by omega)) (aa.chk hcw (aa.tv hgw (aa.tv hlw (aa.tv rfl (aa.ite rfl (fun h=>?_) fun _=>?_))))))))
  ·simp at h; omega
  refine aa.tv hgw (aa.tv hlw (aa.tv (dec (by omega) (by omega)) (aa.nat (aM (by omega)) (aa.chk hcs (aa.tvs he2 (aa.chk hfit2 (aa.tv hget2 (aa.call hblk2 (aa.chk rfl ?_)))))))))
  refine aa.tvs he2 (aa.chk rfl (aa.tv (RL.len his2) (aa.tv rfl (aa.ite rfl (fun h=>?_) fun _=>?_))))
  ·simp [nth] at h; omega
  refine aa.tvs he2 (aa.chk hfs2 (aa.tv hget2 (aa.nat hgr2.slLen (aa.nat (aV hD.1 hfo2.2.2.1) (aa.chk hld (aa.tv hget2 (aa.tvs hpde (aa.chk rfl (aa.tv hs1 ?_)))))))))
  exact aa.tvs he3 (aa.chk hfit3 (aa.tv hget3 (aa.call hr3 (aa.chk hf3 (aa.tvs he3 (aa.chk hf4 (aa.tv hs2 (aa.tv hs3 aa.ret))))))))
 ·obtain ⟨x2,hx2,h11⟩:∃ x,b2.ins[f2.at_.toNat]? = some x/\x.op=11:=by
   rcases hlink with ⟨h,_⟩ | ⟨_,x,hx,h,_⟩
   ·exact absurd h hat2
   ·exact ⟨x,hx,h⟩
  clear hlink
  have hlt2:=(EJ.1 hx2).1
  have hT:bQ m s a=cG { s with stack:=s.stack.take (s.stack.length - 1) } (upF (mS f2 x2.dst a)):=by
   unfold bQ
   rw [hf2']
   simp only
   rw [if_neg hone,hbo]
   simp only
   rw [if_neg hat2,hx2]
  rw [hT]
  have hI2:=qP hM hu2 hb2 hx2
  have hD:within x2.dst f2.regs.length:=by
   rw [hLr2]
   have:=hI2.2.1.1
   rw [h11] at this
   exact this rfl
  obtain ⟨ex2,hex2,hrx2⟩:=his2.bW (k:=.i64) ha20 hx2
  obtain ⟨z2,rfl,hz2,hxo2⟩:=hrx2
  obtain ⟨d,hd,hdl⟩:=bu hD
  obtain ⟨pd,hpde,rfl,_⟩:=hgr2.pel hd
  have hld:=cF hgr2.slSize hdl
  obtain ⟨g1,hs1,hg1⟩:=hg.put hf2 (w:=a) hdl haw
  have ht1:=lq (b:={ f2 with regs:=f2.regs.set x2.dst.toNat a }) hf2
  obtain ⟨gr1,he1,_,_,_⟩:=hg1.row ht1
  obtain ⟨g2,hs2,hg2⟩:=hg1.j3 ht1 (n:=IntKind.i64.wrap (f2.at_ + 1)) (wrap_i64 _)
  rw [dq] at hg2
  obtain ⟨g3,hs3,hg3⟩:=hg2.win (n:=s.stack.length - 1) (by simp)
  rw [iv (by omega) hK] at hg3
  refine ⟨_,?_,⟨g3,i,v,rfl,hg3,hi,hv,ho⟩⟩
  unfold f52_0
  have hblk:=f7 (c:=I f.at_) (z:=TV.lf (Go.Ab.frz gr)) (d:=W f.fly) heu rfl rfl heb
  refine aa.tvs he (aa.chk hfit (aa.tv hget (aa.call hblk (aa.chk rfl (aa.tvs he (aa.chk rfl (aa.tv (RL.len his) (aa.tv rfl (aa.ite rfl (fun h=>?_) fun _=>?_)))))))))
  ·simp [nth] at h; omega
  refine aa.tv rfl (aa.ite rfl (fun _=>?_) fun h=>?_)
  rotate_left
  ·simp [nth] at h; omega
  refine aa.tvs he (aa.chk hfs (aa.tv hget (aa.nat hgr.slLen (aa.nat (aV hA.1 hfo.2.1) (aa.chk hla (aa.tv hget (aa.tvs hpe (aa.chk rfl ?_))))))))
  refine aa.tv hlen (aa.tv (dec h0 (by omega)) (aa.nat hg.slLen (aa.nat (aM (by omega)) (aa.chk hcw (aa.tv hgw (aa.tv hlw (aa.tv rfl (aa.ite rfl (fun h=>?_) fun _=>?_))))))))
  ·simp at h; omega
  refine aa.tv hgw (aa.tv hlw (aa.tv (dec (by omega) (by omega)) (aa.nat (aM (by omega)) (aa.chk hcs (aa.tvs he2 (aa.chk hfit2 (aa.tv hget2 (aa.call hblk2 (aa.chk rfl ?_)))))))))
  refine aa.tvs he2 (aa.chk rfl (aa.tv (RL.len his2) (aa.tv rfl (aa.ite rfl (fun _=>?_) fun h=>?_))))
  rotate_left
  ·simp [nth] at h; omega
  refine aa.tvs he2 (aa.chk hfs2 (aa.tvs he2 (aa.chk rfl (aa.tvs hex2 (aa.chk rfl (aa.tv hget2 (aa.nat hgr2.slLen (aa.nat (aV hD.1 hxo2.2.1) (aa.chk hld (aa.tv hget2 (aa.tvs hpde (aa.chk rfl (aa.tv hs1 ?_)))))))))))))
  exact aa.tvs he1 (aa.chk rfl (aa.tv rfl (aa.tvs he1 (aa.chk rfl (aa.tv hs2 (aa.tv hs3 aa.ret))))))
end Go.Ab.Q12
end
section
set_option maxRecDepth 10000
namespace Go.Ab
theorem oB {m:DMod} {f:DFrame} {u:DFunc} {b:DBlock} {w:Int} {cl:Bool} (hu:m.funcs[f.f.toNat]? = some u) (hb:u.blocks[f.block.toNat]? = some b) (h:¬ f.at_=b.ins.length):¬ fa m f w cl:=by
 rintro ⟨u',b',p,hu',hb',h',_⟩
 rw [hu] at hu'
 cases hu'
 rw [hb] at hb'
 cases hb'
 exact h h'
theorem mo {m:DMod} {f:DFrame} {u:DFunc} {b p:DBlock} {w:Int} {cl:Bool} (hu:m.funcs[f.f.toNat]? = some u) (hb:u.blocks[f.block.toNat]? = some b) (h:f.at_=b.ins.length) (h4:b.fin.kind=4) (hp:u.blocks[b.fin.pad.toNat]? = some p) :
  fa m f w cl ↔ ((p.pad.all=true\/w ∈ p.pad.catches)\/cl=true/\p.pad.cleanup=true):=by
 constructor
 ·rintro ⟨u',b',p',hu',hb',_,_,hp',h⟩
  rw [hu] at hu'
  cases hu'
  rw [hb] at hb'
  cases hb'
  rw [hp] at hp'
  cases hp'
  exact h
 ·exact fun h'=>⟨u,b,p,hu,hb,h,h4,hp,h'⟩
theorem cp {m:DMod} {l:List DFrame} {n k:Nat} {f:DFrame} {w:Int} {cl:Bool} (hk:l[k]? = some f) (hn:k < n):ce m (l.take n) w cl k ↔ fa m f w cl:=by
 constructor
 ·rintro ⟨f',hf',h⟩
  rw [List.getElem?_take,if_pos hn,hk] at hf'
  cases hf'
  exact h
 ·exact fun h=>⟨f,by rw [List.getElem?_take,if_pos hn,hk],h⟩
end Go.Ab
namespace Go.Ab.Q12
open Go Go.Ab Go.Proofs
theorem Dp {m:DMod} {s:DMach} (hQ:cH m s) {k:Nat} (hk:k + 1 < s.stack.length):∃ f u b,s.stack[0 + k]? = some f/\cJ m f/\0<=f.f/\m.funcs[f.f.toNat]? = some u/\0<=f.block/\u.blocks[f.block.toNat]? = some b/\0<=f.at_/\f.at_<=b.ins.length/\(f.at_=b.ins.length->b.fin.kind=4):=by
 obtain ⟨_,h32,_,hQf,hL⟩:=hQ
 obtain ⟨f,hf⟩:∃ f,s.stack[0 + k]? = some f:=⟨_,EK (by omega)⟩
 have hf':s.stack[k]? = some f:=by simpa using hf
 obtain ⟨f2,hf2⟩:∃ f2,s.stack[k + 1]? = some f2:=⟨_,EK hk⟩
 obtain ⟨u,b,hu,hb,hl⟩:=hL _ f f2 hf' hf2
 have hF:=hQf _ f hf'
 obtain ⟨h0,u',hu',hLr,hb0,b',hb',ha0,ha1⟩:=id hF
 rw [hu] at hu'
 cases hu'
 rw [hb] at hb'
 cases hb'
 refine ⟨f,u,b,hf,hF,h0,hu,hb0,hb,ha0,ha1,fun h=>?_⟩
 rcases hl with ⟨_,h,_⟩ | ⟨h',_⟩
 ·exact h
 ·exact absurd h h'
theorem tX {m:DMod} {s:DMach} {w:Int} (h:∀ j,¬ ce m (s.stack.take (s.stack.length - 1)) w false j):be m s w=bO { s with stack:=s.stack.take (s.stack.length - 1) } 2 w:=by
 unfold be
 rw [if_neg (fun ⟨i,hi⟩=>h i hi)]
theorem uz {m:DMod} {s:DMach} {w:Int} {k:Nat} {f:DFrame} (h:∃ j,ce m (s.stack.take (s.stack.length - 1)) w false j) (hk:s.stack[k]? = some f) (hlt:k < s.stack.length - 1) (hc:fa m f w true) (hn:∀ j,k < j->j < s.stack.length - 1->¬ ce m (s.stack.take (s.stack.length - 1)) w true j) :
  be m s w=cG { s with stack:=s.stack.take (k + 1) } ((ik m f (jV m f) w).getD f):=by
 unfold be
 rw [if_pos h,uQ ((cp hk hlt).2 hc) hlt hn]
 simp only
 rw [hk]
theorem Dq {m:DMod} {s:DMach} {f:DFrame} {u:DFunc} {b p:DBlock} {K n:Nat} {w:Int} {pc:TV} {y g i v:TV} (hyr:RL (some false) 3 (RFunc (some false)) y m.funcs) (hM:bP m) (hg:RStack g s.stack) (hi:RWords (some true) i s.inputs) (hv:RInts (some true) v s.events) (ho:s.ok)
  (hw:inW w) (hk:s.stack[K]? = some f) (hrl:f.regs.length<=256) (hf0:0<=f.f) (hu:m.funcs[f.f.toNat]? = some u) (hb0:0<=f.block) (hb:u.blocks[f.block.toNat]? = some b) (hp0:0<=b.fin.pad) (hp:u.blocks[b.fin.pad.toNat]? = some p) (hpl:p.landing=true) (hD:within p.pad.dst f.regs.length) (hdi:inI p.pad.dst) (hKn:K + 1=n) :
  ∃ r,aa prog 52 (f52_10 (W w) K (B true) 0 n (W (s.c 0)) (W (s.c 1)) (W (s.c 2)) (W (s.c 3)) (W (s.c 4)) (W (s.c 5)) (W (s.c 6)) (W (s.c 7)) (W (s.c 8)) (W (s.c 9)) (W (s.c 10)) (W (s.c 11)) (W (s.c 12)) (W (s.c 13)) (W (s.c 14)) (W (s.c 15)) (I s.done) (W s.value) y g TV.hole TV.hole TV.hole TV.hole TV.hole TV.hole TV.hole TV.hole TV.hole TV.hole TV.hole TV.hole TV.hole TV.hole TV.hole TV.hole i v TV.hole TV.hole y (I p.pad.dst) pc (B p.pad.all) (B p.pad.cleanup)) r/\bi (cG { s with stack:=s.stack.take (K + 1) } ((ik m f (jV m f) w).getD f)) y r:=by
 have hlt:=(EJ.1 hk).1
 have hpo:jV m f=b.fin.pad:=by simp [jV,hu,hb]
 have hland:(ik m f (jV m f) w).getD f=⟨f.f,b.fin.pad,0,f.regs.set p.pad.dst.toNat w,w⟩:=by
  simp [ik,hpo,hu,hp0,hp,hpl]
 rw [hland]
 obtain ⟨eu,heu,hru⟩:=hyr.bW (k:=.i64) hf0 hu
 obtain ⟨bs,rfl,hbs,_⟩:=hru
 obtain ⟨eb,heb,hrb⟩:=hbs.bW (k:=.i64) hb0 hb
 obtain ⟨c,is,ga,rfl,hc,hdi0,his,hga,hfo⟩:=hrb
 obtain ⟨gr,e3,g1,he,hget,hfit,hr3,hf3,hf4,hs1,hg1⟩:=Ck (n:=b.fin.pad) hg hk hrl hfo.2.2.2.2.2.2
 have hblk:=f7 (c:=I f.at_) (z:=TV.lf (Go.Ab.frz gr)) (d:=W f.fly) heu rfl rfl heb
 have hk1:=lq (b:={ f with block:=b.fin.pad,at_:=0 }) hk
 obtain ⟨gr1,he1,hget1,hgr1,hof1⟩:=hg1.row hk1
 have hfs1:=fH (a:=f.f) (b:=b.fin.pad) (c:=0) (d:=f.fly) hgr1.isSl
 obtain ⟨d,hd,hdl⟩:=bu hD
 obtain ⟨pd,hpde,rfl,_⟩:=hgr1.pel hd
 have hld:=cF hgr1.slSize hdl
 obtain ⟨g2,hs2,hg2⟩:=hg1.put hk1 (w:=w) hdl hw
 rw [dq] at hg2
 have hk2:=lq (b:={ ({ f with block:=b.fin.pad,at_:=0 }:DFrame) with regs:=f.regs.set p.pad.dst.toNat w }) hk
 obtain ⟨gr2,he2,_,hgr2,_⟩:=hg2.row hk2
 obtain ⟨g3,hs3,hg3⟩:=hg2.Di hk2 (w:=w) hw
 rw [dq] at hg3
 obtain ⟨g4,hs4,hg4⟩:=hg3.win (n:=n) (by simp; omega)
 rw [iv (by omega) hKn] at hg4
 subst hKn
 refine ⟨_,?_,⟨g4,i,v,rfl,hg4,hi,hv,ho⟩⟩
 unfold f52_10
 refine aa.ite rfl (fun _=>?_) nofun
 refine aa.tvs he (aa.chk hfit (aa.tvs he (aa.chk hfit (aa.tv hget (aa.call hblk (aa.chk rfl (aa.tv hget (aa.call hr3 (aa.chk hf3 (aa.tvs he (aa.chk hf4 (aa.tv hs1 ?_))))))))))))
 refine aa.tvs he1 (aa.chk hfs1 (aa.tv hget1 (aa.nat hgr1.slLen (aa.nat (aV hD.1 hdi) (aa.chk hld (aa.chk rfl (aa.tv hget1 (aa.tvs hpde (aa.chk rfl (aa.tv hs2 ?_))))))))))
 exact aa.chk rfl (aa.tvs he2 (aa.chk rfl (aa.tv hs3 (aa.tv hs4 aa.ret))))
theorem wG {s:DMach} {n K:Nat} {w:Int} {y g i v p1 p2 p3 p4 r:TV} (hg:RStack g s.stack) (hb:s.stack.length<=32) (hn:n + 1<=s.stack.length) (h:aa prog 52 (f52_8 (W w) 0 n (W (s.c 0)) (W (s.c 1)) (W (s.c 2)) (W (s.c 3)) (W (s.c 4)) (W (s.c 5)) (W (s.c 6)) (W (s.c 7)) (W (s.c 8)) (W (s.c 9)) (W (s.c 10)) (W (s.c 11)) (W (s.c 12)) (W (s.c 13)) (W (s.c 14)) (W (s.c 15)) (I s.done) (W s.value) y g TV.hole TV.hole TV.hole TV.hole TV.hole TV.hole TV.hole TV.hole TV.hole TV.hole TV.hole TV.hole TV.hole TV.hole TV.hole TV.hole i v TV.hole TV.hole y) r) :
  aa prog 52 (f52_10 (W w) K (B false) 0 (n + 1) (W (s.c 0)) (W (s.c 1)) (W (s.c 2)) (W (s.c 3)) (W (s.c 4)) (W (s.c 5)) (W (s.c 6)) (W (s.c 7)) (W (s.c 8)) (W (s.c 9)) (W (s.c 10)) (W (s.c 11)) (W (s.c 12)) (W (s.c 13)) (W (s.c 14)) (W (s.c 15)) (I s.done) (W s.value) y g TV.hole TV.hole TV.hole TV.hole TV.hole TV.hole TV.hole TV.hole TV.hole TV.hole TV.hole TV.hole TV.hole TV.hole TV.hole TV.hole i v TV.hole TV.hole y p1 p2 p3 p4) r:=by
 obtain ⟨gw,hgw,hrw⟩:=hg.win hn
 have htl:(s.stack.take (n + 1)).length=n + 1:=by simp; omega
 have hlw:=RL.len (t:=51) hrw
 rw [htl] at hlw
 unfold f52_10
 refine aa.ite rfl nofun fun _=>?_
 refine aa.tv hgw (aa.tv hlw (aa.tv (dec (by omega) (by omega)) (aa.nat (aM (by omega)) (aa.chk ?_ (f52_8_J h)))))
 show (Bool.and (slSize g 5) (Nat.ble (n + 1 - 1) (n + 1)))=true
 rw [hg.slSize,Nat.ble_eq_true_of_le (by omega)]
 rfl
theorem C9 {m:DMod} {s:DMach} {w:Int} {y g i v:TV} (hyr:RL (some false) 3 (RFunc (some false)) y m.funcs) (hM:bP m) (hg:RStack g s.stack) (hi:RWords (some true) i s.inputs) (hv:RInts (some true) v s.events) (ho:s.ok) (hw:inW w) (hQ:cH m s)
  (hc:∃ j,ce m (s.stack.take (s.stack.length - 1)) w false j):∀ n,n + 1<=s.stack.length->(∃ j,j < n/\ce m (s.stack.take (s.stack.length - 1)) w true j)->(∀ j,n<=j->j < s.stack.length - 1->¬ ce m (s.stack.take (s.stack.length - 1)) w true j) ->
  ∃ r,aa prog 52 (f52_8 (W w) 0 n (W (s.c 0)) (W (s.c 1)) (W (s.c 2)) (W (s.c 3)) (W (s.c 4)) (W (s.c 5)) (W (s.c 6)) (W (s.c 7)) (W (s.c 8)) (W (s.c 9)) (W (s.c 10)) (W (s.c 11)) (W (s.c 12)) (W (s.c 13)) (W (s.c 14)) (W (s.c 15)) (I s.done) (W s.value) y g TV.hole TV.hole TV.hole TV.hole TV.hole TV.hole TV.hole TV.hole TV.hole TV.hole TV.hole TV.hole TV.hole TV.hole TV.hole TV.hole i v TV.hole TV.hole y) r/\bi (be m s w) y r:=by
 intro n
 induction n with
 | zero =>
  rintro _ ⟨j,hj,_⟩
  omega
 | succ n ih =>
  intro hn hex hnot
  have h32:=hQ.2.1
  obtain ⟨f,u,b,hk,hF,hf0,hu,hb0,hb,ha0,ha1,hk4⟩:=Dp hQ (k:=n) (by omega)
  have hk':s.stack[n]? = some f:=by simpa using hk
  have hrl:=iD hM hF
  obtain ⟨gr,he,hget,hgr,hof⟩:=hg.row hk
  have hfit:=cf (a:=f.f) (b:=f.block) (c:=f.at_) (d:=f.fly) hgr.isSl
  obtain ⟨eu,heu,hru⟩:=hyr.bW (k:=.i64) hf0 hu
  obtain ⟨bs,rfl,hbs,_⟩:=hru
  obtain ⟨eb,heb,hrb⟩:=hbs.bW (k:=.i64) hb0 hb
  obtain ⟨c,is,ga,rfl,hc0,hdi0,his,hga,hfo⟩:=hrb
  have hblk:=f7 (c:=I f.at_) (z:=TV.lf (Go.Ab.frz gr)) (d:=W f.fly) heu rfl rfl heb
  obtain ⟨gw,hgw,hrw⟩:=hg.win (n:=n + 1) (by omega)
  have htl:(s.stack.take (n + 1)).length=n + 1:=by simp; omega
  have hlw:=RL.len (t:=51) hrw
  rw [htl] at hlw
  have hcs:=km hg.slSize (show n + 1 - 1 < n + 1 by omega)
  have next:¬ fa m f w true->∃ r,aa prog 52 (f52_8 (W w) 0 n (W (s.c 0)) (W (s.c 1)) (W (s.c 2)) (W (s.c 3)) (W (s.c 4)) (W (s.c 5)) (W (s.c 6)) (W (s.c 7)) (W (s.c 8)) (W (s.c 9)) (W (s.c 10)) (W (s.c 11)) (W (s.c 12)) (W (s.c 13)) (W (s.c 14)) (W (s.c 15)) (I s.done) (W s.value) y g TV.hole TV.hole TV.hole TV.hole TV.hole TV.hole TV.hole TV.hole TV.hole TV.hole TV.hole TV.hole TV.hole TV.hole TV.hole TV.hole i v TV.hole TV.hole y) r/\bi (be m s w) y r:=by
   intro hnc
   have hnc':¬ ce m (s.stack.take (s.stack.length - 1)) w true n:=fun h=>hnc ((cp hk' (by omega)).1 h)
   refine ih (by omega) ?_ ?_
   ·obtain ⟨j,hj,h⟩:=hex
    have:j≠n:=fun e=>hnc' (e ▸ h)
    exact ⟨j,by omega,h⟩
   ·intro j hj hj2
    by_cases e:j=n
    ·exact e ▸ hnc'
    ·exact hnot j (by omega) hj2
  by_cases hat:f.at_=(b.ins.length:Int)
  rotate_left
  ·obtain ⟨r,hr,hout⟩:=next (oB hu hb hat)
   refine ⟨r,?_,hout⟩
   unfold f52_8
   refine aa.tv hgw (aa.tv hlw (aa.tv (dec (by omega) (by omega)) (aa.nat (aM (by omega)) (aa.chk hcs (aa.tvs he (aa.chk hfit (aa.tv hget (aa.call hblk (aa.chk rfl (aa.tv (RL.len his) (aa.tv rfl (aa.ite rfl (fun _=>?_) fun h=>?_))))))))))))
   rotate_left
   ·simp [nth] at h; omega
   exact aa.ite rfl nofun fun _=>f52_10_J (wG hg h32 (by omega) hr)
  obtain ⟨hp0,p,hp,hpl⟩:=oE hM hu hb (hk4 hat)
  have hce:∀ {cl},fa m f w cl ↔ ((p.pad.all=true\/w ∈ p.pad.catches)\/cl=true/\p.pad.cleanup=true):=mo hu hb hat (hk4 hat) hp
  obtain ⟨ep,hep,hrp⟩:=hbs.bW (k:=.i64) hp0 hp
  obtain ⟨c2,is2,ga2,rfl,hc2,hdi2,_⟩:=hrp
  have hcat:=nP (w:=w) (q:=some false) (e:=[I p.pad.dst,c2,B p.pad.all,B p.pad.cleanup]) (p:=p.pad) ⟨_,rfl,hc2,hdi2⟩
  have hD:within p.pad.dst f.regs.length:=by
   have:=((iM hM hu hp).2.1.2 hpl).1
   obtain ⟨_,u',hu',hLr,_⟩:=hF
   rw [hu] at hu'
   cases hu'
   rw [hLr]
   exact this
  have land:fa m f w true->∃ r,aa prog 52 (f52_10 (W w) (0 + n) (B true) 0 (n + 1) (W (s.c 0)) (W (s.c 1)) (W (s.c 2)) (W (s.c 3)) (W (s.c 4)) (W (s.c 5)) (W (s.c 6)) (W (s.c 7)) (W (s.c 8)) (W (s.c 9)) (W (s.c 10)) (W (s.c 11)) (W (s.c 12)) (W (s.c 13)) (W (s.c 14)) (W (s.c 15)) (I s.done) (W s.value) y g TV.hole TV.hole TV.hole TV.hole TV.hole TV.hole TV.hole TV.hole TV.hole TV.hole TV.hole TV.hole TV.hole TV.hole TV.hole TV.hole i v TV.hole TV.hole y (I p.pad.dst) c2 (B p.pad.all) (B p.pad.cleanup)) r/\bi (be m s w) y r:=by
   intro hyes
   obtain ⟨r,hr,hout⟩:=Dq (pc:=c2) (n:=n + 1) (m:=m) hyr hM hg hi hv ho hw hk hrl hf0 hu hb0 hb hp0 hp hpl hD hdi2 (by omega)
   refine ⟨r,hr,?_⟩
   rw [uz hc hk' (by omega) hyes fun j h1 h2=>hnot j (by omega) h2]
   have e:0 + n + 1=n + 1:=by omega
   rw [e] at hout
   exact hout
  by_cases hcl:p.pad.cleanup=true
  ·obtain ⟨r,hr,hout⟩:=land (hce.2 (.inr ⟨rfl,hcl⟩))
   refine ⟨r,?_,hout⟩
   unfold f52_8
   refine aa.tv hgw (aa.tv hlw (aa.tv (dec (by omega) (by omega)) (aa.nat (aM (by omega)) (aa.chk hcs (aa.tvs he (aa.chk hfit (aa.tv hget (aa.call hblk (aa.chk rfl (aa.tv (RL.len his) (aa.tv rfl (aa.ite rfl (fun h=>?_) fun _=>?_))))))))))))
   ·simp [nth] at h; omega
   refine aa.tvs heu (aa.chk rfl (aa.tvs hep (aa.chk rfl (aa.ite rfl (fun _=>?_) nofun))))
   refine aa.ite rfl (fun _=>f52_10_J hr) fun h=>?_
   rw [hcl] at h
   cases h
  ·by_cases hyes:p.pad.all=true\/w ∈ p.pad.catches
   ·obtain ⟨r,hr,hout⟩:=land (hce.2 (.inl hyes))
    rw [gB hyes] at hcat
    refine ⟨r,?_,hout⟩
    unfold f52_8
    refine aa.tv hgw (aa.tv hlw (aa.tv (dec (by omega) (by omega)) (aa.nat (aM (by omega)) (aa.chk hcs (aa.tvs he (aa.chk hfit (aa.tv hget (aa.call hblk (aa.chk rfl (aa.tv (RL.len his) (aa.tv rfl (aa.ite rfl (fun h=>?_) fun _=>?_))))))))))))
    ·simp [nth] at h; omega
    refine aa.tvs heu (aa.chk rfl (aa.tvs hep (aa.chk rfl (aa.ite rfl (fun _=>?_) nofun))))
    refine aa.ite rfl (fun h=>absurd h hcl) fun _=>?_
    exact aa.call hcat (aa.chk rfl (f52_10_J hr))
   ·rw [eJ hyes] at hcat
    obtain ⟨r,hr,hout⟩:=next (fun h=>by
     rcases hce.1 h with h | ⟨_,h⟩
     ·exact hyes h
     ·exact hcl h)
    refine ⟨r,?_,hout⟩
    unfold f52_8
    refine aa.tv hgw (aa.tv hlw (aa.tv (dec (by omega) (by omega)) (aa.nat (aM (by omega)) (aa.chk hcs (aa.tvs he (aa.chk hfit (aa.tv hget (aa.call hblk (aa.chk rfl (aa.tv (RL.len his) (aa.tv rfl (aa.ite rfl (fun h=>?_) fun _=>?_))))))))))))
    ·simp [nth] at h; omega
    refine aa.tvs heu (aa.chk rfl (aa.tvs hep (aa.chk rfl (aa.ite rfl (fun _=>?_) nofun))))
    refine aa.ite rfl (fun h=>absurd h hcl) fun _=>?_
    exact aa.call hcat (aa.chk rfl (f52_10_J (wG hg h32 (by omega) hr)))
theorem Bx {m:DMod} {s:DMach} {w:Int} {y g i v:TV} (hyr:RL (some false) 3 (RFunc (some false)) y m.funcs) (hM:bP m) (hg:RStack g s.stack) (hi:RWords (some true) i s.inputs) (hv:RInts (some true) v s.events) (ho:s.ok) (hw:inW w) (hQ:cH m s) (h0:0 < s.stack.length) :
  ∀ d k,k + d=s.stack.length - 1->(∀ j,j < k->¬ ce m (s.stack.take (s.stack.length - 1)) w false j) ->
  ∃ r,aa prog 52 (f52_4 (W w) 0 (s.stack.length - 1) (I ((s.stack.length - 1:Nat):Int)) (I (k:Int)) 0 (s.stack.length - 1) (W (s.c 0)) (W (s.c 1)) (W (s.c 2)) (W (s.c 3)) (W (s.c 4)) (W (s.c 5)) (W (s.c 6)) (W (s.c 7)) (W (s.c 8)) (W (s.c 9)) (W (s.c 10)) (W (s.c 11)) (W (s.c 12)) (W (s.c 13)) (W (s.c 14)) (W (s.c 15)) (I s.done) (W s.value) y g TV.hole TV.hole TV.hole TV.hole TV.hole TV.hole TV.hole TV.hole TV.hole TV.hole TV.hole TV.hole TV.hole TV.hole TV.hole TV.hole i v TV.hole TV.hole y (W w)) r/\bi (be m s w) y r:=by
 have h32:=hQ.2.1
 intro d
 induction d with
 | zero =>
  intro k hk hn
  have hk:k=s.stack.length - 1:=by omega
  subst hk
  obtain ⟨gw,hgw,hrw⟩:=hg.win (n:=s.stack.length - 1) (by omega)
  rw [tX fun j hj=>by
   by_cases hlt:j < s.stack.length - 1
   ·exact hn j hlt hj
   ·obtain ⟨f,hf,_⟩:=hj
    have:=(EJ.1 hf).1
    simp at this
    omega]
  refine ⟨_,?_,⟨gw,i,v,rfl,hrw,hi,hv,ho.1,ho.2.1,iy (by show 0<=(_:Int)/\(_:Int)<=6; simp [bO]),hw⟩⟩
  unfold f52_4
  exact aa.tv rfl (aa.ite bL nofun fun _=>aa.chk rfl (aa.tv hgw aa.ret))
 | succ d ih =>
  intro k hk hn
  have hlt:k < s.stack.length - 1:=by omega
  obtain ⟨f,u,b,hkf,hF,hf0,hu,hb0,hb,ha0,ha1,hk4⟩:=Dp hQ (k:=k) (by omega)
  have hkf':s.stack[k]? = some f:=by simpa using hkf
  have hrl:=iD hM hF
  obtain ⟨gr,he,hget,hgr,hof⟩:=hg.row hkf
  have hfit:=cf (a:=f.f) (b:=f.block) (c:=f.at_) (d:=f.fly) hgr.isSl
  obtain ⟨eu,heu,hru⟩:=hyr.bW (k:=.i64) hf0 hu
  obtain ⟨bs,rfl,hbs,_⟩:=hru
  obtain ⟨eb,heb,hrb⟩:=hbs.bW (k:=.i64) hb0 hb
  obtain ⟨c,is,ga,rfl,hc0,hdi0,his,hga,hfo⟩:=hrb
  have hblk:=f7 (c:=I f.at_) (z:=TV.lf (Go.Ab.frz gr)) (d:=W f.fly) heu rfl rfl heb
  have hcs:=km hg.slSize hlt
  have next:¬ fa m f w false->∃ r,aa prog 52 (f52_4 (W w) 0 (s.stack.length - 1) (I ((s.stack.length - 1:Nat):Int)) (I ((k + 1:Nat):Int)) 0 (s.stack.length - 1) (W (s.c 0)) (W (s.c 1)) (W (s.c 2)) (W (s.c 3)) (W (s.c 4)) (W (s.c 5)) (W (s.c 6)) (W (s.c 7)) (W (s.c 8)) (W (s.c 9)) (W (s.c 10)) (W (s.c 11)) (W (s.c 12)) (W (s.c 13)) (W (s.c 14)) (W (s.c 15)) (I s.done) (W s.value) y g TV.hole TV.hole TV.hole TV.hole TV.hole TV.hole TV.hole TV.hole TV.hole TV.hole TV.hole TV.hole TV.hole TV.hole TV.hole TV.hole i v TV.hole TV.hole y (W w)) r/\bi (be m s w) y r:=by
   intro hnc
   refine ih (k + 1) (by omega) fun j hj=>?_
   by_cases e:j=k
   ·subst e
    exact fun h=>hnc ((cp hkf' hlt).1 h)
   ·exact hn j (by omega)
  have hinc:pbin (.int .i64) .add (I (k:Int)) (I (1:Int))=some (I ((k + 1:Nat):Int)):=inc hlt (by omega)
  by_cases hat:f.at_=(b.ins.length:Int)
  rotate_left
  ·obtain ⟨r,hr,hout⟩:=next (oB hu hb hat)
   refine ⟨r,?_,hout⟩
   unfold f52_4
   refine aa.tv rfl (aa.ite (bv hlt) (fun _=>?_) nofun)
   refine aa.nat (aM (by omega)) (aa.chk hcs (aa.tvs he (aa.chk hfit (aa.tv hget (aa.call hblk (aa.chk rfl (aa.tv (RL.len his) (aa.tv rfl (aa.ite rfl (fun _=>?_) fun h=>?_)))))))))
   rotate_left
   ·simp [nth] at h; omega
   exact aa.ite rfl nofun fun _=>aa.tv hinc (f52_4_J hr)
  obtain ⟨hp0,p,hp,hpl⟩:=oE hM hu hb (hk4 hat)
  have hce:∀ {cl},fa m f w cl ↔ ((p.pad.all=true\/w ∈ p.pad.catches)\/cl=true/\p.pad.cleanup=true):=mo hu hb hat (hk4 hat) hp
  obtain ⟨ep,hep,hrp⟩:=hbs.bW (k:=.i64) hp0 hp
  obtain ⟨c2,is2,ga2,rfl,hc2,hdi2,_⟩:=hrp
  have hcat:=nP (w:=w) (q:=some false) (e:=[I p.pad.dst,c2,B p.pad.all,B p.pad.cleanup]) (p:=p.pad) ⟨_,rfl,hc2,hdi2⟩
  by_cases hyes:p.pad.all=true\/w ∈ p.pad.catches
  ·rw [gB hyes] at hcat
   have hca:ce m (s.stack.take (s.stack.length - 1)) w false k:=(cp hkf' hlt).2 (hce.2 (.inl hyes))
   have hca':ce m (s.stack.take (s.stack.length - 1)) w true k:=(cp hkf' hlt).2 (hce.2 (.inl hyes))
   obtain ⟨r,hr,hout⟩:=C9 hyr hM hg hi hv ho hw hQ ⟨k,hca⟩ (s.stack.length - 1) (by omega) ⟨k,hlt,hca'⟩ (fun j h1 h2=>by omega)
   refine ⟨r,?_,hout⟩
   unfold f52_4
   refine aa.tv rfl (aa.ite (bv hlt) (fun _=>?_) nofun)
   refine aa.nat (aM (by omega)) (aa.chk hcs (aa.tvs he (aa.chk hfit (aa.tv hget (aa.call hblk (aa.chk rfl (aa.tv (RL.len his) (aa.tv rfl (aa.ite rfl (fun h=>?_) fun _=>?_)))))))))
   ·simp [nth] at h; omega
   refine aa.tvs heu (aa.chk rfl (aa.tvs hep (aa.chk rfl (aa.ite rfl (fun _=>?_) nofun))))
   exact aa.call hcat (aa.chk rfl (aa.ite rfl (fun _=>f52_8_J hr) nofun))
  ·rw [eJ hyes] at hcat
   obtain ⟨r,hr,hout⟩:=next (fun h=>by
    rcases hce.1 h with h | ⟨h,_⟩
    ·exact hyes h
    ·cases h)
   refine ⟨r,?_,hout⟩
   unfold f52_4
   refine aa.tv rfl (aa.ite (bv hlt) (fun _=>?_) nofun)
   refine aa.nat (aM (by omega)) (aa.chk hcs (aa.tvs he (aa.chk hfit (aa.tv hget (aa.call hblk (aa.chk rfl (aa.tv (RL.len his) (aa.tv rfl (aa.ite rfl (fun h=>?_) fun _=>?_)))))))))
   ·simp [nth] at h; omega
   refine aa.tvs heu (aa.chk rfl (aa.tvs hep (aa.chk rfl (aa.ite rfl (fun _=>?_) nofun))))
   exact aa.call hcat (aa.chk rfl (aa.ite rfl nofun fun _=>aa.tv hinc (f52_4_J hr)))
theorem Ek {m:DMod} {s:DMach} {f:DFrame} {u:DFunc} {b p:DBlock} {K n:Nat} {w:Int} {pc:TV} {y g i v:TV} (hyr:RL (some false) 3 (RFunc (some false)) y m.funcs) (hM:bP m) (hg:RStack g s.stack) (hi:RWords (some true) i s.inputs) (hv:RInts (some true) v s.events) (ho:s.ok)
  (hw:inW w) (hk:s.stack[K]? = some f) (hrl:f.regs.length<=256) (hf0:0<=f.f) (hu:m.funcs[f.f.toNat]? = some u) (hb0:0<=f.block) (hb:u.blocks[f.block.toNat]? = some b) (hp0:0<=b.fin.pad) (hp:u.blocks[b.fin.pad.toNat]? = some p) (hpl:p.landing=true) (hD:within p.pad.dst f.regs.length) (hdi:inI p.pad.dst) (hKn:K + 1=n) :
  ∃ r,aa prog 52 (f52_11 (W w) K (B true) 0 n (W (s.c 0)) (W (s.c 1)) (W (s.c 2)) (W (s.c 3)) (W (s.c 4)) (W (s.c 5)) (W (s.c 6)) (W (s.c 7)) (W (s.c 8)) (W (s.c 9)) (W (s.c 10)) (W (s.c 11)) (W (s.c 12)) (W (s.c 13)) (W (s.c 14)) (W (s.c 15)) (I s.done) (W s.value) y g TV.hole TV.hole TV.hole TV.hole TV.hole TV.hole TV.hole TV.hole TV.hole TV.hole TV.hole TV.hole TV.hole TV.hole TV.hole TV.hole i v TV.hole TV.hole y (I p.pad.dst) pc (B p.pad.all) (B p.pad.cleanup)) r/\bi (cG { s with stack:=s.stack.take (K + 1) } ((ik m f (jV m f) w).getD f)) y r:=by
 have hlt:=(EJ.1 hk).1
 have hpo:jV m f=b.fin.pad:=by simp [jV,hu,hb]
 have hland:(ik m f (jV m f) w).getD f=⟨f.f,b.fin.pad,0,f.regs.set p.pad.dst.toNat w,w⟩:=by
  simp [ik,hpo,hu,hp0,hp,hpl]
 rw [hland]
 obtain ⟨eu,heu,hru⟩:=hyr.bW (k:=.i64) hf0 hu
 obtain ⟨bs,rfl,hbs,_⟩:=hru
 obtain ⟨eb,heb,hrb⟩:=hbs.bW (k:=.i64) hb0 hb
 obtain ⟨c,is,ga,rfl,hc,hdi0,his,hga,hfo⟩:=hrb
 obtain ⟨gr,e3,g1,he,hget,hfit,hr3,hf3,hf4,hs1,hg1⟩:=Ck (n:=b.fin.pad) hg hk hrl hfo.2.2.2.2.2.2
 have hblk:=f7 (c:=I f.at_) (z:=TV.lf (Go.Ab.frz gr)) (d:=W f.fly) heu rfl rfl heb
 have hk1:=lq (b:={ f with block:=b.fin.pad,at_:=0 }) hk
 obtain ⟨gr1,he1,hget1,hgr1,hof1⟩:=hg1.row hk1
 have hfs1:=fH (a:=f.f) (b:=b.fin.pad) (c:=0) (d:=f.fly) hgr1.isSl
 obtain ⟨d,hd,hdl⟩:=bu hD
 obtain ⟨pd,hpde,rfl,_⟩:=hgr1.pel hd
 have hld:=cF hgr1.slSize hdl
 obtain ⟨g2,hs2,hg2⟩:=hg1.put hk1 (w:=w) hdl hw
 rw [dq] at hg2
 have hk2:=lq (b:={ ({ f with block:=b.fin.pad,at_:=0 }:DFrame) with regs:=f.regs.set p.pad.dst.toNat w }) hk
 obtain ⟨gr2,he2,_,hgr2,_⟩:=hg2.row hk2
 obtain ⟨g3,hs3,hg3⟩:=hg2.Di hk2 (w:=w) hw
 rw [dq] at hg3
 obtain ⟨g4,hs4,hg4⟩:=hg3.win (n:=n) (by simp; omega)
 rw [iv (by omega) hKn] at hg4
 subst hKn
 refine ⟨_,?_,⟨g4,i,v,rfl,hg4,hi,hv,ho⟩⟩
 unfold f52_11
 refine aa.ite rfl (fun _=>?_) nofun
 refine aa.tvs he (aa.chk hfit (aa.tvs he (aa.chk hfit (aa.tv hget (aa.call hblk (aa.chk rfl (aa.tv hget (aa.call hr3 (aa.chk hf3 (aa.tvs he (aa.chk hf4 (aa.tv hs1 ?_))))))))))))
 refine aa.tvs he1 (aa.chk hfs1 (aa.tv hget1 (aa.nat hgr1.slLen (aa.nat (aV hD.1 hdi) (aa.chk hld (aa.chk rfl (aa.tv hget1 (aa.tvs hpde (aa.chk rfl (aa.tv hs2 ?_))))))))))
 exact aa.chk rfl (aa.tvs he2 (aa.chk rfl (aa.tv hs3 (aa.tv hs4 aa.ret))))
theorem xc {s:DMach} {n K:Nat} {w:Int} {y g i v p1 p2 p3 p4 r:TV} (hg:RStack g s.stack) (hb:s.stack.length<=32) (hn:n + 1<=s.stack.length) (h:aa prog 52 (f52_9 (W w) 0 n (W (s.c 0)) (W (s.c 1)) (W (s.c 2)) (W (s.c 3)) (W (s.c 4)) (W (s.c 5)) (W (s.c 6)) (W (s.c 7)) (W (s.c 8)) (W (s.c 9)) (W (s.c 10)) (W (s.c 11)) (W (s.c 12)) (W (s.c 13)) (W (s.c 14)) (W (s.c 15)) (I s.done) (W s.value) y g TV.hole TV.hole TV.hole TV.hole TV.hole TV.hole TV.hole TV.hole TV.hole TV.hole TV.hole TV.hole TV.hole TV.hole TV.hole TV.hole i v TV.hole TV.hole y) r) :
  aa prog 52 (f52_11 (W w) K (B false) 0 (n + 1) (W (s.c 0)) (W (s.c 1)) (W (s.c 2)) (W (s.c 3)) (W (s.c 4)) (W (s.c 5)) (W (s.c 6)) (W (s.c 7)) (W (s.c 8)) (W (s.c 9)) (W (s.c 10)) (W (s.c 11)) (W (s.c 12)) (W (s.c 13)) (W (s.c 14)) (W (s.c 15)) (I s.done) (W s.value) y g TV.hole TV.hole TV.hole TV.hole TV.hole TV.hole TV.hole TV.hole TV.hole TV.hole TV.hole TV.hole TV.hole TV.hole TV.hole TV.hole i v TV.hole TV.hole y p1 p2 p3 p4) r:=by
 obtain ⟨gw,hgw,hrw⟩:=hg.win hn
 have htl:(s.stack.take (n + 1)).length=n + 1:=by simp; omega
 have hlw:=RL.len (t:=51) hrw
 rw [htl] at hlw
 unfold f52_11
 refine aa.ite rfl nofun fun _=>?_
 refine aa.tv hgw (aa.tv hlw (aa.tv (dec (by omega) (by omega)) (aa.nat (aM (by omega)) (aa.chk ?_ (f52_9_J h)))))
 show (Bool.and (slSize g 5) (Nat.ble (n + 1 - 1) (n + 1)))=true
 rw [hg.slSize,Nat.ble_eq_true_of_le (by omega)]
 rfl
theorem Df {m:DMod} {s:DMach} {w:Int} {y g i v:TV} (hyr:RL (some false) 3 (RFunc (some false)) y m.funcs) (hM:bP m) (hg:RStack g s.stack) (hi:RWords (some true) i s.inputs) (hv:RInts (some true) v s.events) (ho:s.ok) (hw:inW w) (hQ:cH m s)
  (hc:∃ j,ce m (s.stack.take (s.stack.length - 1)) w false j):∀ n,n + 1<=s.stack.length->(∃ j,j < n/\ce m (s.stack.take (s.stack.length - 1)) w true j)->(∀ j,n<=j->j < s.stack.length - 1->¬ ce m (s.stack.take (s.stack.length - 1)) w true j) ->
  ∃ r,aa prog 52 (f52_9 (W w) 0 n (W (s.c 0)) (W (s.c 1)) (W (s.c 2)) (W (s.c 3)) (W (s.c 4)) (W (s.c 5)) (W (s.c 6)) (W (s.c 7)) (W (s.c 8)) (W (s.c 9)) (W (s.c 10)) (W (s.c 11)) (W (s.c 12)) (W (s.c 13)) (W (s.c 14)) (W (s.c 15)) (I s.done) (W s.value) y g TV.hole TV.hole TV.hole TV.hole TV.hole TV.hole TV.hole TV.hole TV.hole TV.hole TV.hole TV.hole TV.hole TV.hole TV.hole TV.hole i v TV.hole TV.hole y) r/\bi (be m s w) y r:=by
 intro n
 induction n with
 | zero =>
  rintro _ ⟨j,hj,_⟩
  omega
 | succ n ih =>
  intro hn hex hnot
  have h32:=hQ.2.1
  obtain ⟨f,u,b,hk,hF,hf0,hu,hb0,hb,ha0,ha1,hk4⟩:=Dp hQ (k:=n) (by omega)
  have hk':s.stack[n]? = some f:=by simpa using hk
  have hrl:=iD hM hF
  obtain ⟨gr,he,hget,hgr,hof⟩:=hg.row hk
  have hfit:=cf (a:=f.f) (b:=f.block) (c:=f.at_) (d:=f.fly) hgr.isSl
  obtain ⟨eu,heu,hru⟩:=hyr.bW (k:=.i64) hf0 hu
  obtain ⟨bs,rfl,hbs,_⟩:=hru
  obtain ⟨eb,heb,hrb⟩:=hbs.bW (k:=.i64) hb0 hb
  obtain ⟨c,is,ga,rfl,hc0,hdi0,his,hga,hfo⟩:=hrb
  have hblk:=f7 (c:=I f.at_) (z:=TV.lf (Go.Ab.frz gr)) (d:=W f.fly) heu rfl rfl heb
  obtain ⟨gw,hgw,hrw⟩:=hg.win (n:=n + 1) (by omega)
  have htl:(s.stack.take (n + 1)).length=n + 1:=by simp; omega
  have hlw:=RL.len (t:=51) hrw
  rw [htl] at hlw
  have hcs:=km hg.slSize (show n + 1 - 1 < n + 1 by omega)
  have next:¬ fa m f w true->∃ r,aa prog 52 (f52_9 (W w) 0 n (W (s.c 0)) (W (s.c 1)) (W (s.c 2)) (W (s.c 3)) (W (s.c 4)) (W (s.c 5)) (W (s.c 6)) (W (s.c 7)) (W (s.c 8)) (W (s.c 9)) (W (s.c 10)) (W (s.c 11)) (W (s.c 12)) (W (s.c 13)) (W (s.c 14)) (W (s.c 15)) (I s.done) (W s.value) y g TV.hole TV.hole TV.hole TV.hole TV.hole TV.hole TV.hole TV.hole TV.hole TV.hole TV.hole TV.hole TV.hole TV.hole TV.hole TV.hole i v TV.hole TV.hole y) r/\bi (be m s w) y r:=by
   intro hnc
   have hnc':¬ ce m (s.stack.take (s.stack.length - 1)) w true n:=fun h=>hnc ((cp hk' (by omega)).1 h)
   refine ih (by omega) ?_ ?_
   ·obtain ⟨j,hj,h⟩:=hex
    have:j≠n:=fun e=>hnc' (e ▸ h)
    exact ⟨j,by omega,h⟩
   ·intro j hj hj2
    by_cases e:j=n
    ·exact e ▸ hnc'
    ·exact hnot j (by omega) hj2
  by_cases hat:f.at_=(b.ins.length:Int)
  rotate_left
  ·obtain ⟨r,hr,hout⟩:=next (oB hu hb hat)
   refine ⟨r,?_,hout⟩
   unfold f52_9
   refine aa.tv hgw (aa.tv hlw (aa.tv (dec (by omega) (by omega)) (aa.nat (aM (by omega)) (aa.chk hcs (aa.tvs he (aa.chk hfit (aa.tv hget (aa.call hblk (aa.chk rfl (aa.tv (RL.len his) (aa.tv rfl (aa.ite rfl (fun _=>?_) fun h=>?_))))))))))))
   rotate_left
   ·simp [nth] at h; omega
   exact aa.ite rfl nofun fun _=>f52_11_J (xc hg h32 (by omega) hr)
  obtain ⟨hp0,p,hp,hpl⟩:=oE hM hu hb (hk4 hat)
  have hce:∀ {cl},fa m f w cl ↔ ((p.pad.all=true\/w ∈ p.pad.catches)\/cl=true/\p.pad.cleanup=true):=mo hu hb hat (hk4 hat) hp
  obtain ⟨ep,hep,hrp⟩:=hbs.bW (k:=.i64) hp0 hp
  obtain ⟨c2,is2,ga2,rfl,hc2,hdi2,_⟩:=hrp
  have hcat:=nP (w:=w) (q:=some false) (e:=[I p.pad.dst,c2,B p.pad.all,B p.pad.cleanup]) (p:=p.pad) ⟨_,rfl,hc2,hdi2⟩
  have hD:within p.pad.dst f.regs.length:=by
   have:=((iM hM hu hp).2.1.2 hpl).1
   obtain ⟨_,u',hu',hLr,_⟩:=hF
   rw [hu] at hu'
   cases hu'
   rw [hLr]
   exact this
  have land:fa m f w true->∃ r,aa prog 52 (f52_11 (W w) (0 + n) (B true) 0 (n + 1) (W (s.c 0)) (W (s.c 1)) (W (s.c 2)) (W (s.c 3)) (W (s.c 4)) (W (s.c 5)) (W (s.c 6)) (W (s.c 7)) (W (s.c 8)) (W (s.c 9)) (W (s.c 10)) (W (s.c 11)) (W (s.c 12)) (W (s.c 13)) (W (s.c 14)) (W (s.c 15)) (I s.done) (W s.value) y g TV.hole TV.hole TV.hole TV.hole TV.hole TV.hole TV.hole TV.hole TV.hole TV.hole TV.hole TV.hole TV.hole TV.hole TV.hole TV.hole i v TV.hole TV.hole y (I p.pad.dst) c2 (B p.pad.all) (B p.pad.cleanup)) r/\bi (be m s w) y r:=by
   intro hyes
   obtain ⟨r,hr,hout⟩:=Ek (pc:=c2) (n:=n + 1) (m:=m) hyr hM hg hi hv ho hw hk hrl hf0 hu hb0 hb hp0 hp hpl hD hdi2 (by omega)
   refine ⟨r,hr,?_⟩
   rw [uz hc hk' (by omega) hyes fun j h1 h2=>hnot j (by omega) h2]
   have e:0 + n + 1=n + 1:=by omega
   rw [e] at hout
   exact hout
  by_cases hcl:p.pad.cleanup=true
  ·obtain ⟨r,hr,hout⟩:=land (hce.2 (.inr ⟨rfl,hcl⟩))
   refine ⟨r,?_,hout⟩
   unfold f52_9
   refine aa.tv hgw (aa.tv hlw (aa.tv (dec (by omega) (by omega)) (aa.nat (aM (by omega)) (aa.chk hcs (aa.tvs he (aa.chk hfit (aa.tv hget (aa.call hblk (aa.chk rfl (aa.tv (RL.len his) (aa.tv rfl (aa.ite rfl (fun h=>?_) fun _=>?_))))))))))))
   ·simp [nth] at h; omega
   refine aa.tvs heu (aa.chk rfl (aa.tvs hep (aa.chk rfl (aa.ite rfl (fun _=>?_) nofun))))
   refine aa.ite rfl (fun _=>f52_11_J hr) fun h=>?_
   rw [hcl] at h
   cases h
  ·by_cases hyes:p.pad.all=true\/w ∈ p.pad.catches
   ·obtain ⟨r,hr,hout⟩:=land (hce.2 (.inl hyes))
    rw [gB hyes] at hcat
    refine ⟨r,?_,hout⟩
    unfold f52_9
    refine aa.tv hgw (aa.tv hlw (aa.tv (dec (by omega) (by omega)) (aa.nat (aM (by omega)) (aa.chk hcs (aa.tvs he (aa.chk hfit (aa.tv hget (aa.call hblk (aa.chk rfl (aa.tv (RL.len his) (aa.tv rfl (aa.ite rfl (fun h=>?_) fun _=>?_))))))))))))
    ·simp [nth] at h; omega
    refine aa.tvs heu (aa.chk rfl (aa.tvs hep (aa.chk rfl (aa.ite rfl (fun _=>?_) nofun))))
    refine aa.ite rfl (fun h=>absurd h hcl) fun _=>?_
    exact aa.call hcat (aa.chk rfl (f52_11_J hr))
   ·rw [eJ hyes] at hcat
    obtain ⟨r,hr,hout⟩:=next (fun h=>by
     rcases hce.1 h with h | ⟨_,h⟩
     ·exact hyes h
     ·exact hcl h)
    refine ⟨r,?_,hout⟩
    unfold f52_9
    refine aa.tv hgw (aa.tv hlw (aa.tv (dec (by omega) (by omega)) (aa.nat (aM (by omega)) (aa.chk hcs (aa.tvs he (aa.chk hfit (aa.tv hget (aa.call hblk (aa.chk rfl (aa.tv (RL.len his) (aa.tv rfl (aa.ite rfl (fun h=>?_) fun _=>?_))))))))))))
    ·simp [nth] at h; omega
    refine aa.tvs heu (aa.chk rfl (aa.tvs hep (aa.chk rfl (aa.ite rfl (fun _=>?_) nofun))))
    refine aa.ite rfl (fun h=>absurd h hcl) fun _=>?_
    exact aa.call hcat (aa.chk rfl (f52_11_J (xc hg h32 (by omega) hr)))
theorem Cp {m:DMod} {s:DMach} {w:Int} {y g i v:TV} (hyr:RL (some false) 3 (RFunc (some false)) y m.funcs) (hM:bP m) (hg:RStack g s.stack) (hi:RWords (some true) i s.inputs) (hv:RInts (some true) v s.events) (ho:s.ok) (hw:inW w) (hQ:cH m s) (h0:0 < s.stack.length) :
  ∀ d k,k + d=s.stack.length - 1->(∀ j,j < k->¬ ce m (s.stack.take (s.stack.length - 1)) w false j) ->
  ∃ r,aa prog 52 (f52_5 (W w) 0 (s.stack.length - 1) (I ((s.stack.length - 1:Nat):Int)) (I (k:Int)) 0 (s.stack.length - 1) (W (s.c 0)) (W (s.c 1)) (W (s.c 2)) (W (s.c 3)) (W (s.c 4)) (W (s.c 5)) (W (s.c 6)) (W (s.c 7)) (W (s.c 8)) (W (s.c 9)) (W (s.c 10)) (W (s.c 11)) (W (s.c 12)) (W (s.c 13)) (W (s.c 14)) (W (s.c 15)) (I s.done) (W s.value) y g TV.hole TV.hole TV.hole TV.hole TV.hole TV.hole TV.hole TV.hole TV.hole TV.hole TV.hole TV.hole TV.hole TV.hole TV.hole TV.hole i v TV.hole TV.hole y (W w)) r/\bi (be m s w) y r:=by
 have h32:=hQ.2.1
 intro d
 induction d with
 | zero =>
  intro k hk hn
  have hk:k=s.stack.length - 1:=by omega
  subst hk
  obtain ⟨gw,hgw,hrw⟩:=hg.win (n:=s.stack.length - 1) (by omega)
  rw [tX fun j hj=>by
   by_cases hlt:j < s.stack.length - 1
   ·exact hn j hlt hj
   ·obtain ⟨f,hf,_⟩:=hj
    have:=(EJ.1 hf).1
    simp at this
    omega]
  refine ⟨_,?_,⟨gw,i,v,rfl,hrw,hi,hv,ho.1,ho.2.1,iy (by show 0<=(_:Int)/\(_:Int)<=6; simp [bO]),hw⟩⟩
  unfold f52_5
  exact aa.tv rfl (aa.ite bL nofun fun _=>aa.chk rfl (aa.tv hgw aa.ret))
 | succ d ih =>
  intro k hk hn
  have hlt:k < s.stack.length - 1:=by omega
  obtain ⟨f,u,b,hkf,hF,hf0,hu,hb0,hb,ha0,ha1,hk4⟩:=Dp hQ (k:=k) (by omega)
  have hkf':s.stack[k]? = some f:=by simpa using hkf
  have hrl:=iD hM hF
  obtain ⟨gr,he,hget,hgr,hof⟩:=hg.row hkf
  have hfit:=cf (a:=f.f) (b:=f.block) (c:=f.at_) (d:=f.fly) hgr.isSl
  obtain ⟨eu,heu,hru⟩:=hyr.bW (k:=.i64) hf0 hu
  obtain ⟨bs,rfl,hbs,_⟩:=hru
  obtain ⟨eb,heb,hrb⟩:=hbs.bW (k:=.i64) hb0 hb
  obtain ⟨c,is,ga,rfl,hc0,hdi0,his,hga,hfo⟩:=hrb
  have hblk:=f7 (c:=I f.at_) (z:=TV.lf (Go.Ab.frz gr)) (d:=W f.fly) heu rfl rfl heb
  have hcs:=km hg.slSize hlt
  have next:¬ fa m f w false->∃ r,aa prog 52 (f52_5 (W w) 0 (s.stack.length - 1) (I ((s.stack.length - 1:Nat):Int)) (I ((k + 1:Nat):Int)) 0 (s.stack.length - 1) (W (s.c 0)) (W (s.c 1)) (W (s.c 2)) (W (s.c 3)) (W (s.c 4)) (W (s.c 5)) (W (s.c 6)) (W (s.c 7)) (W (s.c 8)) (W (s.c 9)) (W (s.c 10)) (W (s.c 11)) (W (s.c 12)) (W (s.c 13)) (W (s.c 14)) (W (s.c 15)) (I s.done) (W s.value) y g TV.hole TV.hole TV.hole TV.hole TV.hole TV.hole TV.hole TV.hole TV.hole TV.hole TV.hole TV.hole TV.hole TV.hole TV.hole TV.hole i v TV.hole TV.hole y (W w)) r/\bi (be m s w) y r:=by
   intro hnc
   refine ih (k + 1) (by omega) fun j hj=>?_
   by_cases e:j=k
   ·subst e
    exact fun h=>hnc ((cp hkf' hlt).1 h)
   ·exact hn j (by omega)
  have hinc:pbin (.int .i64) .add (I (k:Int)) (I (1:Int))=some (I ((k + 1:Nat):Int)):=inc hlt (by omega)
  by_cases hat:f.at_=(b.ins.length:Int)
  rotate_left
  ·obtain ⟨r,hr,hout⟩:=next (oB hu hb hat)
   refine ⟨r,?_,hout⟩
   unfold f52_5
   refine aa.tv rfl (aa.ite (bv hlt) (fun _=>?_) nofun)
   refine aa.nat (aM (by omega)) (aa.chk hcs (aa.tvs he (aa.chk hfit (aa.tv hget (aa.call hblk (aa.chk rfl (aa.tv (RL.len his) (aa.tv rfl (aa.ite rfl (fun _=>?_) fun h=>?_)))))))))
   rotate_left
   ·simp [nth] at h; omega
   exact aa.ite rfl nofun fun _=>aa.tv hinc (f52_5_J hr)
  obtain ⟨hp0,p,hp,hpl⟩:=oE hM hu hb (hk4 hat)
  have hce:∀ {cl},fa m f w cl ↔ ((p.pad.all=true\/w ∈ p.pad.catches)\/cl=true/\p.pad.cleanup=true):=mo hu hb hat (hk4 hat) hp
  obtain ⟨ep,hep,hrp⟩:=hbs.bW (k:=.i64) hp0 hp
  obtain ⟨c2,is2,ga2,rfl,hc2,hdi2,_⟩:=hrp
  have hcat:=nP (w:=w) (q:=some false) (e:=[I p.pad.dst,c2,B p.pad.all,B p.pad.cleanup]) (p:=p.pad) ⟨_,rfl,hc2,hdi2⟩
  by_cases hyes:p.pad.all=true\/w ∈ p.pad.catches
  ·rw [gB hyes] at hcat
   have hca:ce m (s.stack.take (s.stack.length - 1)) w false k:=(cp hkf' hlt).2 (hce.2 (.inl hyes))
   have hca':ce m (s.stack.take (s.stack.length - 1)) w true k:=(cp hkf' hlt).2 (hce.2 (.inl hyes))
   obtain ⟨r,hr,hout⟩:=Df hyr hM hg hi hv ho hw hQ ⟨k,hca⟩ (s.stack.length - 1) (by omega) ⟨k,hlt,hca'⟩ (fun j h1 h2=>by omega)
   refine ⟨r,?_,hout⟩
   unfold f52_5
   refine aa.tv rfl (aa.ite (bv hlt) (fun _=>?_) nofun)
   refine aa.nat (aM (by omega)) (aa.chk hcs (aa.tvs he (aa.chk hfit (aa.tv hget (aa.call hblk (aa.chk rfl (aa.tv (RL.len his) (aa.tv rfl (aa.ite rfl (fun h=>?_) fun _=>?_)))))))))
   ·simp [nth] at h; omega
   refine aa.tvs heu (aa.chk rfl (aa.tvs hep (aa.chk rfl (aa.ite rfl (fun _=>?_) nofun))))
   exact aa.call hcat (aa.chk rfl (aa.ite rfl (fun _=>f52_9_J hr) nofun))
  ·rw [eJ hyes] at hcat
   obtain ⟨r,hr,hout⟩:=next (fun h=>by
    rcases hce.1 h with h | ⟨h,_⟩
    ·exact hyes h
    ·cases h)
   refine ⟨r,?_,hout⟩
   unfold f52_5
   refine aa.tv rfl (aa.ite (bv hlt) (fun _=>?_) nofun)
   refine aa.nat (aM (by omega)) (aa.chk hcs (aa.tvs he (aa.chk hfit (aa.tv hget (aa.call hblk (aa.chk rfl (aa.tv (RL.len his) (aa.tv rfl (aa.ite rfl (fun h=>?_) fun _=>?_)))))))))
   ·simp [nth] at h; omega
   refine aa.tvs heu (aa.chk rfl (aa.tvs hep (aa.chk rfl (aa.ite rfl (fun _=>?_) nofun))))
   exact aa.call hcat (aa.chk rfl (aa.ite rfl nofun fun _=>aa.tv hinc (f52_5_J hr)))
end Go.Ab.Q12
end

import Derived.Test.YtfnpejmlcbkepaaSQ12F52
set_option linter.all false
section
set_option maxRecDepth 10000
namespace Go.Ab
def bi (s:DMach) (y:TV) (r:TV):Prop:=∃ g i v,r=.tup [.tup [],.tup (aH s g i v ++ [y])]/\RStack g s.stack/\RWords (some true) i s.inputs/\RInts (some true) v s.events/\s.ok
theorem iy {n:Int} (h:0<=n/\n<=6):inI n:=⟨by omega,by omega⟩
theorem zU {a:Int} (h:inW a):ak (W a)=some a.toNat:=by
 have:=h.1
 have:=h.2
 simp [ak,h.1]; omega
theorem cf {a b c d:Int} {y:TV} (h:y.isSl=true):ab dZ [I a,I b,I c,y,W d] 0=true:=by
 simp [ab,dZ,aO,h,TV.isSc,scV]
theorem fH {a b c d:Int} {y:TV} (h:y.isSl=true):ab [.slice none 0 0] [I a,I b,I c,y,W d] 3=true:=by
 simp [ab,aO,h,TV.isSc,scV]
theorem cF {x:TV} {k n:Nat} (h:slSize x 1=true) (hn:k < n):(Bool.and (slSize x 1) (Nat.blt k n))=true:=by rw [h,ol hn]; rfl
end Go.Ab
namespace Go.Ab.Q12
open Go Go.Ab Go.Proofs
theorem f7 {y bs c d z:TV} {eu:List TV} {a b:Int} {e0 e1 e2 e3 e4 e5 e6 e7 e8 e9 e10 e11 e12 e13:TV} (heu:pidx 3 y (I a)=some eu) (h2:Nat.blt 2 eu.length=true) (hbs:nth TV.hole eu 2=bs) (heb:pidx 14 bs (I b)=some [e0,e1,e2,e3,e4,e5,e6,e7,e8,e9,e10,e11,e12,e13]) :
  ao prog 71 [y,.agg [I a,I b,c,z,d]] (.agg [e0,e1,e2,e3,e4,e5,e6,e7,e8,e9,e10,e11,e12,e13]):=by
 subst hbs
 refine ao.of (f71_MR _ _) ?_
 unfold f71_M
 exact aa.chk rfl (aa.chk rfl (aa.tvs heu (aa.chk h2 (aa.tvs heb (aa.chk rfl aa.ret)))))
theorem pLoad {m:DMod} {s:DMach} {f:DFrame} {u:DFunc} {b:DBlock} {x:DIns} {y g i v:TV} (hm:RMod (some false) [y] m) (hM:bP m) (hg:RStack g s.stack) (hi:RWords (some true) i s.inputs) (hv:RInts (some true) v s.events) (ho:s.ok)
  (ht:i5 s=some f) (hf0:0<=f.f) (hu:m.funcs[f.f.toNat]? = some u) (hb0:0<=f.block) (hb:u.blocks[f.block.toNat]? = some b) (ha0:0<=f.at_) (hx:b.ins[f.at_.toNat]? = some x) (hI:oc m.funcs f.regs.length x) (h9:x.op=9) :
  ∃ r,aa prog 52 (f52_0 (s.stack.length - 1) (W (s.c 0)) (W (s.c 1)) (W (s.c 2)) (W (s.c 3)) (W (s.c 4)) (W (s.c 5)) (W (s.c 6)) (W (s.c 7)) (W (s.c 8)) (W (s.c 9)) (W (s.c 10)) (W (s.c 11)) (W (s.c 12)) (W (s.c 13)) (W (s.c 14)) (W (s.c 15)) (I s.done) (W s.value) y g TV.hole TV.hole TV.hole TV.hole TV.hole TV.hole TV.hole TV.hole TV.hole TV.hole TV.hole TV.hole TV.hole TV.hole TV.hole TV.hole i v TV.hole TV.hole y) r/\bi (eF m s f x) y r:=by
 have h0:0 < s.stack.length:=by
  have:=(EJ.1 ht).1
  omega
 have hlt:=(EJ.1 hx).1
 have hyr:RL (some false) 3 (RFunc (some false)) y m.funcs:=by
  obtain ⟨y',h,h'⟩:=hm
  cases h
  exact h'
 obtain ⟨gr,he,hget,hgr,hof⟩:=hg.row ht
 have hfit:=cf (a:=f.f) (b:=f.block) (c:=f.at_) (d:=f.fly) hgr.isSl
 have hfs:=fH (a:=f.f) (b:=f.block) (c:=f.at_) (d:=f.fly) hgr.isSl
 obtain ⟨eu,heu,hru⟩:=hyr.bW (k:=.i64) hf0 hu
 obtain ⟨bs,rfl,hbs,_⟩:=hru
 obtain ⟨eb,heb,hrb⟩:=hbs.bW (k:=.i64) hb0 hb
 obtain ⟨c,is,ga,rfl,hc,hdi,his,hga,hfo⟩:=hrb
 obtain ⟨ex,hex,hrx⟩:=his.bW (k:=.i64) ha0 hx
 obtain ⟨z,rfl,hz,hxo⟩:=hrx
 obtain ⟨_,hpd,hpa,_⟩:=hI
 rw [h9] at hpd hpa
 have hA:within x.a f.regs.length:=hpa.1 rfl
 have hD:within x.dst f.regs.length:=hpd.1 rfl
 obtain ⟨a,ha,hal⟩:=bu hA
 obtain ⟨pe,hpe,rfl,haw⟩:=hgr.pel ha
 obtain ⟨d,hd,hdl⟩:=bu hD
 obtain ⟨pd,hpde,rfl,_⟩:=hgr.pel hd
 have hra:reg f x.a=a:=iC ha
 have hla:=cF hgr.slSize hal
 have hld:=cF hgr.slSize hdl
 by_cases h16:16<=a
 ·have hT:eF m s f x=bO s 4 0:=by
   unfold eF
   rw [if_neg (by omega),if_neg (by omega),if_pos h9,hra,if_pos h16]
  rw [hT]
  refine ⟨_,?_,⟨g,i,v,rfl,hg,hi,hv,ho.1,ho.2.1,iy (by show 0<=(_:Int)/\(_:Int)<=6; simp [bO]),nY⟩⟩
  unfold f52_0
  have hblk:=f7 (c:=I f.at_) (z:=TV.lf (Go.Ab.frz gr)) (d:=W f.fly) heu rfl rfl heb
  refine aa.tvs he (aa.chk hfit (aa.tv hget (aa.call hblk (aa.chk rfl (aa.tvs he (aa.chk rfl (aa.tv (RL.len his) (aa.tv rfl (aa.ite rfl (fun _=>?_) fun h=>?_)))))))))
  rotate_left
  ·simp [nth] at h; omega
  refine aa.tvs he (aa.chk rfl (aa.tvs hex (aa.chk rfl ?_)))
  refine aa.tv rfl (aa.ite rfl (fun _=>?_) fun h=>?_)
  rotate_left
  ·simp [nth] at h; omega
  refine aa.tvs he (aa.chk hfs (aa.tv hget (aa.nat hgr.slLen (aa.nat (aV hA.1 hxo.2.2.1) (aa.chk hla (aa.tv hget (aa.tvs hpe (aa.chk rfl (aa.tv rfl (aa.ite rfl (fun _=>?_) fun h=>?_))))))))))
  ·exact aa.ret
  ·simp [nth] at h; omega
 have hln:a.toNat < 16:=by have:=haw.1; omega
 have hT:eF m s f x=cG s (upF (mS f x.dst (s.c a.toNat))):=by
  unfold eF
  rw [if_neg (by omega),if_neg (by omega),if_pos h9,hra,if_neg h16]
 rw [hT]
 obtain ⟨g1,hs1,hg1⟩:=hg.put ht (w:=s.c a.toNat) hdl (ho.2.1 _)
 have ht1:=lq (b:={ f with regs:=f.regs.set x.dst.toNat (s.c a.toNat) }) ht
 obtain ⟨gr1,he1,_,_,hof1⟩:=hg1.row ht1
 obtain ⟨g2,hs2,hg2⟩:=hg1.j3 ht1 (n:=IntKind.i64.wrap (f.at_ + 1)) (wrap_i64 _)
 rw [dq,kJ h0] at hg2
 refine ⟨_,?_,⟨g2,i,v,rfl,hg2,hi,hv,ho⟩⟩
 unfold f52_0
 have hblk:=f7 (c:=I f.at_) (z:=TV.lf (Go.Ab.frz gr)) (d:=W f.fly) heu rfl rfl heb
 refine aa.tvs he (aa.chk hfit (aa.tv hget (aa.call hblk (aa.chk rfl (aa.tvs he (aa.chk rfl (aa.tv (RL.len his) (aa.tv rfl (aa.ite rfl (fun _=>?_) fun h=>?_)))))))))
 rotate_left
 ·simp [nth] at h; omega
 refine aa.tvs he (aa.chk rfl (aa.tvs hex (aa.chk rfl ?_)))
 refine aa.tv rfl (aa.ite rfl (fun _=>?_) fun h=>?_)
 rotate_left
 ·simp [nth] at h; omega
 refine aa.tvs he (aa.chk hfs (aa.tv hget (aa.nat hgr.slLen (aa.nat (aV hA.1 hxo.2.2.1) (aa.chk hla (aa.tv hget (aa.tvs hpe (aa.chk rfl (aa.tv rfl (aa.ite rfl (fun h=>?_) fun _=>?_))))))))))
 ·simp [nth] at h; omega
 refine aa.nat (zU haw) (aa.chk (ol hln) (aa.tvs he (aa.chk hfs (aa.tv (nth16 (fun k=>W (s.c k)) hln) (aa.tv hget (aa.nat hgr.slLen (aa.nat (aV hD.1 hxo.2.1) (aa.chk hld ?_))))))))
 exact aa.tv hget (aa.tvs hpde (aa.chk rfl (aa.tv hs1 (aa.tvs he1 (aa.chk rfl (aa.tv rfl (aa.tvs he1 (aa.chk rfl (aa.tv hs2 aa.ret)))))))))
theorem pStore {m:DMod} {s:DMach} {f:DFrame} {u:DFunc} {b:DBlock} {x:DIns} {y g i v:TV} (hm:RMod (some false) [y] m) (hM:bP m) (hg:RStack g s.stack) (hi:RWords (some true) i s.inputs) (hv:RInts (some true) v s.events) (ho:s.ok)
  (ht:i5 s=some f) (hf0:0<=f.f) (hu:m.funcs[f.f.toNat]? = some u) (hb0:0<=f.block) (hb:u.blocks[f.block.toNat]? = some b) (ha0:0<=f.at_) (hx:b.ins[f.at_.toNat]? = some x) (hI:oc m.funcs f.regs.length x) (h10:x.op=10) :
  ∃ r,aa prog 52 (f52_0 (s.stack.length - 1) (W (s.c 0)) (W (s.c 1)) (W (s.c 2)) (W (s.c 3)) (W (s.c 4)) (W (s.c 5)) (W (s.c 6)) (W (s.c 7)) (W (s.c 8)) (W (s.c 9)) (W (s.c 10)) (W (s.c 11)) (W (s.c 12)) (W (s.c 13)) (W (s.c 14)) (W (s.c 15)) (I s.done) (W s.value) y g TV.hole TV.hole TV.hole TV.hole TV.hole TV.hole TV.hole TV.hole TV.hole TV.hole TV.hole TV.hole TV.hole TV.hole TV.hole TV.hole i v TV.hole TV.hole y) r/\bi (eF m s f x) y r:=by
 have h0:0 < s.stack.length:=by
  have:=(EJ.1 ht).1
  omega
 have hlt:=(EJ.1 hx).1
 have hyr:RL (some false) 3 (RFunc (some false)) y m.funcs:=by
  obtain ⟨y',h,h'⟩:=hm
  cases h
  exact h'
 obtain ⟨gr,he,hget,hgr,hof⟩:=hg.row ht
 have hfit:=cf (a:=f.f) (b:=f.block) (c:=f.at_) (d:=f.fly) hgr.isSl
 have hfs:=fH (a:=f.f) (b:=f.block) (c:=f.at_) (d:=f.fly) hgr.isSl
 obtain ⟨eu,heu,hru⟩:=hyr.bW (k:=.i64) hf0 hu
 obtain ⟨bs,rfl,hbs,_⟩:=hru
 obtain ⟨eb,heb,hrb⟩:=hbs.bW (k:=.i64) hb0 hb
 obtain ⟨c,is,ga,rfl,hc,hdi,his,hga,hfo⟩:=hrb
 obtain ⟨ex,hex,hrx⟩:=his.bW (k:=.i64) ha0 hx
 obtain ⟨z,rfl,hz,hxo⟩:=hrx
 obtain ⟨_,_,hpa,hpb,_⟩:=hI
 rw [h10] at hpa hpb
 have hA:within x.a f.regs.length:=hpa.1 rfl
 obtain ⟨a,ha,hal⟩:=bu hA
 obtain ⟨pe,hpe,rfl,haw⟩:=hgr.pel ha
 have hra:reg f x.a=a:=iC ha
 have hla:=cF hgr.slSize hal
 have hB:within x.b f.regs.length:=hpb.1 rfl
 obtain ⟨d,hd,hdl⟩:=bu hB
 obtain ⟨pd,hpde,rfl,hdw⟩:=hgr.pel hd
 have hrb:reg f x.b=d:=iC hd
 have hld:=cF hgr.slSize hdl
 by_cases h16:16<=a
 ·have hT:eF m s f x=bO s 4 0:=by
   unfold eF
   rw [if_neg (by omega),if_neg (by omega),if_neg (by omega),if_pos h10,hra,if_pos h16]
  rw [hT]
  refine ⟨_,?_,⟨g,i,v,rfl,hg,hi,hv,ho.1,ho.2.1,iy (by show 0<=(_:Int)/\(_:Int)<=6; simp [bO]),nY⟩⟩
  unfold f52_0
  have hblk:=f7 (c:=I f.at_) (z:=TV.lf (Go.Ab.frz gr)) (d:=W f.fly) heu rfl rfl heb
  refine aa.tvs he (aa.chk hfit (aa.tv hget (aa.call hblk (aa.chk rfl (aa.tvs he (aa.chk rfl (aa.tv (RL.len his) (aa.tv rfl (aa.ite rfl (fun _=>?_) fun h=>?_)))))))))
  rotate_left
  ·simp [nth] at h; omega
  refine aa.tvs he (aa.chk rfl (aa.tvs hex (aa.chk rfl ?_)))
  refine aa.tv rfl (aa.ite rfl (fun h=>?_) fun _=>?_)
  ·simp [nth] at h; omega
  refine aa.tv rfl (aa.ite rfl (fun _=>?_) fun h=>?_)
  rotate_left
  ·simp [nth] at h; omega
  refine aa.tvs he (aa.chk hfs (aa.tv hget (aa.nat hgr.slLen (aa.nat (aV hA.1 hxo.2.2.1) (aa.chk hla (aa.tv hget (aa.tvs hpe (aa.chk rfl (aa.tv rfl (aa.ite rfl (fun _=>?_) fun h=>?_))))))))))
  ·exact aa.ret
  ·simp [nth] at h; omega
 have hln:a.toNat < 16:=by have:=haw.1; omega
 have hT:eF m s f x=cG (eQ s a.toNat d) (upF f):=by
  unfold eF
  rw [if_neg (by omega),if_neg (by omega),if_neg (by omega),if_pos h10,hra,hrb,if_neg h16]
 rw [hT]
 have ho':(eQ s a.toNat d).ok:=⟨by simp [eQ,ho.1],yP ho.2.1 hdw,ho.2.2⟩
 obtain ⟨g2,hs2,hg2⟩:=hg.j3 ht (n:=IntKind.i64.wrap (f.at_ + 1)) (wrap_i64 _)
 rw [kJ h0] at hg2
 refine ⟨_,?_,⟨g2,i,v,rfl,hg2,hi,hv,ho'⟩⟩
 have hc:∀ j,j < 16->iq a.toNat j (W d) (W (s.c j))=W ((eQ s a.toNat d).c j):=fun j hj=>Ai ho.1 hj
 show aa prog 52 _ (.tup [.tup [],.tup (aH (eQ s a.toNat d) g2 i v ++ [y])])
 unfold aH
 rw [<- hc 0 (by omega),<- hc 1 (by omega),<- hc 2 (by omega),<- hc 3 (by omega),<- hc 4 (by omega),<- hc 5 (by omega),<- hc 6 (by omega),<- hc 7 (by omega),<- hc 8 (by omega),<- hc 9 (by omega),<- hc 10 (by omega),<- hc 11 (by omega),<- hc 12 (by omega),<- hc 13 (by omega),<- hc 14 (by omega),<- hc 15 (by omega)]
 unfold f52_0
 have hblk:=f7 (c:=I f.at_) (z:=TV.lf (Go.Ab.frz gr)) (d:=W f.fly) heu rfl rfl heb
 refine aa.tvs he (aa.chk hfit (aa.tv hget (aa.call hblk (aa.chk rfl (aa.tvs he (aa.chk rfl (aa.tv (RL.len his) (aa.tv rfl (aa.ite rfl (fun _=>?_) fun h=>?_)))))))))
 rotate_left
 ·simp [nth] at h; omega
 refine aa.tvs he (aa.chk rfl (aa.tvs hex (aa.chk rfl ?_)))
 refine aa.tv rfl (aa.ite rfl (fun h=>?_) fun _=>?_)
 ·simp [nth] at h; omega
 refine aa.tv rfl (aa.ite rfl (fun _=>?_) fun h=>?_)
 rotate_left
 ·simp [nth] at h; omega
 refine aa.tvs he (aa.chk hfs (aa.tv hget (aa.nat hgr.slLen (aa.nat (aV hA.1 hxo.2.2.1) (aa.chk hla (aa.tv hget (aa.tvs hpe (aa.chk rfl (aa.tv rfl (aa.ite rfl (fun h=>?_) fun _=>?_))))))))))
 ·simp [nth] at h; omega
 refine aa.nat (zU haw) (aa.chk (ol hln) (aa.tvs he (aa.chk hfs (aa.tv hget (aa.nat hgr.slLen (aa.nat (aV hB.1 hxo.2.2.2.1) (aa.chk hld (aa.tv hget (aa.tvs hpde (aa.chk rfl ?_))))))))))
 exact aa.tvs he (aa.chk rfl (aa.tv rfl (aa.tvs he (aa.chk rfl (aa.tv hs2 aa.ret)))))
theorem pOut {m:DMod} {s:DMach} {f:DFrame} {u:DFunc} {b:DBlock} {x:DIns} {y g i v:TV} (hm:RMod (some false) [y] m) (hM:bP m) (hg:RStack g s.stack) (hi:RWords (some true) i s.inputs) (hv:RInts (some true) v s.events) (ho:s.ok)
  (ht:i5 s=some f) (hf0:0<=f.f) (hu:m.funcs[f.f.toNat]? = some u) (hb0:0<=f.block) (hb:u.blocks[f.block.toNat]? = some b) (ha0:0<=f.at_) (hx:b.ins[f.at_.toNat]? = some x) (hI:oc m.funcs f.regs.length x) (h12:x.op=12) (hel:s.events.length + 1<=4294967296) :
  ∃ r,aa prog 52 (f52_0 (s.stack.length - 1) (W (s.c 0)) (W (s.c 1)) (W (s.c 2)) (W (s.c 3)) (W (s.c 4)) (W (s.c 5)) (W (s.c 6)) (W (s.c 7)) (W (s.c 8)) (W (s.c 9)) (W (s.c 10)) (W (s.c 11)) (W (s.c 12)) (W (s.c 13)) (W (s.c 14)) (W (s.c 15)) (I s.done) (W s.value) y g TV.hole TV.hole TV.hole TV.hole TV.hole TV.hole TV.hole TV.hole TV.hole TV.hole TV.hole TV.hole TV.hole TV.hole TV.hole TV.hole i v TV.hole TV.hole y) r/\bi (eF m s f x) y r:=by
 have h0:0 < s.stack.length:=by
  have:=(EJ.1 ht).1
  omega
 have hlt:=(EJ.1 hx).1
 have hyr:RL (some false) 3 (RFunc (some false)) y m.funcs:=by
  obtain ⟨y',h,h'⟩:=hm
  cases h
  exact h'
 obtain ⟨gr,he,hget,hgr,hof⟩:=hg.row ht
 have hfit:=cf (a:=f.f) (b:=f.block) (c:=f.at_) (d:=f.fly) hgr.isSl
 have hfs:=fH (a:=f.f) (b:=f.block) (c:=f.at_) (d:=f.fly) hgr.isSl
 obtain ⟨eu,heu,hru⟩:=hyr.bW (k:=.i64) hf0 hu
 obtain ⟨bs,rfl,hbs,_⟩:=hru
 obtain ⟨eb,heb,hrb⟩:=hbs.bW (k:=.i64) hb0 hb
 obtain ⟨c,is,ga,rfl,hc,hdi,his,hga,hfo⟩:=hrb
 obtain ⟨ex,hex,hrx⟩:=his.bW (k:=.i64) ha0 hx
 obtain ⟨z,rfl,hz,hxo⟩:=hrx
 obtain ⟨_,_,hpa,_⟩:=hI
 rw [h12] at hpa
 have hA:within x.a f.regs.length:=hpa.1 rfl
 obtain ⟨a,ha,hal⟩:=bu hA
 obtain ⟨pe,hpe,rfl,haw⟩:=hgr.pel ha
 have hra:reg f x.a=a:=iC ha
 have hla:=cF hgr.slSize hal
 have hT:eF m s f x=cG { s with events:=s.events ++ [a] } (upF f):=by
  unfold eF
  rw [if_neg (by omega),if_neg (by omega),if_neg (by omega),if_neg (by omega),if_pos h12,hra]
 rw [hT]
 obtain ⟨v2,hv2,hrv2⟩:=hv.app1 (e:=[I a]) (a:=a) ⟨rfl,by have:=haw.1; have:=haw.2; constructor <;> omega⟩ hel
 obtain ⟨g2,hs2,hg2⟩:=hg.j3 ht (n:=IntKind.i64.wrap (f.at_ + 1)) (wrap_i64 _)
 rw [kJ h0] at hg2
 refine ⟨_,?_,⟨g2,i,v2,rfl,hg2,hi,hrv2,ho⟩⟩
 unfold f52_0
 have hblk:=f7 (c:=I f.at_) (z:=TV.lf (Go.Ab.frz gr)) (d:=W f.fly) heu rfl rfl heb
 refine aa.tvs he (aa.chk hfit (aa.tv hget (aa.call hblk (aa.chk rfl (aa.tvs he (aa.chk rfl (aa.tv (RL.len his) (aa.tv rfl (aa.ite rfl (fun _=>?_) fun h=>?_)))))))))
 rotate_left
 ·simp [nth] at h; omega
 refine aa.tvs he (aa.chk rfl (aa.tvs hex (aa.chk rfl ?_)))
 refine aa.tv rfl (aa.ite rfl (fun h=>?_) fun _=>?_)
 ·simp [nth] at h; omega
 refine aa.tv rfl (aa.ite rfl (fun h=>?_) fun _=>?_)
 ·simp [nth] at h; omega
 refine aa.tv rfl (aa.ite rfl (fun h=>?_) fun _=>?_)
 ·simp [nth] at h; omega
 refine aa.tv rfl (aa.ite rfl (fun _=>?_) fun h=>?_)
 rotate_left
 ·simp [nth] at h; omega
 refine aa.tvs he (aa.chk hfs (aa.tv hget (aa.nat hgr.slLen (aa.nat (aV hA.1 hxo.2.2.1) (aa.chk hla (aa.tv hget (aa.tvs hpe (aa.chk rfl (aa.tv (xF haw) (aa.rws rfl (aa.tv hv2 ?_)))))))))))
 exact aa.tvs he (aa.chk rfl (aa.tv rfl (aa.tvs he (aa.chk rfl (aa.tv hs2 aa.ret)))))
theorem DZ {m:DMod} {s:DMach} {f:DFrame} {u:DFunc} {b:DBlock} {x:DIns} {y g i v:TV} (hm:RMod (some false) [y] m) (hM:bP m) (hg:RStack g s.stack) (hi:RWords (some true) i s.inputs) (hv:RInts (some true) v s.events) (ho:s.ok)
  (ht:i5 s=some f) (hf0:0<=f.f) (hu:m.funcs[f.f.toNat]? = some u) (hb0:0<=f.block) (hb:u.blocks[f.block.toNat]? = some b) (ha0:0<=f.at_) (hx:b.ins[f.at_.toNat]? = some x) (hI:oc m.funcs f.regs.length x) (h8:x.op<=8) (hrl:f.regs.length<=256) :
  ∃ r,aa prog 52 (f52_0 (s.stack.length - 1) (W (s.c 0)) (W (s.c 1)) (W (s.c 2)) (W (s.c 3)) (W (s.c 4)) (W (s.c 5)) (W (s.c 6)) (W (s.c 7)) (W (s.c 8)) (W (s.c 9)) (W (s.c 10)) (W (s.c 11)) (W (s.c 12)) (W (s.c 13)) (W (s.c 14)) (W (s.c 15)) (I s.done) (W s.value) y g TV.hole TV.hole TV.hole TV.hole TV.hole TV.hole TV.hole TV.hole TV.hole TV.hole TV.hole TV.hole TV.hole TV.hole TV.hole TV.hole i v TV.hole TV.hole y) r/\bi (eF m s f x) y r:=by
 have h0:0 < s.stack.length:=by
  have:=(EJ.1 ht).1
  omega
 have hlt:=(EJ.1 hx).1
 have hyr:RL (some false) 3 (RFunc (some false)) y m.funcs:=by
  obtain ⟨y',h,h'⟩:=hm
  cases h
  exact h'
 obtain ⟨gr,he,hget,hgr,hof⟩:=hg.row ht
 have hfit:=cf (a:=f.f) (b:=f.block) (c:=f.at_) (d:=f.fly) hgr.isSl
 have hfs:=fH (a:=f.f) (b:=f.block) (c:=f.at_) (d:=f.fly) hgr.isSl
 obtain ⟨eu,heu,hru⟩:=hyr.bW (k:=.i64) hf0 hu
 obtain ⟨bs,rfl,hbs,_⟩:=hru
 obtain ⟨eb,heb,hrb⟩:=hbs.bW (k:=.i64) hb0 hb
 obtain ⟨c,is,ga,rfl,hc,hdi,his,hga,hfo⟩:=hrb
 obtain ⟨ex,hex,hrx⟩:=his.bW (k:=.i64) ha0 hx
 obtain ⟨z,rfl,hz,hxo⟩:=hrx
 have hT:eF m s f x=if (df f x).2=true then cG s (df f x).1 else bO s 3 0:=by
  unfold eF
  rw [if_neg (by omega),if_pos h8]
 rw [hT]
 have hrz:=hgr.frz (S:=RW1) fun _ _ h=>h.frz
 obtain ⟨e3,hr3,h3⟩:=Ej (e:=[I f.f,I f.block,I f.at_,Go.Ab.frz gr,W f.fly]) (e':=[I x.op,I x.dst,I x.a,I x.b,W x.k,I x.f,z]) (q:=some false) (q':=some false) (f:=f) (x:=x) ⟨_,rfl,hrz,hof⟩ ⟨z,rfl,hz,hxo⟩ (by omega)
 generalize hR:df f x=R at *
 obtain ⟨f3,ok⟩:=R
 simp only at hr3 h3 ⊢
 have h3':=h3
 obtain ⟨g3,rfl,hg3,hof3⟩:=h3
 have hz7:(TV.agg [I x.op,I x.dst,I x.a,I x.b,W x.k,I x.f,z]).isAgg 7=true:=rfl
 cases ok with
 | false =>
  refine ⟨_,?_,(by simp only [Bool.false_eq_true,if_false]; exact ⟨g,i,v,rfl,hg,hi,hv,ho.1,ho.2.1,iy (by show 0<=(_:Int)/\(_:Int)<=6; simp [bO]),nY⟩)⟩
  unfold f52_0
  have hblk:=f7 (c:=I f.at_) (z:=TV.lf (Go.Ab.frz gr)) (d:=W f.fly) heu rfl rfl heb
  refine aa.tvs he (aa.chk hfit (aa.tv hget (aa.call hblk (aa.chk rfl (aa.tvs he (aa.chk rfl (aa.tv (RL.len his) (aa.tv rfl (aa.ite rfl (fun _=>?_) fun h=>?_)))))))))
  rotate_left
  ·simp [nth] at h; omega
  refine aa.tvs he (aa.chk rfl (aa.tvs hex (aa.chk rfl ?_)))
  refine aa.tv rfl (aa.ite rfl (fun h=>?_) fun _=>?_)
  ·simp [nth] at h; omega
  refine aa.tv rfl (aa.ite rfl (fun h=>?_) fun _=>?_)
  ·simp [nth] at h; omega
  refine aa.tv rfl (aa.ite rfl (fun h=>?_) fun _=>?_)
  ·simp [nth] at h; omega
  refine aa.tv rfl (aa.ite rfl (fun h=>?_) fun _=>?_)
  ·simp [nth] at h; omega
  refine aa.tv rfl (aa.ite rfl (fun h=>?_) fun _=>?_)
  ·simp [nth] at h; omega
  refine aa.tvs he (aa.chk hfit (aa.tv hget (aa.call hr3 (aa.chk rfl (aa.chk (fq hg3.isSl) (aa.chk rfl (aa.tv rfl (aa.ite rfl (fun _=>?_) nofun))))))))
  exact aa.ret
 | true =>
  obtain ⟨g2,hs2,hg2⟩:=hg.all ht h3'
  rw [kJ h0] at hg2
  refine ⟨_,?_,(by simp only [if_true]; exact ⟨g2,i,v,rfl,hg2,hi,hv,ho⟩)⟩
  unfold f52_0
  have hblk:=f7 (c:=I f.at_) (z:=TV.lf (Go.Ab.frz gr)) (d:=W f.fly) heu rfl rfl heb
  refine aa.tvs he (aa.chk hfit (aa.tv hget (aa.call hblk (aa.chk rfl (aa.tvs he (aa.chk rfl (aa.tv (RL.len his) (aa.tv rfl (aa.ite rfl (fun _=>?_) fun h=>?_)))))))))
  rotate_left
  ·simp [nth] at h; omega
  refine aa.tvs he (aa.chk rfl (aa.tvs hex (aa.chk rfl ?_)))
  refine aa.tv rfl (aa.ite rfl (fun h=>?_) fun _=>?_)
  ·simp [nth] at h; omega
  refine aa.tv rfl (aa.ite rfl (fun h=>?_) fun _=>?_)
  ·simp [nth] at h; omega
  refine aa.tv rfl (aa.ite rfl (fun h=>?_) fun _=>?_)
  ·simp [nth] at h; omega
  refine aa.tv rfl (aa.ite rfl (fun h=>?_) fun _=>?_)
  ·simp [nth] at h; omega
  refine aa.tv rfl (aa.ite rfl (fun h=>?_) fun _=>?_)
  ·simp [nth] at h; omega
  refine aa.tvs he (aa.chk hfit (aa.tv hget (aa.call hr3 (aa.chk rfl (aa.chk (fq hg3.isSl) (aa.chk rfl (aa.tv rfl (aa.ite rfl nofun fun _=>?_))))))))
  refine aa.tvs he (aa.chk ?_ (aa.tv hs2 aa.ret))
  have h1:=cf (a:=f3.f) (b:=f3.block) (c:=f3.at_) (d:=f3.fly) hg3.isSl
  show (Bool.and (bK dZ _ 0) (ab dZ [I f3.f,I f3.block,I f3.at_,g3,W f3.fly] 0))=true
  rw [h1]
  exact (Bool.and_true _).trans (mq hfit)
end Go.Ab.Q12
end
section
set_option maxRecDepth 10000
namespace Go.Ab.Q12
open Go Go.Ab Go.Proofs
theorem pIn {m:DMod} {s:DMach} {f:DFrame} {u:DFunc} {b:DBlock} {x:DIns} {y g i v:TV} (hm:RMod (some false) [y] m) (hM:bP m) (hg:RStack g s.stack) (hi:RWords (some true) i s.inputs) (hv:RInts (some true) v s.events) (ho:s.ok)
  (ht:i5 s=some f) (hf0:0<=f.f) (hu:m.funcs[f.f.toNat]? = some u) (hb0:0<=f.block) (hb:u.blocks[f.block.toNat]? = some b) (ha0:0<=f.at_) (hx:b.ins[f.at_.toNat]? = some x) (hI:oc m.funcs f.regs.length x) (h13:x.op=13) (hel:s.events.length + 1<=4294967296) :
  ∃ r,aa prog 52 (f52_0 (s.stack.length - 1) (W (s.c 0)) (W (s.c 1)) (W (s.c 2)) (W (s.c 3)) (W (s.c 4)) (W (s.c 5)) (W (s.c 6)) (W (s.c 7)) (W (s.c 8)) (W (s.c 9)) (W (s.c 10)) (W (s.c 11)) (W (s.c 12)) (W (s.c 13)) (W (s.c 14)) (W (s.c 15)) (I s.done) (W s.value) y g TV.hole TV.hole TV.hole TV.hole TV.hole TV.hole TV.hole TV.hole TV.hole TV.hole TV.hole TV.hole TV.hole TV.hole TV.hole TV.hole i v TV.hole TV.hole y) r/\bi (eF m s f x) y r:=by
 have h0:0 < s.stack.length:=by
  have:=(EJ.1 ht).1
  omega
 have hlt:=(EJ.1 hx).1
 have hyr:RL (some false) 3 (RFunc (some false)) y m.funcs:=by
  obtain ⟨y',h,h'⟩:=hm
  cases h
  exact h'
 obtain ⟨gr,he,hget,hgr,hof⟩:=hg.row ht
 have hfit:=cf (a:=f.f) (b:=f.block) (c:=f.at_) (d:=f.fly) hgr.isSl
 have hfs:=fH (a:=f.f) (b:=f.block) (c:=f.at_) (d:=f.fly) hgr.isSl
 obtain ⟨eu,heu,hru⟩:=hyr.bW (k:=.i64) hf0 hu
 obtain ⟨bs,rfl,hbs,_⟩:=hru
 obtain ⟨eb,heb,hrb⟩:=hbs.bW (k:=.i64) hb0 hb
 obtain ⟨c,is,ga,rfl,hc,hdi,his,hga,hfo⟩:=hrb
 obtain ⟨ex,hex,hrx⟩:=his.bW (k:=.i64) ha0 hx
 obtain ⟨z,rfl,hz,hxo⟩:=hrx
 obtain ⟨_,hpd,_⟩:=hI
 rw [h13] at hpd
 have hD:within x.dst f.regs.length:=hpd.1 rfl
 obtain ⟨d,hd,hdl⟩:=bu hD
 obtain ⟨pd,hpde,rfl,_⟩:=hgr.pel hd
 have hld:=cF hgr.slSize hdl
 have hlen:=RL.len (t:=42) hi
 cases hin:s.inputs with
 | nil =>
  have hT:eF m s f x=bO s 6 0:=by
   unfold eF
   rw [if_neg (by omega),if_neg (by omega),if_neg (by omega),if_neg (by omega),if_neg (by omega),hin]
  rw [hT]
  rw [hin] at hlen
  refine ⟨_,?_,⟨g,i,v,rfl,hg,hi,hv,ho.1,ho.2.1,iy (by show 0<=(_:Int)/\(_:Int)<=6; simp [bO]),nY⟩⟩
  unfold f52_0
  have hblk:=f7 (c:=I f.at_) (z:=TV.lf (Go.Ab.frz gr)) (d:=W f.fly) heu rfl rfl heb
  refine aa.tvs he (aa.chk hfit (aa.tv hget (aa.call hblk (aa.chk rfl (aa.tvs he (aa.chk rfl (aa.tv (RL.len his) (aa.tv rfl (aa.ite rfl (fun _=>?_) fun h=>?_)))))))))
  rotate_left
  ·simp [nth] at h; omega
  refine aa.tvs he (aa.chk rfl (aa.tvs hex (aa.chk rfl ?_)))
  refine aa.tv rfl (aa.ite rfl (fun h=>?_) fun _=>?_)
  ·simp [nth] at h; omega
  refine aa.tv rfl (aa.ite rfl (fun h=>?_) fun _=>?_)
  ·simp [nth] at h; omega
  refine aa.tv rfl (aa.ite rfl (fun h=>?_) fun _=>?_)
  ·simp [nth] at h; omega
  refine aa.tv rfl (aa.ite rfl (fun h=>?_) fun _=>?_)
  ·simp [nth] at h; omega
  refine aa.tv rfl (aa.ite rfl (fun _=>?_) fun h=>?_)
  rotate_left
  ·simp [nth] at h; omega
  exact aa.tv hlen (aa.tv rfl (aa.ite rfl (fun _=>aa.ret) nofun))
 | cons a l =>
  have hT:eF m s f x=cG { s with events:=s.events ++ [a + 65536],inputs:=l } (upF (mS f x.dst a)):=by
   unfold eF
   rw [if_neg (by omega),if_neg (by omega),if_neg (by omega),if_neg (by omega),if_neg (by omega),hin]
  rw [hT]
  have hsl:=hi.slLen
  have hss:=hi.slSize
  have hbnd:=hi.bnd
  obtain ⟨pa,hpa,rfl,haw⟩:=hi.pel (i:=0) (a:=a) (by rw [hin]; rfl)
  obtain ⟨i2,hi2,hri2⟩:=RWords.win hi (lo:=1) (n:=s.inputs.length - 1) (by rw [hin]; simp; omega)
  have hri2:RWords (some true) i2 l:=by
   have:(s.inputs.drop 1).take (s.inputs.length - 1)=l:=by rw [hin]; simp
   rw [this] at hri2
   exact hri2
  rw [hin] at hlen
  obtain ⟨v2,hv2,hrv2⟩:=hv.app1 (e:=[I (a + 65536)]) (a:=a + 65536) ⟨rfl,by have:=haw.1; have:=haw.2; constructor <;> omega⟩ hel
  obtain ⟨g1,hs1,hg1⟩:=hg.put ht (w:=a) hdl haw
  have ht1:=lq (b:={ f with regs:=f.regs.set x.dst.toNat a }) ht
  obtain ⟨gr1,he1,_,_,hof1⟩:=hg1.row ht1
  obtain ⟨g2,hs2,hg2⟩:=hg1.j3 ht1 (n:=IntKind.i64.wrap (f.at_ + 1)) (wrap_i64 _)
  rw [dq,kJ h0] at hg2
  have hpos:0 < s.inputs.length:=by rw [hin]; simp
  have hadd:pbin (.int .i64) .add (I a) (I 65536)=some (I (a + 65536)):=padd (by have:=haw.1; have:=haw.2; constructor <;> omega)
  refine ⟨_,?_,⟨g2,i2,v2,rfl,hg2,hri2,hrv2,ho⟩⟩
  unfold f52_0
  have hblk:=f7 (c:=I f.at_) (z:=TV.lf (Go.Ab.frz gr)) (d:=W f.fly) heu rfl rfl heb
  refine aa.tvs he (aa.chk hfit (aa.tv hget (aa.call hblk (aa.chk rfl (aa.tvs he (aa.chk rfl (aa.tv (RL.len his) (aa.tv rfl (aa.ite rfl (fun _=>?_) fun h=>?_)))))))))
  rotate_left
  ·simp [nth] at h; omega
  refine aa.tvs he (aa.chk rfl (aa.tvs hex (aa.chk rfl ?_)))
  refine aa.tv rfl (aa.ite rfl (fun h=>?_) fun _=>?_)
  ·simp [nth] at h; omega
  refine aa.tv rfl (aa.ite rfl (fun h=>?_) fun _=>?_)
  ·simp [nth] at h; omega
  refine aa.tv rfl (aa.ite rfl (fun h=>?_) fun _=>?_)
  ·simp [nth] at h; omega
  refine aa.tv rfl (aa.ite rfl (fun h=>?_) fun _=>?_)
  ·simp [nth] at h; omega
  refine aa.tv rfl (aa.ite rfl (fun _=>?_) fun h=>?_)
  rotate_left
  ·simp [nth] at h; omega
  refine aa.tv hlen (aa.tv rfl (aa.ite rfl (fun h=>?_) fun _=>?_))
  ·simp at h; omega
  refine aa.nat hsl (aa.nat rfl (aa.chk (cF hss hpos) (aa.tvs hpa (aa.chk rfl (aa.nat hsl (aa.nat rfl (aa.chk ?_ (aa.tv (xF haw) (aa.tv hadd (aa.rws rfl (aa.tv hv2 ?_)))))))))))
  ·show (Bool.and (Bool.and (slSize i 1) (Nat.ble 1 s.inputs.length)) (Nat.ble s.inputs.length s.inputs.length))=true
   rw [hss,Nat.ble_eq_true_of_le hpos,Nat.ble_eq_true_of_le (Nat.le_refl _)]
   rfl
  refine aa.tvs he (aa.chk hfs (aa.tv hget (aa.nat hgr.slLen (aa.nat (aV hD.1 hxo.2.1) (aa.chk hld (aa.tv hget (aa.tvs hpde (aa.chk rfl (aa.tv hs1 ?_)))))))))
  exact aa.tvs he1 (aa.chk rfl (aa.tv rfl (aa.tvs he1 (aa.chk rfl (aa.tv hs2 (aa.tv hi2 aa.ret))))))
end Go.Ab.Q12
end
section
set_option maxRecDepth 10000
namespace Go.Ab.Q12
open Go Go.Ab Go.Proofs
theorem pGo {m:DMod} {s:DMach} {f:DFrame} {u:DFunc} {b:DBlock} {y g i v:TV} (hm:RMod (some false) [y] m) (hM:bP m) (hg:RStack g s.stack) (hi:RWords (some true) i s.inputs) (hv:RInts (some true) v s.events) (ho:s.ok)
  (ht:i5 s=some f) (hf0:0<=f.f) (hu:m.funcs[f.f.toNat]? = some u) (hb0:0<=f.block) (hb:u.blocks[f.block.toNat]? = some b) (ha0:0<=f.at_) (hat:f.at_=b.ins.length) (hrl:f.regs.length<=256) (hE:tM m.funcs f.regs.length u.blocks b.fin) (h23:b.fin.kind=2\/b.fin.kind=3) :
  ∃ r,aa prog 52 (f52_0 (s.stack.length - 1) (W (s.c 0)) (W (s.c 1)) (W (s.c 2)) (W (s.c 3)) (W (s.c 4)) (W (s.c 5)) (W (s.c 6)) (W (s.c 7)) (W (s.c 8)) (W (s.c 9)) (W (s.c 10)) (W (s.c 11)) (W (s.c 12)) (W (s.c 13)) (W (s.c 14)) (W (s.c 15)) (I s.done) (W s.value) y g TV.hole TV.hole TV.hole TV.hole TV.hole TV.hole TV.hole TV.hole TV.hole TV.hole TV.hole TV.hole TV.hole TV.hole TV.hole TV.hole i v TV.hole TV.hole y) r/\bi (if b.fin.kind=3/\reg f b.fin.a=0 then cG s { f with block:=b.fin.els,at_:=0 } else cG s { f with block:=b.fin.to,at_:=0 }) y r:=by
 have h0:0 < s.stack.length:=by
  have:=(EJ.1 ht).1
  omega
 have hyr:RL (some false) 3 (RFunc (some false)) y m.funcs:=by
  obtain ⟨y',h,h'⟩:=hm
  cases h
  exact h'
 obtain ⟨gr,he,hget,hgr,hof⟩:=hg.row ht
 have hfit:=cf (a:=f.f) (b:=f.block) (c:=f.at_) (d:=f.fly) hgr.isSl
 have hfs:=fH (a:=f.f) (b:=f.block) (c:=f.at_) (d:=f.fly) hgr.isSl
 obtain ⟨eu,heu,hru⟩:=hyr.bW (k:=.i64) hf0 hu
 obtain ⟨bs,rfl,hbs,_⟩:=hru
 obtain ⟨eb,heb,hrb⟩:=hbs.bW (k:=.i64) hb0 hb
 obtain ⟨c,is,ga,rfl,hc,hdi,his,hga,hfo⟩:=hrb
 have hrz:=hgr.frz (S:=RW1) fun _ _ h=>h.frz
 have go:∀ n,inI n->∃ e3 g2,ao prog 89 [.agg [I f.f,I f.block,I f.at_,Go.Ab.frz gr,W f.fly],I n] (.agg e3)/\e3.length=5/\(Bool.and ((TV.agg e3).isAgg 5) (ab dZ ((TV.agg e3).cellsL true) 0))=true /\
   (Bool.and (bK dZ [I f.f,I f.block,I f.at_,gr,W f.fly] 0) (ab dZ [TV.cell (.agg e3) 0,TV.cell (.agg e3) 1,TV.cell (.agg e3) 2,TV.cell (.agg e3) 3,TV.cell (.agg e3) 4] 0))=true /\
   cj [] g (s.stack.length - 1) 0 [TV.cell (.agg e3) 0,TV.cell (.agg e3) 1,TV.cell (.agg e3) 2,TV.cell (.agg e3) 3,TV.cell (.agg e3) 4]=some g2/\RStack g2 (s.stack.take (s.stack.length - 1) ++ [{ f with block:=n,at_:=0 }]):=by
  intro n hn
  obtain ⟨e3,hr3,h3⟩:=rGo (b:=n) (q:=some false) (x:=f) (e:=[I f.f,I f.block,I f.at_,Go.Ab.frz gr,W f.fly]) ⟨_,rfl,hrz,hof⟩ (by omega) hn
  obtain ⟨g2,hs2,hg2⟩:=hg.all ht h3
  rw [kJ h0] at hg2
  obtain ⟨g3,rfl,hg3,hof3⟩:=h3
  have h1:=cf (a:=f.f) (b:=n) (c:=0) (d:=f.fly) hg3.isSl
  refine ⟨_,g2,hr3,rfl,fq hg3.isSl,?_,hs2,hg2⟩
  show (Bool.and (bK dZ _ 0) (ab dZ [I f.f,I n,I 0,g3,W f.fly] 0))=true
  rw [h1]
  exact (Bool.and_true _).trans (mq hfit)
 by_cases h2:b.fin.kind=2
 ·rw [if_neg fun h=>by omega]
  obtain ⟨e3,g2,hr3,_,hf3,hf4,hs2,hg2⟩:=go b.fin.to hfo.2.2.2.2.1
  refine ⟨_,?_,⟨g2,i,v,rfl,hg2,hi,hv,ho⟩⟩
  unfold f52_0
  have hblk:=f7 (c:=I f.at_) (z:=TV.lf (Go.Ab.frz gr)) (d:=W f.fly) heu rfl rfl heb
  refine aa.tvs he (aa.chk hfit (aa.tv hget (aa.call hblk (aa.chk rfl (aa.tvs he (aa.chk rfl (aa.tv (RL.len his) (aa.tv rfl (aa.ite rfl (fun h=>?_) fun _=>?_)))))))))
  ·simp [nth] at h; omega
  refine aa.tv rfl (aa.ite rfl (fun h=>?_) fun _=>?_)
  ·simp [nth] at h; omega
  refine aa.tv rfl (aa.ite rfl (fun _=>?_) fun h=>?_)
  rotate_left
  ·simp [nth] at h; omega
  exact aa.tvs he (aa.chk hfit (aa.tv hget (aa.call hr3 (aa.chk hf3 (aa.tvs he (aa.chk hf4 (aa.tv hs2 aa.ret)))))))
 have h3:b.fin.kind=3:=by omega
 have hpa:=hE.2.1
 rw [h3] at hpa
 have hA:within b.fin.a f.regs.length:=hpa.1 rfl
 obtain ⟨a,ha,hal⟩:=bu hA
 obtain ⟨pe,hpe,rfl,haw⟩:=hgr.pel ha
 have hra:reg f b.fin.a=a:=iC ha
 have hla:=cF hgr.slSize hal
 rw [hra]
 by_cases hz:a=0
 ·rw [if_pos ⟨h3,hz⟩]
  obtain ⟨e3,g2,hr3,_,hf3,hf4,hs2,hg2⟩:=go b.fin.els hfo.2.2.2.2.2.1
  refine ⟨_,?_,⟨g2,i,v,rfl,hg2,hi,hv,ho⟩⟩
  unfold f52_0
  have hblk:=f7 (c:=I f.at_) (z:=TV.lf (Go.Ab.frz gr)) (d:=W f.fly) heu rfl rfl heb
  refine aa.tvs he (aa.chk hfit (aa.tv hget (aa.call hblk (aa.chk rfl (aa.tvs he (aa.chk rfl (aa.tv (RL.len his) (aa.tv rfl (aa.ite rfl (fun h=>?_) fun _=>?_)))))))))
  ·simp [nth] at h; omega
  refine aa.tv rfl (aa.ite rfl (fun h=>?_) fun _=>?_)
  ·simp [nth] at h; omega
  refine aa.tv rfl (aa.ite rfl (fun h=>?_) fun _=>?_)
  ·simp [nth] at h; omega
  refine aa.tv rfl (aa.ite rfl (fun _=>?_) fun h=>?_)
  rotate_left
  ·simp [nth] at h; omega
  refine aa.tvs he (aa.chk hfs (aa.tv hget (aa.nat hgr.slLen (aa.nat (aV hA.1 hfo.2.1) (aa.chk hla (aa.tv hget (aa.tvs hpe (aa.chk rfl (aa.tv rfl (aa.ite rfl (fun _=>?_) fun h=>?_))))))))))
  ·refine f52_2_J ?_
   unfold f52_2
   exact aa.tvs he (aa.chk hfit (aa.tv hget (aa.call hr3 (aa.chk hf3 (aa.tvs he (aa.chk hf4 (aa.tv hs2 aa.ret)))))))
  ·simp [nth] at h; exact absurd hz h
 ·rw [if_neg fun h=>hz h.2]
  obtain ⟨e3,g2,hr3,_,hf3,hf4,hs2,hg2⟩:=go b.fin.to hfo.2.2.2.2.1
  refine ⟨_,?_,⟨g2,i,v,rfl,hg2,hi,hv,ho⟩⟩
  unfold f52_0
  have hblk:=f7 (c:=I f.at_) (z:=TV.lf (Go.Ab.frz gr)) (d:=W f.fly) heu rfl rfl heb
  refine aa.tvs he (aa.chk hfit (aa.tv hget (aa.call hblk (aa.chk rfl (aa.tvs he (aa.chk rfl (aa.tv (RL.len his) (aa.tv rfl (aa.ite rfl (fun h=>?_) fun _=>?_)))))))))
  ·simp [nth] at h; omega
  refine aa.tv rfl (aa.ite rfl (fun h=>?_) fun _=>?_)
  ·simp [nth] at h; omega
  refine aa.tv rfl (aa.ite rfl (fun h=>?_) fun _=>?_)
  ·simp [nth] at h; omega
  refine aa.tv rfl (aa.ite rfl (fun _=>?_) fun h=>?_)
  rotate_left
  ·simp [nth] at h; omega
  refine aa.tvs he (aa.chk hfs (aa.tv hget (aa.nat hgr.slLen (aa.nat (aV hA.1 hfo.2.1) (aa.chk hla (aa.tv hget (aa.tvs hpe (aa.chk rfl (aa.tv rfl (aa.ite rfl (fun h=>?_) fun _=>?_))))))))))
  ·simp [nth] at h; exact absurd h hz
  ·refine f52_2_J ?_
   unfold f52_2
   exact aa.tvs he (aa.chk hfit (aa.tv hget (aa.call hr3 (aa.chk hf3 (aa.tvs he (aa.chk hf4 (aa.tv hs2 aa.ret)))))))
end Go.Ab.Q12
end
section
set_option maxRecDepth 10000
namespace Go.Ab
theorem xm {A:List Int} {n:Nat} {a:Int}:(A ++ List.replicate (n + 1) 0).set A.length a=A ++ [a] ++ List.replicate n 0:=by
 rw [List.set_append_right _ _ (Nat.le_refl _)]
 simp [List.replicate_succ]
theorem u1 {n:Nat} (h:n<=9223372036854775807):RWords (some true) (.sl true 1 (List.replicate n [W 0])) (List.replicate n 0) :=
 .sl (by simp) (F2.tF (by simp) fun i e a he ha=>by
  obtain ⟨_,h1⟩:=EJ.1 he
  obtain ⟨_,h2⟩:=EJ.1 ha
  simp at h1 h2
  subst h1 h2
  exact RW0) (by simpa using h)
end Go.Ab
namespace Go.Ab.Q12
open Go Go.Ab Go.Proofs
theorem pArgs1 {q:Option Bool} {s:DMach} {f:DFrame} {k R:Nat} {n:Int} {places:List Int} {x y g i v:TV} (hg:RStack g s.stack) (hk:s.stack[k]? = some f) (hn:inI n) (hx:RInts q x places) (hp:∀ (j:Nat) (p:Int),places[j]? = some p->within p f.regs.length) (hR:places.length<=R) (hR2:R<=256) (hl:s.stack.length + 1<=4294967296) :
  ∃ g2,aa prog 52 (f52_1 k (I n) x (I (places.length:Int)) (I (0:Nat)) (W (s.c 0)) (W (s.c 1)) (W (s.c 2)) (W (s.c 3)) (W (s.c 4)) (W (s.c 5)) (W (s.c 6)) (W (s.c 7)) (W (s.c 8)) (W (s.c 9)) (W (s.c 10)) (W (s.c 11)) (W (s.c 12)) (W (s.c 13)) (W (s.c 14)) (W (s.c 15)) (I s.done) (W s.value) y g TV.hole TV.hole TV.hole TV.hole TV.hole TV.hole TV.hole TV.hole TV.hole TV.hole TV.hole TV.hole TV.hole TV.hole TV.hole TV.hole i v TV.hole TV.hole y (.sl true 1 (List.replicate R [W 0]))) (.tup [.tup [],.tup (aH s g2 i v ++ [y])]) /\
   RStack g2 (s.stack ++ [⟨n,0,0,aJ f.regs places ++ List.replicate (R - places.length) 0,0⟩]):=by
 obtain ⟨gr,he,hget,hgr,hof⟩:=hg.row hk
 have hfs:=fH (a:=f.f) (b:=f.block) (c:=f.at_) (d:=f.fly) hgr.isSl
 have loop:∀ d j w,j + d=places.length->RWords (some true) w (aJ f.regs (places.take j) ++ List.replicate (R - j) 0)->∃ g2,aa prog 52 (f52_1 k (I n) x (I (places.length:Int)) (I (j:Int)) (W (s.c 0)) (W (s.c 1)) (W (s.c 2)) (W (s.c 3)) (W (s.c 4)) (W (s.c 5)) (W (s.c 6)) (W (s.c 7)) (W (s.c 8)) (W (s.c 9)) (W (s.c 10)) (W (s.c 11)) (W (s.c 12)) (W (s.c 13)) (W (s.c 14)) (W (s.c 15)) (I s.done) (W s.value) y g TV.hole TV.hole TV.hole TV.hole TV.hole TV.hole TV.hole TV.hole TV.hole TV.hole TV.hole TV.hole TV.hole TV.hole TV.hole TV.hole i v TV.hole TV.hole y w) (.tup [.tup [],.tup (aH s g2 i v ++ [y])]) /\
   RStack g2 (s.stack ++ [⟨n,0,0,aJ f.regs places ++ List.replicate (R - places.length) 0,0⟩]):=by
  intro d
  induction d with
  | zero =>
   intro j w hj hw
   have hj:j=places.length:=by omega
   subst hj
   rw [List.take_length] at hw
   have hfr:RFrame (some true) [I n,I 0,I 0,w,W 0] ⟨n,0,0,aJ f.regs places ++ List.replicate (R - places.length) 0,0⟩:=⟨w,rfl,hw,hn,in0,in0,nY⟩
   obtain ⟨g2,hg2,hr2⟩:=RL.app1 hg hfr hl
   refine ⟨g2,?_,hr2⟩
   unfold f52_1
   refine aa.tv rfl (aa.ite bL nofun fun _=>?_)
   refine f52_6_J ?_
   unfold f52_6
   exact aa.chk rfl (aa.rws rfl (aa.tv hg2 aa.ret))
  | succ d ih =>
   intro j w hj hw
   have hlt:j < places.length:=by omega
   have hpj:places[j]? = some places[j]:=EK hlt
   generalize places[j]=p at hpj
   obtain ⟨e1,he1,rfl,hpi⟩:=hx.idx (k:=.i64) hpj
   have hwi:=hp j _ hpj
   obtain ⟨a,ha,hal⟩:=bu hwi
   obtain ⟨pe,hpe,rfl,haw⟩:=hgr.pel ha
   have hla:=cF hgr.slSize hal
   have hwl:(aJ f.regs (places.take j) ++ List.replicate (R - j) 0).length=R:=by
    rw [List.length_append,bH]; simp; omega
   have hjR:j < (aJ f.regs (places.take j) ++ List.replicate (R - j) 0).length:=by rw [hwl]; omega
   obtain ⟨a0,w2,hp0,hs2,hr2⟩:=RWords.put hw hjR haw
   have hlw:=cF hw.slSize hjR
   have hr2:RWords (some true) w2 (aJ f.regs (places.take (j + 1)) ++ List.replicate (R - (j + 1)) 0):=by
    have h1:R - j=(R - (j + 1)) + 1:=by omega
    have h2:(aJ f.regs (places.take j)).length=j:=by rw [bH]; simp; omega
    have h3:=xm (A:=aJ f.regs (places.take j)) (n:=R - (j + 1)) (a:=a)
    rw [h2,<- h1] at h3
    rw [h3] at hr2
    rw [oM hpj,iC ha]
    exact hr2
   obtain ⟨g2,hgo,hst⟩:=ih (j + 1) w2 (by omega) hr2
   refine ⟨g2,?_,hst⟩
   unfold f52_1
   refine aa.tv rfl (aa.ite (bv hlt) (fun _=>?_) nofun)
   refine aa.tvs he1 (aa.chk rfl (aa.tvs he (aa.chk hfs (aa.tv hget (aa.nat hgr.slLen (aa.nat (aV hwi.1 hpi) (aa.chk hla (aa.tv hget (aa.tvs hpe (aa.chk rfl ?_))))))))))
   exact aa.nat hw.slLen (aa.nat (aM (by omega)) (aa.chk hlw (aa.tvs hp0 (aa.chk rfl (aa.tv hs2 (aa.tv (inc hlt (by omega)) (f52_1_J hgo)))))))
 exact loop places.length 0 _ (by omega) (by simpa [aJ] using u1 (n:=R) (by omega))
theorem pArgs3 {q:Option Bool} {s:DMach} {f:DFrame} {k R:Nat} {n:Int} {places:List Int} {x y g i v:TV} (hg:RStack g s.stack) (hk:s.stack[k]? = some f) (hn:inI n) (hx:RInts q x places) (hp:∀ (j:Nat) (p:Int),places[j]? = some p->within p f.regs.length) (hR:places.length<=R) (hR2:R<=256) (hl:s.stack.length + 1<=4294967296) :
  ∃ g2,aa prog 52 (f52_3 k (I n) x (I (places.length:Int)) (I (0:Nat)) (W (s.c 0)) (W (s.c 1)) (W (s.c 2)) (W (s.c 3)) (W (s.c 4)) (W (s.c 5)) (W (s.c 6)) (W (s.c 7)) (W (s.c 8)) (W (s.c 9)) (W (s.c 10)) (W (s.c 11)) (W (s.c 12)) (W (s.c 13)) (W (s.c 14)) (W (s.c 15)) (I s.done) (W s.value) y g TV.hole TV.hole TV.hole TV.hole TV.hole TV.hole TV.hole TV.hole TV.hole TV.hole TV.hole TV.hole TV.hole TV.hole TV.hole TV.hole i v TV.hole TV.hole y (.sl true 1 (List.replicate R [W 0]))) (.tup [.tup [],.tup (aH s g2 i v ++ [y])]) /\
   RStack g2 (s.stack ++ [⟨n,0,0,aJ f.regs places ++ List.replicate (R - places.length) 0,0⟩]):=by
 obtain ⟨gr,he,hget,hgr,hof⟩:=hg.row hk
 have hfs:=fH (a:=f.f) (b:=f.block) (c:=f.at_) (d:=f.fly) hgr.isSl
 have loop:∀ d j w,j + d=places.length->RWords (some true) w (aJ f.regs (places.take j) ++ List.replicate (R - j) 0)->∃ g2,aa prog 52 (f52_3 k (I n) x (I (places.length:Int)) (I (j:Int)) (W (s.c 0)) (W (s.c 1)) (W (s.c 2)) (W (s.c 3)) (W (s.c 4)) (W (s.c 5)) (W (s.c 6)) (W (s.c 7)) (W (s.c 8)) (W (s.c 9)) (W (s.c 10)) (W (s.c 11)) (W (s.c 12)) (W (s.c 13)) (W (s.c 14)) (W (s.c 15)) (I s.done) (W s.value) y g TV.hole TV.hole TV.hole TV.hole TV.hole TV.hole TV.hole TV.hole TV.hole TV.hole TV.hole TV.hole TV.hole TV.hole TV.hole TV.hole i v TV.hole TV.hole y w) (.tup [.tup [],.tup (aH s g2 i v ++ [y])]) /\
   RStack g2 (s.stack ++ [⟨n,0,0,aJ f.regs places ++ List.replicate (R - places.length) 0,0⟩]):=by
  intro d
  induction d with
  | zero =>
   intro j w hj hw
   have hj:j=places.length:=by omega
   subst hj
   rw [List.take_length] at hw
   have hfr:RFrame (some true) [I n,I 0,I 0,w,W 0] ⟨n,0,0,aJ f.regs places ++ List.replicate (R - places.length) 0,0⟩:=⟨w,rfl,hw,hn,in0,in0,nY⟩
   obtain ⟨g2,hg2,hr2⟩:=RL.app1 hg hfr hl
   refine ⟨g2,?_,hr2⟩
   unfold f52_3
   refine aa.tv rfl (aa.ite bL nofun fun _=>?_)
   refine f52_7_J ?_
   unfold f52_7
   exact aa.chk rfl (aa.rws rfl (aa.tv hg2 aa.ret))
  | succ d ih =>
   intro j w hj hw
   have hlt:j < places.length:=by omega
   have hpj:places[j]? = some places[j]:=EK hlt
   generalize places[j]=p at hpj
   obtain ⟨e1,he1,rfl,hpi⟩:=hx.idx (k:=.i64) hpj
   have hwi:=hp j _ hpj
   obtain ⟨a,ha,hal⟩:=bu hwi
   obtain ⟨pe,hpe,rfl,haw⟩:=hgr.pel ha
   have hla:=cF hgr.slSize hal
   have hwl:(aJ f.regs (places.take j) ++ List.replicate (R - j) 0).length=R:=by
    rw [List.length_append,bH]; simp; omega
   have hjR:j < (aJ f.regs (places.take j) ++ List.replicate (R - j) 0).length:=by rw [hwl]; omega
   obtain ⟨a0,w2,hp0,hs2,hr2⟩:=RWords.put hw hjR haw
   have hlw:=cF hw.slSize hjR
   have hr2:RWords (some true) w2 (aJ f.regs (places.take (j + 1)) ++ List.replicate (R - (j + 1)) 0):=by
    have h1:R - j=(R - (j + 1)) + 1:=by omega
    have h2:(aJ f.regs (places.take j)).length=j:=by rw [bH]; simp; omega
    have h3:=xm (A:=aJ f.regs (places.take j)) (n:=R - (j + 1)) (a:=a)
    rw [h2,<- h1] at h3
    rw [h3] at hr2
    rw [oM hpj,iC ha]
    exact hr2
   obtain ⟨g2,hgo,hst⟩:=ih (j + 1) w2 (by omega) hr2
   refine ⟨g2,?_,hst⟩
   unfold f52_3
   refine aa.tv rfl (aa.ite (bv hlt) (fun _=>?_) nofun)
   refine aa.tvs he1 (aa.chk rfl (aa.tvs he (aa.chk hfs (aa.tv hget (aa.nat hgr.slLen (aa.nat (aV hwi.1 hpi) (aa.chk hla (aa.tv hget (aa.tvs hpe (aa.chk rfl ?_))))))))))
   exact aa.nat hw.slLen (aa.nat (aM (by omega)) (aa.chk hlw (aa.tvs hp0 (aa.chk rfl (aa.tv hs2 (aa.tv (inc hlt (by omega)) (f52_3_J hgo)))))))
 exact loop places.length 0 _ (by omega) (by simpa [aJ] using u1 (n:=R) (by omega))
end Go.Ab.Q12
end
section
set_option maxRecDepth 10000
namespace Go.Ab.Q12
open Go Go.Ab Go.Proofs
theorem we {m:DMod} {n:Int} {args:List Int} {u:DFunc} (h0:0<=n) (hu:m.funcs[n.toNat]? = some u) (ha:(args.length:Int)=u.params) (hr:args.length<=u.regs.toNat) :
  (jb m n args).getD eR=⟨n,0,0,args ++ List.replicate (u.regs.toNat - args.length) 0,0⟩:=by
 simp [jb,h0,hu,ha,List.take_of_length_le hr]
theorem pCall {m:DMod} {s:DMach} {f:DFrame} {u:DFunc} {b:DBlock} {x:DIns} {y g i v:TV} (hm:RMod (some false) [y] m) (hM:bP m) (hg:RStack g s.stack) (hi:RWords (some true) i s.inputs) (hv:RInts (some true) v s.events) (ho:s.ok)
  (ht:i5 s=some f) (hf0:0<=f.f) (hu:m.funcs[f.f.toNat]? = some u) (hb0:0<=f.block) (hb:u.blocks[f.block.toNat]? = some b) (ha0:0<=f.at_) (hx:b.ins[f.at_.toNat]? = some x) (hI:oc m.funcs f.regs.length x) (h11:x.op=11) :
  ∃ r,aa prog 52 (f52_0 (s.stack.length - 1) (W (s.c 0)) (W (s.c 1)) (W (s.c 2)) (W (s.c 3)) (W (s.c 4)) (W (s.c 5)) (W (s.c 6)) (W (s.c 7)) (W (s.c 8)) (W (s.c 9)) (W (s.c 10)) (W (s.c 11)) (W (s.c 12)) (W (s.c 13)) (W (s.c 14)) (W (s.c 15)) (I s.done) (W s.value) y g TV.hole TV.hole TV.hole TV.hole TV.hole TV.hole TV.hole TV.hole TV.hole TV.hole TV.hole TV.hole TV.hole TV.hole TV.hole TV.hole i v TV.hole TV.hole y) r/\bi (eF m s f x) y r:=by
 have h0:0 < s.stack.length:=by
  have:=(EJ.1 ht).1
  omega
 have hlt:=(EJ.1 hx).1
 have hyr:RL (some false) 3 (RFunc (some false)) y m.funcs:=by
  obtain ⟨y',h,h'⟩:=hm
  cases h
  exact h'
 obtain ⟨gr,he,hget,hgr,hof⟩:=hg.row ht
 have hfit:=cf (a:=f.f) (b:=f.block) (c:=f.at_) (d:=f.fly) hgr.isSl
 have hfs:=fH (a:=f.f) (b:=f.block) (c:=f.at_) (d:=f.fly) hgr.isSl
 obtain ⟨eu,heu,hru⟩:=hyr.bW (k:=.i64) hf0 hu
 obtain ⟨bs,rfl,hbs,_⟩:=hru
 obtain ⟨eb,heb,hrb⟩:=hbs.bW (k:=.i64) hb0 hb
 obtain ⟨c,is,ga,rfl,hc,hdi,his,hga,hfo⟩:=hrb
 obtain ⟨ex,hex,hrx⟩:=his.bW (k:=.i64) ha0 hx
 obtain ⟨z,rfl,hz,hxo⟩:=hrx
 have hc:=hI.2.2.2.2.2.1
 rw [h11] at hc
 obtain ⟨hn0,w,hw,hwl,hpp⟩:=hc rfl
 have hT:eF m s f x=bJ m s x.f x.args:=by
  unfold eF
  rw [if_pos h11]
 rw [hT]
 have hlen:=RL.len (t:=51) hg
 by_cases h32:32<=s.stack.length
 ·have hT2:bJ m s x.f x.args=bO s 5 0:=by simp [bJ,h32]
  rw [hT2]
  refine ⟨_,?_,⟨g,i,v,rfl,hg,hi,hv,ho.1,ho.2.1,iy (by show 0<=(_:Int)/\(_:Int)<=6; simp [bO]),nY⟩⟩
  unfold f52_0
  have hblk:=f7 (c:=I f.at_) (z:=TV.lf (Go.Ab.frz gr)) (d:=W f.fly) heu rfl rfl heb
  refine aa.tvs he (aa.chk hfit (aa.tv hget (aa.call hblk (aa.chk rfl (aa.tvs he (aa.chk rfl (aa.tv (RL.len his) (aa.tv rfl (aa.ite rfl (fun _=>?_) fun h=>?_)))))))))
  rotate_left
  ·simp [nth] at h; omega
  refine aa.tvs he (aa.chk rfl (aa.tvs hex (aa.chk rfl ?_)))
  refine aa.tv rfl (aa.ite rfl (fun h=>?_) fun _=>?_)
  ·simp [nth] at h; omega
  refine aa.tv rfl (aa.ite rfl (fun h=>?_) fun _=>?_)
  ·simp [nth] at h; omega
  refine aa.tv rfl (aa.ite rfl (fun _=>?_) fun h=>?_)
  rotate_left
  ·simp [nth] at h; omega
  refine aa.tv hlen (aa.tv rfl (aa.ite rfl (fun _=>aa.ret) fun h=>?_))
  simp at h; omega
 have hwf:=iP hM hw
 have hlr:x.args.length<=w.regs.toNat:=by have:=hwf.1; omega
 have hT2:bJ m s x.f x.args={ s with stack:=s.stack ++ [⟨x.f,0,0,aJ f.regs x.args ++ List.replicate (w.regs.toNat - x.args.length) 0,0⟩] }:=by
  have hnr:=we (args:=aJ f.regs x.args) hn0 hw (by rw [bH]; exact hwl) (by rw [bH]; exact hlr)
  rw [bH] at hnr
  simp only [bJ,if_neg h32,ht,hnr]
 rw [hT2]
 obtain ⟨ew,hew,hrw⟩:=hyr.bW (k:=.i64) hn0 hw
 obtain ⟨bw,rfl,_⟩:=hrw
 obtain ⟨g2,hgo,hg2⟩:=pArgs1 (i:=i) (v:=v) (y:=y) hg ht hxo.2.2.2.2.2 hz (fun k p hk=>hpp k (EJ.1 hk).1 p hk) hlr (by have:=hwf.1; omega) (by omega)
 refine ⟨_,?_,⟨g2,i,v,rfl,hg2,hi,hv,ho⟩⟩
 have hnn:ak (I w.regs)=some w.regs.toNat:=aV (by have:=hwf.1; omega) ⟨by have:=hwf.1; omega,by have:=hwf.1; omega⟩
 have hbb:(Bool.and (Nat.ble w.regs.toNat w.regs.toNat) (Nat.ble w.regs.toNat 4294967296))=true:=by
  rw [Nat.ble_eq_true_of_le (Nat.le_refl _),Nat.ble_eq_true_of_le (by have:=hwf.1; omega)]
  rfl
 unfold f52_0
 have hblk:=f7 (c:=I f.at_) (z:=TV.lf (Go.Ab.frz gr)) (d:=W f.fly) heu rfl rfl heb
 refine aa.tvs he (aa.chk hfit (aa.tv hget (aa.call hblk (aa.chk rfl (aa.tvs he (aa.chk rfl (aa.tv (RL.len his) (aa.tv rfl (aa.ite rfl (fun _=>?_) fun h=>?_)))))))))
 rotate_left
 ·simp [nth] at h; omega
 refine aa.tvs he (aa.chk rfl (aa.tvs hex (aa.chk rfl ?_)))
 refine aa.tv rfl (aa.ite rfl (fun h=>?_) fun _=>?_)
 ·simp [nth] at h; omega
 refine aa.tv rfl (aa.ite rfl (fun h=>?_) fun _=>?_)
 ·simp [nth] at h; omega
 refine aa.tv rfl (aa.ite rfl (fun _=>?_) fun h=>?_)
 rotate_left
 ·simp [nth] at h; omega
 refine aa.tv hlen (aa.tv rfl (aa.ite rfl (fun h=>?_) fun _=>?_))
 ·simp at h; omega
 exact aa.tvs hew (aa.chk rfl (aa.nat hnn (aa.nat hnn (aa.chk hbb (aa.tv (RL.len hz) (f52_1_J hgo))))))
end Go.Ab.Q12
end

import Derived.Test.YtdfmiamebejhoaaJT12F59
import Derived.Test.YtdfmiamebejhoaaJT12F182
import Derived.Test.YtdfmiamebejhoaaJT12F32
import Derived.Test.YtdfmiamebejhoaaJM0
import Derived.Below
import Derived.Orders
import Derived.Laws.Cells
import Derived.Laws.OwnMore
import Derived.Laws.CopyOwn
import Derived.Maps.AppendAt
import Derived.Lib.FrozenHead
set_option linter.all false
section
set_option maxRecDepth 10000
namespace Go.Ab
theorem RMod.frz' {q:Option Bool} {y:TV} {m:DMod} (h:RMod q [y] m):RMod (some false) [Go.Ab.frz y] m:=by
 obtain ⟨y',h,h'⟩:=h
 cases h
 exact ⟨_,rfl,h'.frz (S:=RFunc (some false)) fun _ _ h=>h.frz⟩
end Go.Ab
namespace Go.Ab.T12
open Go Go.Ab Go.Proofs
theorem pThrow {m:DMod} {s:DMach} {f:DFrame} {u:DFunc} {b:DBlock} {y g i v:TV} (hm:RMod (some false) [y] m) (hM:bB m) (hg:RStack g s.stack) (hi:RWords (some true) i s.inputs) (hv:RInts (some true) v s.events) (ho:s.ok) (hQ:cn m s)
  (ht:fu s=some f) (hf0:0<=f.f) (hu:m.funcs[f.f.toNat]? = some u) (hb0:0<=f.block) (hb:u.blocks[f.block.toNat]? = some b) (ha0:0<=f.at_) (hat:f.at_=b.ins.length) (hE:th m.funcs f.regs.length u.blocks b.fin) (h5:b.fin.kind=5) :
  ∃ r,aa prog 29 (f29_0 (s.stack.length - 1) (W (s.c 0)) (W (s.c 1)) (W (s.c 2)) (W (s.c 3)) (W (s.c 4)) (W (s.c 5)) (W (s.c 6)) (W (s.c 7)) (W (s.c 8)) (W (s.c 9)) (W (s.c 10)) (W (s.c 11)) (W (s.c 12)) (W (s.c 13)) (W (s.c 14)) (W (s.c 15)) (I s.done) (W s.value) y g TV.hole TV.hole TV.hole TV.hole TV.hole TV.hole TV.hole TV.hole TV.hole TV.hole TV.hole TV.hole TV.hole TV.hole TV.hole TV.hole i v TV.hole TV.hole y) r/\bn (aN m s (reg f b.fin.a)) y r:=by
 have h0:0 < s.stack.length:=by
  have:=(EG.1 ht).1
  omega
 have h32:=hQ.2.1
 have hyr:RL (some false) 3 (RFunc (some false)) y m.funcs:=by
  obtain ⟨y',h,h'⟩:=hm
  cases h
  exact h'
 obtain ⟨gr,he,hget,hgr,hof⟩:=hg.row ht
 have hfit:=bW (a:=f.f) (b:=f.block) (c:=f.at_) (d:=f.fly) hgr.isSl
 have hfs:=fM (a:=f.f) (b:=f.block) (c:=f.at_) (d:=f.fly) hgr.isSl
 obtain ⟨eu,heu,hru⟩:=hyr.bv (k:=.i64) hf0 hu
 obtain ⟨bs,rfl,hbs,_⟩:=hru
 obtain ⟨eb,heb,hrb⟩:=hbs.bv (k:=.i64) hb0 hb
 obtain ⟨c,is,ga,rfl,hc,hdi,his,hga,hfo⟩:=hrb
 have hpa:=hE.2.1
 rw [h5] at hpa
 have hA:within b.fin.a f.regs.length:=hpa.1 rfl
 obtain ⟨a,ha,hal⟩:=bA hA
 obtain ⟨pe,hpe,rfl,haw⟩:=hgr.pel ha
 have hra:reg f b.fin.a=a:=iu ha
 have hla:=cF hgr.slSize hal
 rw [hra]
 have hlen:=RL.len (t:=43) hg
 have hcw:=xC hg.slSize (show s.stack.length - 1<=s.stack.length by omega)
 obtain ⟨gw,hgw,hrw⟩:=hg.win (n:=s.stack.length - 1) (by omega)
 have htl:(s.stack.take (s.stack.length - 1)).length=s.stack.length - 1:=by simp
 have hlw:=RL.len (t:=43) hrw
 rw [htl] at hlw
 obtain ⟨r,hr,hout⟩:=CH (y:=y) (m:=m) hyr hM hg hi hv ho haw hQ h0 (s.stack.length - 1) 0 (by omega) (fun j hj=>by omega)
 refine ⟨r,?_,hout⟩
 unfold f29_0
 have hblk:=fS (c:=I f.at_) (z:=TV.lf (Go.Ab.frz gr)) (d:=W f.fly) heu rfl rfl heb
 refine aa.tvs he (aa.chk hfit (aa.tv hget (aa.call hblk (aa.chk rfl (aa.tvs he (aa.chk rfl (aa.tv (RL.len his) (aa.tv rfl (aa.ite rfl (fun h=>?_) fun _=>?_)))))))))
 ·simp [nth] at h; omega
 refine aa.tv rfl (aa.ite rfl (fun h=>?_) fun _=>?_)
 ·simp [nth] at h; omega
 refine aa.tv rfl (aa.ite rfl (fun h=>?_) fun _=>?_)
 ·simp [nth] at h; omega
 refine aa.tv rfl (aa.ite rfl (fun h=>?_) fun _=>?_)
 ·simp [nth] at h; omega
 refine aa.tv rfl (aa.ite rfl (fun h=>?_) fun _=>?_)
 ·simp [nth] at h; omega
 refine aa.tv rfl (aa.ite rfl (fun _=>?_) fun h=>?_)
 rotate_left
 ·simp [nth] at h; omega
 refine aa.tvs he (aa.chk hfs (aa.tv hget (aa.nat hgr.slLen (aa.nat (aU hA.1 hfo.2.1) (aa.chk hla (aa.tv hget (aa.tvs hpe (aa.chk rfl ?_))))))))
 exact aa.tv hlen (aa.tv (dec h0 (by omega)) (aa.nat hg.slLen (aa.nat (aL (by omega)) (aa.chk hcw (aa.tv hgw (aa.tv hlw (f29_4_J hr)))))))
theorem DY {m:DMod} {s:DMach} {f:DFrame} {u:DFunc} {b:DBlock} {y g i v:TV} (hm:RMod (some false) [y] m) (hM:bB m) (hg:RStack g s.stack) (hi:RWords (some true) i s.inputs) (hv:RInts (some true) v s.events) (ho:s.ok) (hQ:cn m s)
  (ht:fu s=some f) (hf0:0<=f.f) (hu:m.funcs[f.f.toNat]? = some u) (hb0:0<=f.block) (hb:u.blocks[f.block.toNat]? = some b) (ha0:0<=f.at_) (hat:f.at_=b.ins.length) (h6:b.fin.kind=6) :
  ∃ r,aa prog 29 (f29_0 (s.stack.length - 1) (W (s.c 0)) (W (s.c 1)) (W (s.c 2)) (W (s.c 3)) (W (s.c 4)) (W (s.c 5)) (W (s.c 6)) (W (s.c 7)) (W (s.c 8)) (W (s.c 9)) (W (s.c 10)) (W (s.c 11)) (W (s.c 12)) (W (s.c 13)) (W (s.c 14)) (W (s.c 15)) (I s.done) (W s.value) y g TV.hole TV.hole TV.hole TV.hole TV.hole TV.hole TV.hole TV.hole TV.hole TV.hole TV.hole TV.hole TV.hole TV.hole TV.hole TV.hole i v TV.hole TV.hole y) r/\bn (aN m s f.fly) y r:=by
 have h0:0 < s.stack.length:=by
  have:=(EG.1 ht).1
  omega
 have h32:=hQ.2.1
 have hyr:RL (some false) 3 (RFunc (some false)) y m.funcs:=by
  obtain ⟨y',h,h'⟩:=hm
  cases h
  exact h'
 obtain ⟨gr,he,hget,hgr,hof⟩:=hg.row ht
 have hfit:=bW (a:=f.f) (b:=f.block) (c:=f.at_) (d:=f.fly) hgr.isSl
 obtain ⟨eu,heu,hru⟩:=hyr.bv (k:=.i64) hf0 hu
 obtain ⟨bs,rfl,hbs,_⟩:=hru
 obtain ⟨eb,heb,hrb⟩:=hbs.bv (k:=.i64) hb0 hb
 obtain ⟨c,is,ga,rfl,hc,hdi,his,hga,hfo⟩:=hrb
 have hlen:=RL.len (t:=43) hg
 have hcw:=xC hg.slSize (show s.stack.length - 1<=s.stack.length by omega)
 obtain ⟨gw,hgw,hrw⟩:=hg.win (n:=s.stack.length - 1) (by omega)
 have htl:(s.stack.take (s.stack.length - 1)).length=s.stack.length - 1:=by simp
 have hlw:=RL.len (t:=43) hrw
 rw [htl] at hlw
 obtain ⟨r,hr,hout⟩:=BM (y:=y) (m:=m) hyr hM hg hi hv ho hof.2.2.2 hQ h0 (s.stack.length - 1) 0 (by omega) (fun j hj=>by omega)
 refine ⟨r,?_,hout⟩
 unfold f29_0
 have hblk:=fS (c:=I f.at_) (z:=TV.lf (Go.Ab.frz gr)) (d:=W f.fly) heu rfl rfl heb
 refine aa.tvs he (aa.chk hfit (aa.tv hget (aa.call hblk (aa.chk rfl (aa.tvs he (aa.chk rfl (aa.tv (RL.len his) (aa.tv rfl (aa.ite rfl (fun h=>?_) fun _=>?_)))))))))
 ·simp [nth] at h; omega
 refine aa.tv rfl (aa.ite rfl (fun h=>?_) fun _=>?_)
 ·simp [nth] at h; omega
 refine aa.tv rfl (aa.ite rfl (fun h=>?_) fun _=>?_)
 ·simp [nth] at h; omega
 refine aa.tv rfl (aa.ite rfl (fun h=>?_) fun _=>?_)
 ·simp [nth] at h; omega
 refine aa.tv rfl (aa.ite rfl (fun h=>?_) fun _=>?_)
 ·simp [nth] at h; omega
 refine aa.tv rfl (aa.ite rfl (fun h=>?_) fun _=>?_)
 ·simp [nth] at h; omega
 refine aa.tv rfl (aa.ite rfl (fun _=>?_) fun h=>?_)
 rotate_left
 ·simp [nth] at h; omega
 refine aa.tvs he (aa.chk rfl ?_)
 exact aa.tv hlen (aa.tv (dec h0 (by omega)) (aa.nat hg.slLen (aa.nat (aL (by omega)) (aa.chk hcw (aa.tv hgw (aa.tv hlw (f29_5_J hr)))))))
theorem AM {q : Option Bool} {m : DMod} {s : DMach} {y g i v : TV} (hm : RMod q [y] m) (hM : bB m) (hg : RStack g s.stack) (hi : RWords (some true) i s.inputs) (hv : RInts (some true) v s.events) (ho : s.ok) (hQ : cn m s) (hd : s.done = 0) (hel : s.events.length + 1 ≤ 4294967296) :
    ∃ r,ap prog 29 [.tup (au s g i v ++ [y])] r/\bn (dc m s) (Go.Ab.frz y) r:=by
  have hys:y.isSl=true:=by
    obtain ⟨y',h,h'⟩:=hm
    cases h
    exact h'.isSl
  have hm:=hm.frz'
  generalize hz:Go.Ab.frz y=z at hm
  have h32:=hQ.2.1
  have h0:=hQ.2.2.1 hd
  have hlen:=RL.len (t:=43) hg
  obtain ⟨f,ht⟩:∃ f,s.stack[s.stack.length - 1]? = some f:=⟨_,EH (by omega)⟩
  have ht':fu s=some f:=ht
  have hF:=hQ.2.2.2.1 _ f ht
  have hrl:=gi hM hF
  obtain ⟨hf0,u,hu,hLr,hb0,b,hb,ha0,ha1⟩:=hF
  have hbo:bG m f=some b:=by simp [bG,hu,hb]
  have main:∃ r,aa prog 29 (f29_0 (s.stack.length - 1) (W (s.c 0)) (W (s.c 1)) (W (s.c 2)) (W (s.c 3)) (W (s.c 4)) (W (s.c 5)) (W (s.c 6)) (W (s.c 7)) (W (s.c 8)) (W (s.c 9)) (W (s.c 10)) (W (s.c 11)) (W (s.c 12)) (W (s.c 13)) (W (s.c 14)) (W (s.c 15)) (I s.done) (W s.value) z g TV.hole TV.hole TV.hole TV.hole TV.hole TV.hole TV.hole TV.hole TV.hole TV.hole TV.hole TV.hole TV.hole TV.hole TV.hole TV.hole i v TV.hole TV.hole z) r/\bn (dc m s) z r:=by
    have hT : dc m s = if f.at_ = b.ins.length then
        (if b.fin.kind = 1 then bC m s (reg f b.fin.a) else
         if b.fin.kind=4 then bF m s b.fin.f b.fin.args else
         if b.fin.kind=5 then aN m s (reg f b.fin.a) else
         if b.fin.kind=6 then aN m s f.fly else
         if b.fin.kind=3/\reg f b.fin.a=0 then cV s { f with block:=b.fin.els,at_:=0 } else cV s { f with block:=b.fin.to,at_:=0 })
      else match b.ins[f.at_.toNat]? with
        | none=>s
        | some x=>fw m s f x:=by
      unfold dc
      rw [if_neg (by simp [hd]),ht']
      simp only
      rw [hbo]
      rfl
    rw [hT]
    by_cases hat:f.at_=(b.ins.length:Int)
    · rw [if_pos hat]
      have hE:=qC hM hu hb
      rw [<- hLr] at hE
      have hk:=xp hE.1
      by_cases h1:b.fin.kind=1
      · rw [if_pos h1]
        exact DX hm hM hg hi hv ho hQ ht' hf0 hu hb0 hb ha0 hat hE h1
      rw [if_neg h1]
      by_cases h4:b.fin.kind=4
      · rw [if_pos h4]
        exact D1 hm hM hg hi hv ho ht' hf0 hu hb0 hb ha0 hat hE h4
      rw [if_neg h4]
      by_cases h5:b.fin.kind=5
      · rw [if_pos h5]
        exact pThrow hm hM hg hi hv ho hQ ht' hf0 hu hb0 hb ha0 hat hE h5
      rw [if_neg h5]
      by_cases h6:b.fin.kind=6
      · rw [if_pos h6]
        exact DY hm hM hg hi hv ho hQ ht' hf0 hu hb0 hb ha0 hat h6
      rw [if_neg h6]
      exact pGo hm hM hg hi hv ho ht' hf0 hu hb0 hb ha0 hat hrl hE (by omega)
    · rw [if_neg hat]
      obtain ⟨x,hx⟩:∃ x,b.ins[f.at_.toNat]? = some x:=⟨_,EH (by omega)⟩
      have hI:=qA hM hu hb hx
      rw [<- hLr] at hI
      rw [hx]
      simp only
      by_cases h11:x.op=11
      · exact pCall hm hM hg hi hv ho ht' hf0 hu hb0 hb ha0 hx hI h11
      by_cases h8:x.op<=8
      · exact Ec hm hM hg hi hv ho ht' hf0 hu hb0 hb ha0 hx hI h8 hrl
      by_cases h9:x.op=9
      · exact pLoad hm hM hg hi hv ho ht' hf0 hu hb0 hb ha0 hx hI h9
      by_cases h10:x.op=10
      · exact pStore hm hM hg hi hv ho ht' hf0 hu hb0 hb ha0 hx hI h10
      by_cases h12:x.op=12
      · exact pOut hm hM hg hi hv ho ht' hf0 hu hb0 hb ha0 hx hI h12 hel
      have h13:x.op=13:=by
        have:=zQ hI.1
        omega
      exact pIn hm hM hg hi hv ho ht' hf0 hu hb0 hb ha0 hx hI h13 hel
  obtain ⟨r,hr,hout⟩:=main
  refine ⟨r,?_,hout⟩
  refine ap.of (f29_MR _ _ _ _ _ _ _ _ _ _ _ _ _ _ _ _ _ _ _ _ _ _) ?_
  unfold f29_M
  rw [hz]
  refine aa.chk ?_ (aa.tv hlen (aa.tv (dec h0 (by omega)) (aa.nat hg.slLen (aa.nat (aL (by omega)) (aa.chk (pw hg.slSize (by omega)) (f29_0_J hr))))))
  simp [hg.isSl,hi.isSl,hv.isSl,hys,TV.isSc,scV]
end Go.Ab.T12
end
section
set_option maxRecDepth 10000
namespace Go.Ab
def sr:DMach:=⟨[],List.replicate 16 0,[],[],0,0⟩
theorem xl (k:Nat):sr.c k=0:=by
 simp only [DMach.c,sr,List.getD,List.getElem?_replicate]
 split <;> rfl
def vd:List TV:=[.lit aV,W 0,W 0,W 0,W 0,W 0,W 0,W 0,W 0,W 0,W 0,W 0,W 0,W 0,W 0,W 0,W 0,.lit aV,.lit aV,I 0,W 0]
theorem yy:gX vd sr :=
 ⟨.lit aV,.lit aV,.lit aV,by simp only [vd,au,xl]; rfl,RL.nil,RL.nil,RL.nil,by simp [sr],fun k=>by rw [xl]; exact nF,in0,nF⟩
theorem gX.fit {e:List TV} {s:DMach} (h:gX e s):(Bool.and ((TV.agg e).isAgg 21) (ab Bj ((TV.agg e).cellsL true) 0))=true:=by
 obtain ⟨g,i,v,rfl,hg,hi,hv,ho⟩:=h
 exact CO hg.isSl hi.isSl hv.isSl
end Go.Ab
namespace Go.Ab.T12
open Go Go.Ab Go.Proofs
theorem Ae {e:List TV} {s:DMach} (h:gX e s):isOwn (.agg e)=true:=by
 obtain ⟨g,i,v,rfl,hg,hi,hv,ho⟩:=h
 exact xk (hg.own fun _ _ h=>h.own) (hi.own fun _ _ h=>h.own) (hv.own fun _ _ h=>h.own)
theorem rk {e:List TV} {s:DMach} {n:Int} (h:gX e s):bm [.agg e,I n]=true:=by
 have:=Ae h
 simp only [bm,this,Bool.true_and]
 rfl
open Classical in
theorem CD {q q':Option Bool} {e:List TV} {x:TV} {m:DMod} {inputs:List Int} (hm:RMod q e m) (hx:RWords q' x inputs) (hl:inputs.length<=4294967296) :
  ∃ e2,ap prog 16 [.agg e,x] (.tup [.agg e2,I (if bB m then 0 else 1)])/\gX e2 (if bB m then mQ m inputs else sr):=by
 obtain ⟨e1,hr1,h1⟩:=rNew (n:=0) (args:=[]) hm in0 (RL.nil:RWords none (.lit aV) [])
 obtain ⟨i2,hri,hi2⟩:=r39 hx hl
 obtain ⟨y,rfl,hy⟩:=hm
 by_cases hM:bB m
 ·rw [if_pos hM,if_pos hM]
  have hD:nC m 0 []=j0 m 0 []:=by
   unfold nC
   rw [cg hM]
   rfl
  obtain ⟨_,⟨u,hu,hp⟩,_⟩:=id hM
  obtain ⟨hf,hN⟩:=oU (n:=0) (args:=[]) hM (Int.le_refl 0) hu (by simp [hp])
  have hE:Cy (nC m 0 [])=0:=by
   rw [hD]
   cases h:j0 m 0 [] with
   | none=>simp [j0,hu,hp] at h
   | some f=>rfl
  rw [hE] at hr1
  rw [hD] at h1
  have h1':=h1
  generalize hF:(j0 m 0 []).getD fQ=f2 at h1 h1'
  obtain ⟨yn,rfl,hyn,hof⟩:=h1
  have hout:gX (au (mQ m inputs) (.sl true 5 [[I f2.f,I f2.block,I f2.at_,yn,W f2.fly]]) i2 (.lit aV)) (mQ m inputs):=by
   refine ⟨_,_,_,rfl,?_,hi2,RL.nil,by simp [mQ],fun k=>by rw [BN]; exact nF,in0,nF⟩
   show RL (some true) 5 (RFrame (some true)) _ [(j0 m 0 []).getD fQ]
   rw [hF]
   exact .sl (by simp) (.cons h1' .nil) (by simp)
  refine ⟨_,?_,hout⟩
  have ho2:=rk (n:=0) hout
  simp only [au,BN] at ho2 ⊢
  refine ap.of (f16_MR _ _) ?_
  unfold f16_M
  refine aa.chk rfl (aa.call hr1 (aa.chk rfl (aa.chk (fm hyn.isSl) (aa.chk rfl (aa.tv rfl (aa.ite rfl nofun fun _=>aa.call hri (aa.chk ?_ (aa.chk ho2 aa.ret))))))))
  simp [ab,zSl,aI,hi2.isSl]
 ·rw [if_neg hM,if_neg hM]
  have hD:nC m 0 []=none:=by
   unfold nC
   rw [eF hM]
   rfl
  rw [hD] at hr1 h1
  obtain ⟨yn,rfl,hyn,hof⟩:=h1
  refine ⟨vd,?_,yy⟩
  refine ap.of (f16_MR _ _) ?_
  unfold f16_M
  exact aa.chk rfl (aa.call hr1 (aa.chk rfl (aa.chk (fm hyn.isSl) (aa.chk rfl (aa.tv rfl (aa.ite rfl (fun _=>aa.chk rfl aa.ret) nofun))))))
theorem wc {q:Option Bool} {e es:List TV} {m:DMod} {s:DMach} (hm:RMod q e m) (hM:bB m) (hs:RMach es s) (hQ:cn m s) (h3:s.inputs.length<=4294967296) (h4:s.events.length + 1<=4294967296) :
  ∃ e2,ap prog 17 [.agg e,.agg es] (.tup [.agg e2,I 0])/\gX e2 (dc m s):=by
 have hrr:=Ef hm hs
 rw [cg ⟨hM,hQ⟩] at hrr
 obtain ⟨ec,hrc,hc⟩:=rMCopy hs (by have:=hQ.2.1; omega) (fun k f hk=>by have:=gi hM (hQ.2.2.2.1 k f hk); omega) h3 (by omega)
 have hm':=hm
 obtain ⟨y,rfl,hy⟩:=hm
 obtain ⟨g0,i0,v0,rfl,_⟩:=hs
 have hfit:=hc.fit
 obtain ⟨g,i,v,rfl,hg,hi,hv,ho⟩:=hc
 have fin:∀ {s2:DMach} {g2 i2 v2 y2:TV},RStack g2 s2.stack->RWords (some true) i2 s2.inputs->RInts (some true) v2 s2.events->s2.ok->aa prog 17 (f17_0 (W (s2.c 0)) (W (s2.c 1)) (W (s2.c 2)) (W (s2.c 3)) (W (s2.c 4)) (W (s2.c 5)) (W (s2.c 6)) (W (s2.c 7)) (W (s2.c 8)) (W (s2.c 9)) (W (s2.c 10)) (W (s2.c 11)) (W (s2.c 12)) (W (s2.c 13)) (W (s2.c 14)) (W (s2.c 15)) (I s2.done) (W s2.value) g2 i2 v2 y2) (.tup [.agg (au s2 g2 i2 v2),I 0]):=by
  intro s2 g2 i2 v2 y2 hg2 hi2 hv2 ho2
  unfold f17_0
  exact aa.chk (rk ⟨g2,i2,v2,rfl,hg2,hi2,hv2,ho2⟩) aa.ret
 by_cases hd:s.done=0
 ·obtain ⟨r,hr,hout⟩:=AM hm' hM hg hi hv ho hQ hd h4
  generalize dc m s=s2 at hout
  obtain ⟨g2,i2,v2,rfl,hg2,hi2,hv2,ho2⟩:=hout
  have hys2:(Go.Ab.frz y).isSl=true:=by
   obtain ⟨y',h,h'⟩:=hm'.frz'
   cases h
   exact h'.isSl
  refine ⟨_,?_,⟨g2,i2,v2,rfl,hg2,hi2,hv2,ho2⟩⟩
  refine ap.of (f17_MR _ _) ?_
  unfold f17_M
  refine aa.chk rfl (aa.chk rfl (aa.call hrr (aa.chk rfl (aa.tv rfl (aa.ite rfl nofun fun _=>aa.call hrc (aa.chk hfit (aa.tv rfl (aa.ite rfl (fun _=>?_) fun h=>?_))))))))
  rotate_left
  ·simp [TV.cell,nth,au] at h; exact absurd hd h
  refine aa.chk ?_ (aa.call hr (aa.chk ?_ (aa.chk rfl (f17_0_J (fin hg2 hi2 hv2 ho2)))))
  ·simp [TV.cell,nth,au,hg.isSl,hi.isSl,hv.isSl,hy.isSl,TV.isSc,scV]
  ·simp [TV.isTup,TV.comp,nth,au,hg2.isSl,hi2.isSl,hv2.isSl,hys2,TV.isSc,scV]
 ·have hT:dc m s=s:=by simp [dc,hd]
  rw [hT]
  refine ⟨_,?_,⟨g,i,v,rfl,hg,hi,hv,ho⟩⟩
  refine ap.of (f17_MR _ _) ?_
  unfold f17_M
  refine aa.chk rfl (aa.chk rfl (aa.call hrr (aa.chk rfl (aa.tv rfl (aa.ite rfl nofun fun _=>aa.call hrc (aa.chk hfit (aa.tv rfl (aa.ite rfl (fun h=>?_) fun _=>aa.chk hy.isSl (f17_0_J (fin hg hi hv ho))))))))))
  simp [TV.cell,nth,au] at h; exact absurd h hd
end Go.Ab.T12
end
section
set_option maxRecDepth 10000
namespace Go.Ab
section
variable {m:DMod} {s:DMach}
def CQ (s:DMach):Prop:=(∀ (k:Nat) f,s.stack[k]? = some f->∀ (j:Nat) a,f.regs[j]? = some a->inW a)/\∀ a,a ∈ s.inputs->inW a
theorem gX.words {e:List TV} (h:gX e s):CQ s:=by
 obtain ⟨g,i,v,rfl,hg,hi,hv,ho⟩:=h
 refine ⟨fun k f hk j a hj=>?_,fun a ha=>?_⟩
 ·obtain ⟨e,_,gr,rfl,hgr,_⟩:=hg.pel hk
  obtain ⟨e,_,_,haw⟩:=hgr.pel hj
  exact haw
 ·obtain ⟨k,hk,rfl⟩:=List.mem_iff_getElem.1 ha
  obtain ⟨e,_,_,haw⟩:=hi.pel (EH hk)
  exact haw
theorem reg_lt {f:DFrame} {n:Int} (h:∀ (j:Nat) a,f.regs[j]? = some a->inW a):reg f n < 65536:=by
 unfold reg
 rw [EU]
 cases hk:f.regs[n.toNat]? with
 | none=>simp
 | some a =>
  have:=(h _ _ hk).2
  simp only [Option.getD_some]
  omega
theorem AR (hW:CQ s):((dc m s).events=s.events/\(dc m s).inputs=s.inputs)\/(∃ a,a < 65536/\(dc m s).events=s.events ++ [a]/\(dc m s).inputs=s.inputs)\/∃ a l,s.inputs=a :: l/\(dc m s).events=s.events ++ [a + 65536]/\(dc m s).inputs=l:=by
 have hc:∀ n p,(bF m s n p).events=s.events/\(bF m s n p).inputs=s.inputs:=by
  intro n p
  unfold bF
  split
  ·exact ⟨rfl,rfl⟩
  ·split <;> exact ⟨rfl,rfl⟩
 have hth:∀ w,(aN m s w).events=s.events/\(aN m s w).inputs=s.inputs:=by
  intro w
  unfold aN
  split
  ·split
   ·exact ⟨rfl,rfl⟩
   ·split <;> exact ⟨rfl,rfl⟩
  ·exact ⟨rfl,rfl⟩
 have han:∀ w,(bC m s w).events=s.events/\(bC m s w).inputs=s.inputs:=by
  intro w
  unfold bC
  split
  ·exact ⟨rfl,rfl⟩
  ·split
   ·exact ⟨rfl,rfl⟩
   ·split
    ·exact ⟨rfl,rfl⟩
    ·split
     ·exact ⟨rfl,rfl⟩
     ·split <;> exact ⟨rfl,rfl⟩
 unfold dc
 split
 ·exact .inl ⟨rfl,rfl⟩
 split
 ·exact .inl ⟨rfl,rfl⟩
 rename_i f ht
 split
 ·exact .inl ⟨rfl,rfl⟩
 split
 ·split
  ·exact .inl (han _)
  split
  ·exact .inl (hc _ _)
  split
  ·exact .inl (hth _)
  split
  ·exact .inl (hth _)
  split
  ·exact .inl ⟨rfl,rfl⟩
  ·exact .inl ⟨rfl,rfl⟩
 ·split
  ·exact .inl ⟨rfl,rfl⟩
  ·rename_i x _
   unfold fw
   split
   ·exact .inl (hc _ _)
   split
   ·split
    ·exact .inl ⟨rfl,rfl⟩
    ·exact .inl ⟨rfl,rfl⟩
   split
   ·split
    ·exact .inl ⟨rfl,rfl⟩
    ·exact .inl ⟨rfl,rfl⟩
   split
   ·split
    ·exact .inl ⟨rfl,rfl⟩
    ·exact .inl ⟨rfl,rfl⟩
   split
   ·exact .inr (.inl ⟨_,reg_lt (hW.1 _ _ ht),rfl,rfl⟩)
   split
   ·exact .inl ⟨rfl,rfl⟩
   ·rename_i a l hl
    exact .inr (.inr ⟨a,l,hl,rfl,rfl⟩)
end
end Go.Ab
end
section
set_option maxRecDepth 10000
namespace Go.Ab
theorem Doe.link {m:DMod} {P:Int->Prop} {f g:DFrame} (hl:qk m f g) (h:Doe m P g.f.toNat):Doe m P f.f.toNat:=by
 obtain ⟨u,b,hu,hb,⟨_,h4,he⟩ | ⟨_,x,hx,h11,he⟩⟩:=hl
 ·exact .inv hu hb h4 (by rw [he]; exact h)
 ·exact .call hu hb hx h11 (by rw [he]; exact h)
theorem Doe.under {m:DMod} {P:Int->Prop} {l:List DFrame} (hS:eV m l):∀ (d k:Nat) (f g:DFrame),l[k]? = some f->l[k + d]? = some g->Doe m P g.f.toNat->Doe m P f.f.toNat:=by
 intro d
 induction d with
 | zero =>
  intro k f g hf hg h
  rw [Nat.add_zero,hf] at hg
  cases hg
  exact h
 | succ d ih =>
  intro k f g hf hg h
  have hlt:=(EG.1 hg).1
  obtain ⟨f1,hf1⟩:∃ f1,l[k + 1]? = some f1:=⟨_,EH (by omega)⟩
  exact .link (hS.2 k f f1 hf hf1) (ih (k + 1) f1 g hf1 (by rw [show k + 1 + d=k + (d + 1) by omega]; exact hg) h)
theorem AX {P:Nat->Prop}:∀ {n k:Nat},j7 P n=some k->k < n:=by
 intro n
 induction n with
 | zero=>intro k h; cases h
 | succ n ih =>
  intro k h
  unfold j7 at h
  split at h
  ·cases h; omega
  ·have:=ih h; omega
theorem yq {P:Nat->Prop}:∀ {n k:Nat},j7 P n=some k->∀ j,k < j->j < n->¬ P j:=by
 intro n
 induction n with
 | zero=>intro k h; cases h
 | succ n ih =>
  intro k h j h1 h2
  unfold j7 at h
  split at h
  ·cases h; omega
  ·rename_i hn
   by_cases e:j=n
   ·subst e; exact hn
   ·exact ih h j h1 (by omega)
theorem pY (m:DMod) (s:DMach) (n:Int) (l:List Int):(bF m s n l).events=s.events/\(bF m s n l).cells=s.cells:=by
 unfold bF
 split
 ·exact ⟨rfl,rfl⟩
 ·split <;> exact ⟨rfl,rfl⟩
theorem pW (m:DMod) (s:DMach) (w:Int):(aN m s w).events=s.events/\(aN m s w).cells=s.cells:=by
 unfold aN
 split
 ·split
  ·exact ⟨rfl,rfl⟩
  ·split <;> exact ⟨rfl,rfl⟩
 ·exact ⟨rfl,rfl⟩
theorem tw (m:DMod) (s:DMach) (w:Int):(bC m s w).events=s.events/\(bC m s w).cells=s.cells:=by
 unfold bC
 split
 ·exact ⟨rfl,rfl⟩
 split
 ·exact ⟨rfl,rfl⟩
 split
 ·exact ⟨rfl,rfl⟩
 split
 ·exact ⟨rfl,rfl⟩
 split <;> exact ⟨rfl,rfl⟩
end Go.Ab
namespace Go.Ab.T12
open Go Go.Ab Go.Proofs
theorem AF {m:DMod} {s:DMach} (hM:bB m) (hQ:cn m s):((dc m s).events=s.events\/∃ f,fu s=some f/\Doe m (fun o=>o=12\/o=13) f.f.toNat)/\((dc m s).cells=s.cells\/∃ f,fu s=some f/\Doe m (fun o=>o=10) f.f.toNat):=by
 have keep:∀ {t:DMach},t.events=s.events/\t.cells=s.cells->(t.events=s.events\/∃ f,fu s=some f/\Doe m (fun o=>o=12\/o=13) f.f.toNat)/\(t.cells=s.cells\/∃ f,fu s=some f/\Doe m (fun o=>o=10) f.f.toNat):=fun h=>⟨.inl h.1,.inl h.2⟩
 unfold dc
 split
 ·exact keep ⟨rfl,rfl⟩
 split
 ·exact keep ⟨rfl,rfl⟩
 rename_i f ht
 split
 ·exact keep ⟨rfl,rfl⟩
 rename_i b hbo
 obtain ⟨u,hu,hb⟩:∃ u,m.funcs[f.f.toNat]? = some u/\u.blocks[f.block.toNat]? = some b:=by
  unfold bG at hbo
  cases hu:m.funcs[f.f.toNat]? with
  | none=>rw [hu] at hbo; cases hbo
  | some u=>rw [hu] at hbo; exact ⟨u,rfl,hbo⟩
 split
 ·split
  ·exact keep (tw m s _)
  split
  ·exact keep (pY m s _ _)
  split
  ·exact keep (pW m s _)
  split
  ·exact keep (pW m s _)
  split <;> exact keep ⟨rfl,rfl⟩
 ·split
  ·exact keep ⟨rfl,rfl⟩
  rename_i x hx
  have hop:=zQ (qA hM hu hb hx).1
  unfold fw
  split
  ·exact keep (pY m s _ _)
  split
  ·split <;> exact keep ⟨rfl,rfl⟩
  split
  ·split <;> exact keep ⟨rfl,rfl⟩
  split
  ·rename_i h10
   split
   ·exact keep ⟨rfl,rfl⟩
   ·exact ⟨.inl rfl,.inr ⟨f,ht,.own hu hb hx h10⟩⟩
  split
  ·rename_i h12
   exact ⟨.inr ⟨f,ht,.own hu hb hx (.inl h12)⟩,.inl rfl⟩
  ·have h13:x.op=13:=by omega
   split
   ·exact keep ⟨rfl,rfl⟩
   ·exact ⟨.inr ⟨f,ht,.own hu hb hx (.inr h13)⟩,.inl rfl⟩
theorem yw {m:DMod} {s:DMach} (hM:bB m) (hQ:cn m s) {k:Nat} {f:DFrame} (hf:s.stack[k]? = some f) :
  ((dc m s).events=s.events\/Doe m (fun o=>o=12\/o=13) f.f.toNat)/\((dc m s).cells=s.cells\/Doe m (fun o=>o=10) f.f.toNat):=by
 have hlt:=(EG.1 hf).1
 have low:∀ {P:Int->Prop} {g:DFrame},fu s=some g->Doe m P g.f.toNat->Doe m P f.f.toNat:=fun ht hd =>
  .under hQ.st (s.stack.length - 1 - k) k f _ hf (by rw [show k + (s.stack.length - 1 - k)=s.stack.length - 1 by omega]; exact ht) hd
 obtain ⟨h1,h2⟩:=AF hM hQ
 exact ⟨h1.imp id fun ⟨g,hg,hd⟩=>low hg hd,h2.imp id fun ⟨g,hg,hd⟩=>low hg hd⟩
theorem xd {m:DMod} {s:DMach} (hM:bB m) (hQ:cn m s) (w:Int) {f0:DFrame} (ht:fu s=some f0) (h0:Thr m f0.f.toNat):∀ (k:Nat) (f:DFrame),s.stack[k]? = some f->(aN m s w).stack.length<=k->Thr m f.f.toNat:=by
 have hpos:=(EG.1 ht).1
 intro k f hf hk
 have hlt:=(EG.1 hf).1
 have top:k=s.stack.length - 1->Thr m f.f.toNat:=fun e=>by
  subst e
  have:fu s=some f:=hf
  rw [ht] at this
  cases this
  exact h0
 unfold aN at hk
 split at hk
 ·split at hk
  ·omega
  ·rename_i k0 hk0
   have hk1:=(AX hk0)
   split at hk
   ·omega
   ·rename_i f' _
    have hkk:k0 < k:=by
     simp [cV] at hk
     omega
    have down:∀ (d j:Nat) (g:DFrame),j + d=s.stack.length - 1->k0 < j->s.stack[j]? = some g->Thr m g.f.toNat:=by
     intro d
     induction d with
     | zero =>
      intro j g hj _ hg
      have hj:j=s.stack.length - 1:=by omega
      subst hj
      have:fu s=some g:=hg
      rw [ht] at this
      cases this
      exact h0
     | succ d ih =>
      intro j g hj hkj hg
      obtain ⟨g1,hg1⟩:∃ g1,s.stack[j + 1]? = some g1:=⟨_,EH (by omega)⟩
      have h1:=ih (j + 1) g1 (by omega) (by omega) hg1
      obtain ⟨u,b,hu,hb,⟨hat,h4,he⟩ | ⟨_,x,hx,h11,he⟩⟩:=hQ.st.2 j g g1 hg hg1
      ·obtain ⟨_,pb,hpb,_⟩:=nV hM hu hb h4
       refine .inv hu hb h4 hpb ?_ (by rw [he]; exact h1)
       have hno:=yq hk0 j hkj (by omega)
       cases hall:pb.pad.all with
       | false=>rfl
       | true=>exact absurd ⟨g,by rw [List.getElem?_take,if_pos (by omega)]; exact hg,u,b,pb,hu,hb,hat,h4,hpb,.inl (.inl hall)⟩ hno
      ·exact .call hu hb hx h11 (by rw [he]; exact h1)
    exact down (s.stack.length - 1 - k) k f (by omega) hkk hf
 ·refine top ?_
  simp [bR] at hk
  omega
end Go.Ab.T12
end
section
set_option maxRecDepth 100000
namespace Go.Ab
def s9 (m:DMod) (s:DMach):Prop:=∃ f b,fu s=some f/\bG m f=some b/\f.at_=b.ins.length/\(b.fin.kind=5\/b.fin.kind=6)
theorem Cs {m:DMod} {l:List Int} {P:Int->Prop} (h:∀ o,P o ↔ o ∈ l) {n:Nat} (hd:Doe m P n):Doe m (fun o=>o ∈ l) n:=by
 have:P=fun o=>o ∈ l:=funext fun o=>propext (h o)
 rw [<- this]
 exact hd
end Go.Ab
namespace Go.Ab.T12
open Go Go.Ab Go.Proofs
theorem vr {m:DMod} {s:DMach} (hd:s.done=0) (ht:s9 m s):∃ w f,dc m s=aN m s w/\fu s=some f/\Thr m f.f.toNat:=by
 obtain ⟨f,b,h1,h2,h3,h4⟩:=ht
 have hthr:Thr m f.f.toNat:=by
  unfold bG at h2
  cases hu:m.funcs[f.f.toNat]? with
  | none=>rw [hu] at h2; cases h2
  | some u=>rw [hu] at h2; exact .thr hu h2 h4
 rcases h4 with h5 | h6
 ·refine ⟨reg f b.fin.a,f,?_,h1,hthr⟩
  unfold dc
  rw [if_neg (by omega),h1]
  simp only [h2]
  rw [if_pos h3,if_neg (by omega),if_neg (by omega),if_pos h5]
 ·refine ⟨f.fly,f,?_,h1,hthr⟩
  unfold dc
  rw [if_neg (by omega),h1]
  simp only [h2]
  rw [if_pos h3,if_neg (by omega),if_neg (by omega),if_neg (by omega),if_pos h6]
section
variable {m:DMod} {y wo wt ww:TV} {Fo Ft Fw:List Bool} (hm:RMod (some false) [y] m) (hM:bB m)
 (hou:RBools (some true) wo Fo) (hte:RBools (some true) wt Ft) (hwr:RBools (some true) ww Fw)
 (lo:Fo.length=m.funcs.length) (lt:Ft.length=m.funcs.length) (lw:Fw.length=m.funcs.length)
 (ho:∀ k:Nat,Fo[k]? = some true ↔ Thr m k) (ht:∀ k:Nat,Ft[k]? = some true ↔ Doe m (fun o=>o ∈ ([12,13]:List Int)) k) (hw:∀ k:Nat,Fw[k]? = some true ↔ Doe m (fun o=>o ∈ ([10]:List Int)) k)
include hm hM hou hte hwr lo lt lw ho ht hw
theorem vU {i:Nat} {s t:DMach} {z:Bool} (hQ:cn m s) (hd:s.done=0) (hst:t=dc m s) (hz:z=true->s9 m s)
  {g iv v gt it vt:TV} (hg:RStack g s.stack) (hv:RInts (some true) v s.events) (hoS:s.ok) (hgt:RStack gt t.stack) (hv2:RInts (some true) vt t.events) (hoT:t.ok)
  (rest:aa prog 4 (f4_0 (I (i + 1:Nat)) y (W (t.c 0)) (W (t.c 1)) (W (t.c 2)) (W (t.c 3)) (W (t.c 4)) (W (t.c 5)) (W (t.c 6)) (W (t.c 7)) (W (t.c 8)) (W (t.c 9)) (W (t.c 10)) (W (t.c 11)) (W (t.c 12)) (W (t.c 13)) (W (t.c 14)) (W (t.c 15)) (I t.done) (W t.value) wo wt ww gt TV.hole TV.hole TV.hole TV.hole TV.hole TV.hole TV.hole TV.hole TV.hole TV.hole TV.hole TV.hole TV.hole TV.hole TV.hole TV.hole it vt TV.hole TV.hole TV.hole) (B true)) (hi:i < 1000) :
  ∀ (d k:Nat),k + d=s.stack.length->aa prog 4 (f4_2 (I i) (B z) (I k) y (W (s.c 0)) (W (s.c 1)) (W (s.c 2)) (W (s.c 3)) (W (s.c 4)) (W (s.c 5)) (W (s.c 6)) (W (s.c 7)) (W (s.c 8)) (W (s.c 9)) (W (s.c 10)) (W (s.c 11)) (W (s.c 12)) (W (s.c 13)) (W (s.c 14)) (W (s.c 15)) (I s.done) (W s.value) wo wt ww
   (W (t.c 0)) (W (t.c 1)) (W (t.c 2)) (W (t.c 3)) (W (t.c 4)) (W (t.c 5)) (W (t.c 6)) (W (t.c 7)) (W (t.c 8)) (W (t.c 9)) (W (t.c 10)) (W (t.c 11)) (W (t.c 12)) (W (t.c 13)) (W (t.c 14)) (W (t.c 15)) (I t.done) (W t.value)
   g TV.hole TV.hole TV.hole TV.hole TV.hole TV.hole TV.hole TV.hole TV.hole TV.hole TV.hole TV.hole TV.hole TV.hole TV.hole TV.hole iv v TV.hole TV.hole TV.hole gt TV.hole TV.hole TV.hole TV.hole TV.hole TV.hole TV.hole TV.hole TV.hole TV.hole TV.hole TV.hole TV.hole TV.hole TV.hole TV.hole it vt TV.hole TV.hole TV.hole) (B true):=by
 have hN:=hM.1
 have h32:=hQ.2.1
 intro d
 induction d with
 | zero =>
  intro k hk
  have hk:k=s.stack.length:=by omega
  subst hk
  unfold f4_2
  exact aa.tv hg.len (aa.tv rfl (aa.ite bg nofun fun _=>aa.tv (inc (n:=1000) hi (by omega)) (f4_0_J rest)))
 | succ d ih =>
  intro k hk
  have hkl:k < s.stack.length:=by omega
  have hf:=EH hkl
  generalize s.stack[k]=f at hf
  obtain ⟨hf0,u,hu,_⟩:=hQ.2.2.2.1 k f hf
  have hn:=(EG.1 hu).1
  obtain ⟨gr,hrow,_,_,_⟩:=hg.row hf
  have ank:aj (I (k:Int))=some k:=bh (by omega)
  have anf:aj (I f.f)=some f.f.toNat:=asNatZ hf0 (by omega)
  have next:=ih (k + 1) (by omega)
  have hinc:pbin (.int .i64) .add (I (k:Int)) (I (1:Int))=some (I ((k + 1:Nat):Int)):=inc hkl (by omega)
  have go:=EH (show f.f.toNat < Fo.length by omega)
  have gte:=EH (show f.f.toNat < Ft.length by omega)
  have gw:=EH (show f.f.toNat < Fw.length by omega)
  generalize Fo[f.f.toNat]'(by omega)=zo at go
  generalize Ft[f.f.toNat]'(by omega)=zt at gte
  generalize Fw[f.f.toNat]'(by omega)=zw at gw
  obtain ⟨eo,hpo,hRo⟩:=hou.pel go
  obtain ⟨et,hpt,hRt⟩:=hte.pel gte
  obtain ⟨ew,hpw,hRw⟩:=hwr.pel gw
  rw [show eo=[B zo] from hRo] at hpo
  rw [show et=[B zt] from hRt] at hpt
  rw [show ew=[B zw] from hRw] at hpw
  have cko:(slSize wo 1 && Nat.blt f.f.toNat Fo.length)=true:=by rw [hou.slSize,lo,Bc hn]; rfl
  have ckt:(slSize wt 1 && Nat.blt f.f.toNat Ft.length)=true:=by rw [hte.slSize,lt,Bc hn]; rfl
  have ckw:(slSize ww 1 && Nat.blt f.f.toNat Fw.length)=true:=by rw [hwr.slSize,lw,Bc hn]; rfl
  obtain ⟨he1,he2⟩:=yw hM hQ hf
  rw [<- hst] at he1 he2
  have hev:(!zt)=true->asBool (.lit (.bool ((t.events.length:Int) != (s.events.length:Int))))=some false:=fun h=>by
   have hno:zt=false:=by cases zt with | false=>rfl | true=>cases h
   rcases he1 with h1 | h1
   ·rw [h1]; simp [asBool]
   ·have:=(ht _).2 (Cs (fun o=>by simp) h1)
    rw [gte,hno] at this
    cases this
  have hpeq:(!zw)=true->qq .u16 .neq [W (t.c 0),W (t.c 1),W (t.c 2),W (t.c 3),W (t.c 4),W (t.c 5),W (t.c 6),W (t.c 7),W (t.c 8),W (t.c 9),W (t.c 10),W (t.c 11),W (t.c 12),W (t.c 13),W (t.c 14),W (t.c 15)] [W (s.c 0),W (s.c 1),W (s.c 2),W (s.c 3),W (s.c 4),W (s.c 5),W (s.c 6),W (s.c 7),W (s.c 8),W (s.c 9),W (s.c 10),W (s.c 11),W (s.c 12),W (s.c 13),W (s.c 14),W (s.c 15)]=some (B false):=fun h=>by
   have hno:zw=false:=by cases zw with | false=>rfl | true=>cases h
   rw [peq16 hoT.1 hoS.1]
   rcases he2 with h1 | h1
   ·rw [h1]; simp
   ·have:=(hw _).2 (Cs (fun o=>by simp) h1)
    rw [gw,hno] at this
    cases this
  unfold f4_2
  refine aa.tv hg.len (aa.tv rfl (aa.ite (a7 hkl) (fun _=>?_) nofun))
  refine aa.nat hg.slLen (aa.nat ank (aa.chk (by rw [hg.slSize,Bc hkl]; rfl) (aa.tvs hrow (aa.chk rfl (aa.ite rfl (fun hzt=>?_) fun _=>?_)))))
  ·refine aa.tv hgt.len (aa.tv rfl (aa.ite rfl (fun hge=>?_) fun _=>?_))
   ·have hge:t.stack.length<=k:=by
     have:=of_decide_eq_true hge
     omega
    have hthr:Thr m f.f.toNat:=by
     obtain ⟨w,f0,e1,e2,e3⟩:=vr hd (hz hzt)
     rw [hst,e1] at hge
     exact xd hM hQ w e2 e3 k f hf hge
    have hzo:zo=true:=by
     have:=(ho _).2 hthr
     rw [go] at this
     exact Option.some.inj this
    refine aa.nat hou.slLen (aa.nat anf (aa.chk cko (aa.tvs hpo (aa.chk rfl (aa.tv rfl (aa.ite (v:=!zo) rfl (fun h=>?_) fun _=>?_))))))
    ·rw [hzo] at h; cases h
    ·refine aa.nat hte.slLen (aa.nat anf (aa.chk ckt (aa.tvs hpt (aa.chk rfl (aa.tv rfl (aa.ite (v:=!zt) rfl (fun hz=>?_) fun _=>?_))))))
     ·refine aa.tv hv2.len (aa.tv hv.len (aa.tv rfl (aa.ite (v:=false) (hev hz) nofun fun _=>?_)))
      refine aa.nat hwr.slLen (aa.nat anf (aa.chk ckw (aa.tvs hpw (aa.chk rfl (aa.tv rfl (aa.ite (v:=!zw) rfl (fun hz=>?_) fun _=>aa.tv hinc (f4_2_J next)))))))
      exact aa.tv (hpeq hz) (aa.ite (v:=false) rfl nofun fun _=>aa.tv hinc (f4_2_J next))
     ·refine aa.nat hwr.slLen (aa.nat anf (aa.chk ckw (aa.tvs hpw (aa.chk rfl (aa.tv rfl (aa.ite (v:=!zw) rfl (fun hz=>?_) fun _=>aa.tv hinc (f4_2_J next)))))))
      exact aa.tv (hpeq hz) (aa.ite (v:=false) rfl nofun fun _=>aa.tv hinc (f4_2_J next))
   ·refine aa.nat hte.slLen (aa.nat anf (aa.chk ckt (aa.tvs hpt (aa.chk rfl (aa.tv rfl (aa.ite (v:=!zt) rfl (fun hz=>?_) fun _=>?_))))))
    ·refine aa.tv hv2.len (aa.tv hv.len (aa.tv rfl (aa.ite (v:=false) (hev hz) nofun fun _=>?_)))
     refine aa.nat hwr.slLen (aa.nat anf (aa.chk ckw (aa.tvs hpw (aa.chk rfl (aa.tv rfl (aa.ite (v:=!zw) rfl (fun hz=>?_) fun _=>aa.tv hinc (f4_2_J next)))))))
     exact aa.tv (hpeq hz) (aa.ite (v:=false) rfl nofun fun _=>aa.tv hinc (f4_2_J next))
    ·refine aa.nat hwr.slLen (aa.nat anf (aa.chk ckw (aa.tvs hpw (aa.chk rfl (aa.tv rfl (aa.ite (v:=!zw) rfl (fun hz=>?_) fun _=>aa.tv hinc (f4_2_J next)))))))
     exact aa.tv (hpeq hz) (aa.ite (v:=false) rfl nofun fun _=>aa.tv hinc (f4_2_J next))
  ·refine aa.nat hte.slLen (aa.nat anf (aa.chk ckt (aa.tvs hpt (aa.chk rfl (aa.tv rfl (aa.ite (v:=!zt) rfl (fun hz=>?_) fun _=>?_))))))
   ·refine aa.tv hv2.len (aa.tv hv.len (aa.tv rfl (aa.ite (v:=false) (hev hz) nofun fun _=>?_)))
    refine aa.nat hwr.slLen (aa.nat anf (aa.chk ckw (aa.tvs hpw (aa.chk rfl (aa.tv rfl (aa.ite (v:=!zw) rfl (fun hz=>?_) fun _=>aa.tv hinc (f4_2_J next)))))))
    exact aa.tv (hpeq hz) (aa.ite (v:=false) rfl nofun fun _=>aa.tv hinc (f4_2_J next))
   ·refine aa.nat hwr.slLen (aa.nat anf (aa.chk ckw (aa.tvs hpw (aa.chk rfl (aa.tv rfl (aa.ite (v:=!zw) rfl (fun hz=>?_) fun _=>aa.tv hinc (f4_2_J next)))))))
    exact aa.tv (hpeq hz) (aa.ite (v:=false) rfl nofun fun _=>aa.tv hinc (f4_2_J next))
theorem yC:∀ (d i:Nat) (s:DMach) (g iv v:TV),i + d=150->cn m s->RStack g s.stack->RWords (some true) iv s.inputs->RInts (some true) v s.events->s.ok->s.inputs.length<=30->s.events.length<=i ->
  aa prog 4 (f4_0 (I i) y (W (s.c 0)) (W (s.c 1)) (W (s.c 2)) (W (s.c 3)) (W (s.c 4)) (W (s.c 5)) (W (s.c 6)) (W (s.c 7)) (W (s.c 8)) (W (s.c 9)) (W (s.c 10)) (W (s.c 11)) (W (s.c 12)) (W (s.c 13)) (W (s.c 14)) (W (s.c 15)) (I s.done) (W s.value) wo wt ww g TV.hole TV.hole TV.hole TV.hole TV.hole TV.hole TV.hole TV.hole TV.hole TV.hole TV.hole TV.hole TV.hole TV.hole TV.hole TV.hole iv v TV.hole TV.hole TV.hole) (B true):=by
 have hy:RL (some false) 3 (RFunc (some false)) y m.funcs:=by
  obtain ⟨b,h,hb⟩:=hm
  cases h
  exact hb
 intro d
 induction d with
 | zero =>
  intro i s g iv v hi
  have hi:i=150:=by omega
  subst hi
  intros
  unfold f4_0
  exact aa.tv rfl (aa.ite (v:=false) rfl nofun fun _=>aa.ret)
 | succ d ih =>
  intro i s g iv v hi hQ hg hiv hv hoS hin hevn
  have hil:i < 150:=by omega
  have hlt:asBool (.lit (.bool (decide ((i:Int) < 150))))=some true:=by simp [asBool]; omega
  by_cases hd:s.done=0
  case neg =>
   unfold f4_0
   exact aa.tv rfl (aa.ite hlt (fun _=>aa.tv rfl (aa.ite kF (fun h=>absurd (of_decide_eq_true h) hd) fun _=>aa.ret)) nofun)
  have h32:=hQ.2.1
  have h0:=hQ.2.2.1 hd
  have hf:=EH (show s.stack.length - 1 < s.stack.length by omega)
  generalize s.stack[s.stack.length - 1]=f at hf
  obtain ⟨hf0,u,hu,hL,hb0,b,hb,ha0,ha1⟩:=hQ.2.2.2.1 _ f hf
  obtain ⟨gr,hrow,_,hgr,hfo⟩:=hg.row hf
  have hsub:pbin (.int .i64) .sub (I (s.stack.length:Int)) (I 1)=some (I ((s.stack.length - 1:Nat):Int)):=by
   rw [psub ⟨by omega,by omega⟩]
   congr 3
   omega
  have sz:(Bool.and (Go.Ab.slSize g 5) (Nat.blt (s.stack.length - 1) s.stack.length))=true:=by rw [hg.slSize,Bc (by omega)]; rfl
  obtain ⟨eu,heu,bl,rfl,hbl,_⟩:=hy.bv (k:=.i64) hf0 hu
  obtain ⟨eb,heb,hRb⟩:=hbl.bv (k:=.i64) hb0 hb
  obtain ⟨c2,c5,c10,rfl,h2,_,h5,_⟩:=hRb
  have hsz:=RMach.frz' (hg.weak fun _ _ h=>h.weak) (hiv.weak fun _ _ h=>h) (hv.weak fun _ _ h=>h) hoS
  obtain ⟨e1,hr1,h1⟩:=wc hm hM hsz hQ (by omega) (by omega)
  have hQ':=yf hM hQ
  have htell:=AR (m:=m) (s:=s) (gX.words (e:=au s g iv v) ⟨g,iv,v,rfl,hg,hiv,hv,hoS⟩)
  have hf1:=h1.fit
  obtain ⟨t,hst⟩:∃ t,t=dc m s:=⟨_,rfl⟩
  rw [<- hst] at h1 hQ' htell
  obtain ⟨g2,i2,v2,rfl,hg2,hi2,hv2,ho2⟩:=h1
  have hev2:t.events.length<=s.events.length + 1/\t.inputs.length<=s.inputs.length:=by
   rcases htell with ⟨h1,h2⟩ | ⟨a,_,h1,h2⟩ | ⟨a,l',h0,h1,h2⟩
   ·rw [h1,h2]; omega
   ·rw [h1,h2]; simp
   ·rw [h1,h2,h0]; simp
  have rest:=ih (i + 1) t g2 i2 v2 (by omega) hQ' hg2 hi2 hv2 ho2 (by omega) (by omega)
  have one:∀ z:Bool,(z=true->s9 m s)->aa prog 4 (f4_1 (I i) (B z) y (W (s.c 0)) (W (s.c 1)) (W (s.c 2)) (W (s.c 3)) (W (s.c 4)) (W (s.c 5)) (W (s.c 6)) (W (s.c 7)) (W (s.c 8)) (W (s.c 9)) (W (s.c 10)) (W (s.c 11)) (W (s.c 12)) (W (s.c 13)) (W (s.c 14)) (W (s.c 15)) (I s.done) (W s.value) wo wt ww g TV.hole TV.hole TV.hole TV.hole TV.hole TV.hole TV.hole TV.hole TV.hole TV.hole TV.hole TV.hole TV.hole TV.hole TV.hole TV.hole iv v TV.hole TV.hole TV.hole) (B true):=by
   intro z hz
   have hfr:=vU hm hM hou hte hwr lo lt lw ho ht hw (iv:=iv) hQ hd hst hz hg hv hoS hg2 hv2 ho2 rest (by omega) s.stack.length 0 (by omega)
   unfold f4_1
   exact aa.call hr1 (aa.chk rfl (aa.chk hf1 (aa.chk rfl (aa.tv rfl (aa.ite (v:=false) rfl nofun fun _=>f4_2_J hfr)))))
  have hbo:bG m f=some b:=by
   unfold bG
   rw [hu]
   exact hb
  unfold f4_0
  refine aa.tv rfl (aa.ite hlt (fun _=>aa.tv rfl (aa.ite kF (fun _=>?_) fun h=>absurd hd (of_decide_eq_false h))) nofun)
  refine aa.tv hg.len (aa.tv hsub (aa.nat hg.slLen (aa.nat (bh (by omega)) (aa.chk sz (aa.tvs hrow (aa.chk (bW hgr.isSl) ?_))))))
  refine aa.tvs heu (aa.chk rfl (aa.tvs heb (aa.chk rfl (aa.tv h5.len (aa.tv rfl (aa.ite kF (fun hat=>?_) fun _=>f4_1_J (one false nofun)))))))
  have hat:=of_decide_eq_true hat
  refine aa.tv rfl (aa.ite kF (fun h5'=>f4_1_J (one true fun _=>⟨f,b,hf,hbo,hat,.inl (of_decide_eq_true h5')⟩)) fun _=>?_)
  exact aa.tv (v:=B (b.fin.kind == 6)) rfl (f4_1_J (one _ fun h=>⟨f,b,hf,hbo,hat,.inr (by simpa using h)⟩))
end
theorem rThrowsSound {e:List TV} {x:TV} {m:DMod} {l:List Int} (hm:RMod (some false) e m) (hx:RWords (some false) x l):ap prog 4 [.agg e,x] (B true):=by
 obtain ⟨b,hsm,hsb⟩:=rSmall hm hx
 have hm':=hm
 obtain ⟨y,rfl,hy⟩:=hm
 refine ap.of (f4_MR _ _) ?_
 unfold f4_M
 refine aa.chk rfl (aa.call B0 (aa.chk rfl (aa.tv rfl (aa.ite (v:=false) rfl nofun fun _=>aa.call hsm (aa.chk rfl (aa.tv rfl (aa.ite rfl (fun _=>aa.ret) fun h=>?_)))))))
 have hb:b=true:=by simpa using h
 obtain ⟨_,hl⟩:=hsb hb
 obtain ⟨e2,hq2,h2⟩:=CD hm' hx (by omega)
 by_cases hM:bB m
 case neg =>
  rw [if_neg hM] at hq2 h2
  exact aa.call hq2 (aa.chk rfl (aa.chk h2.fit (aa.chk rfl (aa.tv rfl (aa.ite (v:=true) rfl (fun _=>aa.ret) nofun)))))
 rw [if_pos hM] at hq2 h2
 have hN:=hM.1
 have hQ:=xH (inputs:=l) hM
 have hfit2:=h2.fit
 obtain ⟨y1,F1,a1,a2,a3,a4⟩:=rOut hm' hM
 obtain ⟨y2,F2,b1,b2,b3,b4⟩:=rTells hm' hM
 obtain ⟨y3,F3,c1,c2,c3,c4⟩:=D6 hm' hM
 have hin:(mQ m l).inputs.length<=30:=hl
 have hev:(mQ m l).events.length<=0:=Nat.le_refl 0
 generalize mQ m l=s at h2 hQ hin hev hq2
 obtain ⟨g,i,v,rfl,hg,hi,hv,ho⟩:=h2
 have neqN:∀ {a c:Nat},a=c->asBool (.lit (.bool ((a:Int) != (c:Int))))=some false:=fun h=>by subst h; simp [asBool]
 refine aa.call hq2 (aa.chk rfl (aa.chk hfit2 (aa.chk rfl (aa.tv rfl (aa.ite (v:=false) rfl nofun fun _=>?_)))))
 refine aa.call a1 (aa.chk (vn a2.isSl) (aa.call b1 (aa.chk (vn b2.isSl) (aa.call c1 (aa.chk (vn c2.isSl) ?_)))))
 refine aa.tv a2.len (aa.tv hy.len (aa.tv rfl (aa.ite (neqN a3) nofun fun _=>?_)))
 refine aa.tv b2.len (aa.tv hy.len (aa.tv rfl (aa.ite (neqN b3) nofun fun _=>?_)))
 refine aa.tv c2.len (aa.tv hy.len (aa.tv rfl (aa.ite (neqN c3) nofun fun _=>?_)))
 exact f4_0_J (yC hm' hM a2 b2 c2 a3 b3 c3 a4 b4 c4 150 0 s g i v (by omega) hQ hg hi hv ho hin hev)
end Go.Ab.T12
end
section
namespace Go.Ab
open Go.RowKit
theorem aO {α:Type} (d:α):∀ (l:List α) (n:Nat),nth d l n=(l[n]?).getD d
 | [],n=>by simp [nth]
 | a :: l,0=>rfl
 | a :: l,n + 1=>by simp [nth,aO d l n]
theorem ai {α:Type}:∀ (l:List α) (n:Nat) (b:α),ao l n b=l.set n b
 | [],n,b=>by simp [ao]
 | a :: l,0,b=>rfl
 | a :: l,n + 1,b=>by simp [ao,ai l n b]
theorem bQ {α:Type} {d:α} {l:List α} {n:Nat} {a:α} (h:l[n]? = some a):nth d l n=a:=by rw [aO,h]; rfl
theorem aB (a b:Nat):a.beq b=true ↔ a=b:=⟨Nat.eq_of_beq_eq_true,fun h=>h ▸ Nat.beq_refl a⟩
theorem cq (n:Nat):∀ l:List Nat,bU n l=true ↔ n ∈ l
 | []=>by simp [bU]
 | a :: l => by
  cases h:a.beq n
  ·have:a≠n:=fun e=>by simp [e] at h
   simp only [bU,h,cond_false,cq n l,List.mem_cons]
   constructor
   ·exact .inr
   ·rintro (e | e)
    ·exact absurd e.symm this
    ·exact e
  ·simp only [bU,h,cond_true,List.mem_cons,true_iff]
   exact .inl ((aB a n).1 h).symm
theorem fh (a:Addr) (k:Nat):(a.add k).block=a.block:=by unfold Addr.add; split <;> rfl
theorem eQ (a:Addr) (i j:Nat):(a.add i).add j=a.add (i + j):=by
 unfold Addr.add
 by_cases hi:i=0 <;> by_cases hj:j=0 <;> simp [hi,hj,Nat.add_assoc]
theorem en (b o k:Nat):(⟨b,o,none⟩:Addr).add k=⟨b,o + k,none⟩:=by unfold Addr.add; split <;> simp_all
def spl {α:Type} (l:List α) (o:Nat) (ys:List α):List α:=l.take o ++ ys ++ l.drop (o + ys.length)
theorem ir {α:Type} {l ys:List α} {o:Nat} (h:o + ys.length<=l.length):(spl l o ys).length=l.length:=by
 simp only [spl,List.length_append,List.length_take,List.length_drop]
 omega
theorem cK {α:Type} {l ys:List α} {o:Nat} (h:o + ys.length<=l.length) (k:Nat):(spl l o ys)[k]? = if o<=k/\k < o + ys.length then ys[k - o]? else l[k]? := by
 have e1:(l.take o).length=o:=by simp; omega
 unfold spl
 by_cases h1:k < o
 ·rw [List.append_assoc,EQ (by omega),List.getElem?_take,if_pos h1,if_neg (by omega)]
 ·by_cases h2:k < o + ys.length
  ·rw [List.append_assoc,ER (by omega),e1,EQ (by omega),if_pos (by omega)]
  ·rw [ER (by simp; omega),List.getElem?_drop,if_neg (by omega)]
   congr 1
   simp
   omega
theorem fj {α:Type}:∀ (ps l:List α) (off:Nat),off + ps.length<=l.length->bi l off ps=spl l off ps
 | [],l,off,h=>by simp [bi,spl]
 | p :: ps, l, off, h => by
  have hlt:off < l.length:=by simp at h; omega
  simp only [bi]
  rw [ai,fj ps (l.set off p) (off + 1) (by simp at h ⊢; omega)]
  apply List.ext_getElem?
  intro k
  rw [cK (by simp at h ⊢; omega),cK h]
  simp only [List.length_cons,List.getElem?_set]
  by_cases h1:k < off
  ·rw [if_neg (by omega),if_neg (by omega),if_neg (by omega)]
  ·by_cases h2:k=off
   ·subst h2
    rw [if_neg (by omega),if_pos (by omega)]
    simp [hlt]
   ·by_cases h3:k < off + (ps.length + 1)
    ·rw [if_pos (by omega),if_pos (by omega)]
     rw [show k - off=(k - (off + 1)) + 1 by omega,List.getElem?_cons_succ]
    ·rw [if_neg (by omega),if_neg (by omega),if_neg (by omega)]
theorem fb {α:Type}:∀ (l:List α) (o n:Nat) (r:List α),kK l o n=some r->r.length=n/\(n=0\/o + n<=l.length)/\∀ j,j < n->r[j]? = l[o + j]?
 | l,o,0,r,h=>by cases l <;> simp [kK] at h <;> subst h <;> simp
 | [],o,n + 1,r,h=>by simp [kK] at h
 | a :: l, 0, n + 1, r, h => by
  simp only [kK] at h
  cases h1:kK l 0 n with
  | none=>simp [h1] at h
  | some r' =>
   simp only [h1,EI] at h
   subst h
   obtain ⟨i1,i2,i3⟩:=fb l 0 n r' h1
   refine ⟨by simp [i1],.inr (by simp; omega),fun j hj=>?_⟩
   cases j with
   | zero=>simp
   | succ j=>simpa using i3 j (by omega)
 | a :: l,o + 1,n + 1,r,h=>by
  simp only [kK] at h
  obtain ⟨i1,i2,i3⟩:=fb l o (n + 1) r h
  refine ⟨i1,.inr (by rcases i2 with i2 | i2 <;> simp <;> omega),fun j hj=>?_⟩
  rw [i3 j hj,show o + 1 + j=(o + j) + 1 by omega,List.getElem?_cons_succ]
theorem cp {α:Type} {s:Nat}:∀ {xs:List (List α)},(∀ x ∈ xs,x.length=s)->xs.flatten.length=xs.length * s
 | [],_=>by simp
 | x :: xs,h=>by
  simp only [List.flatten_cons,List.length_append,List.length_cons,h x EN,cp (fun y hy=>h y (EO _ hy)),Nat.add_mul]
  omega
theorem fO {α:Type} {s:Nat}:∀ {xs:List (List α)} {i j:Nat} {x:List α} {c:α},(∀ x ∈ xs,x.length=s)->xs[i]? = some x->x[j]? = some c->xs.flatten[i * s + j]? = some c
 | x :: xs,0,j,_,c,h,hi,hj=>by
  simp at hi
  subst hi
  rw [List.flatten_cons,EQ (by simp; exact (EG.1 hj).1)]
  simpa using hj
 | x :: xs,i + 1,j,y,c,h,hi,hj=>by
  simp at hi
  have hx:=h x EN
  rw [List.flatten_cons,ER (by rw [hx,Nat.add_mul]; omega),hx,show (i + 1) * s + j - s=i * s + j by rw [Nat.add_mul]; omega]
  exact fO (fun z hz=>h z (EO _ hz)) hi hj
theorem take_add {α:Type} {x l:List α} {s n:Nat} (h:x.length=s):(x ++ l).take (s + n)=x ++ l.take n:=by
 subst h
 exact List.take_length_add_append n
theorem wq {α:Type} {x l:List α} {s n:Nat} (h:x.length=s):(x ++ l).drop (s + n)=l.drop n:=by
 subst h
 exact List.drop_length_add_append n
theorem o1 (n s:Nat):(n + 1) * s=s + n * s:=by rw [Nat.add_mul]; omega
theorem oX {α:Type} {s:Nat}:∀ {xs:List (List α)} (n:Nat),(∀ x ∈ xs,x.length=s)->(xs.take n).flatten=xs.flatten.take (n * s)
 | [],n,_=>by simp
 | x :: xs,0,_=>by simp
 | x :: xs,n + 1,h=>by
  have hx:=h x EN
  rw [List.take_succ_cons,List.flatten_cons,List.flatten_cons,oX n (fun z hz=>h z (EO _ hz)),o1,take_add hx]
theorem oE {α:Type} {s:Nat}:∀ {xs:List (List α)} (n:Nat),(∀ x ∈ xs,x.length=s)->(xs.drop n).flatten=xs.flatten.drop (n * s)
 | [],n,_=>by simp
 | x :: xs,0,_=>by simp
 | x :: xs,n + 1,h=>by
  have hx:=h x EN
  rw [List.drop_succ_cons,List.flatten_cons,oE n (fun z hz=>h z (EO _ hz)),o1,wq hx]
theorem wE {α:Type} {s:Nat}:∀ {xs:List (List α)} {i:Nat} {x y:List α},(∀ x ∈ xs,x.length=s)->xs[i]? = some x->y.length=s->(xs.set i y).flatten=spl xs.flatten (i * s) y
 | x :: xs,0,_,y,h,hi,hy=>by
  simp at hi
  subst hi
  have hx:=h x EN
  simp only [List.set_cons_zero,List.flatten_cons,Nat.zero_mul,spl,List.take_zero,List.nil_append,Nat.zero_add,hy,List.drop_append,hx,Nat.sub_self,List.drop_zero]
  rw [List.drop_of_length_le (by omega),List.nil_append]
 | x :: xs,i + 1,z,y,h,hi,hy=>by
  simp at hi
  have hx:=h x EN
  have ih:=wE (fun z hz=>h z (EO _ hz)) hi hy
  simp only [List.set_cons_succ,List.flatten_cons,ih,spl,o1,take_add hx,hy]
  rw [show s + i * s + s=s + (i * s + s) by omega,wq hx]
  simp only [List.append_assoc]
theorem zR {α:Type} {s:Nat} {xs:List (List α)} {i:Nat} {y:List α} (h:∀ x ∈ xs,x.length=s) (hy:y.length=s):∀ x ∈ xs.set i y,x.length=s:=by
 intro x hx
 rcases List.mem_or_eq_of_mem_set hx with h' | h'
 ·exact h x h'
 ·rw [h']; exact hy
theorem wK {α:Type} {s:Nat} {xs:List (List α)} {i j:Nat} {x ys:List α} (h:∀ x ∈ xs,x.length=s) (hi:xs[i]? = some x) (hj:j + ys.length<=x.length) :
  (xs.set i (spl x j ys)).flatten=spl xs.flatten (i * s + j) ys/\i * s + j + ys.length<=xs.flatten.length:=by
 have hx:=h x (EP hi)
 have hlt:i < xs.length:=(EG.1 hi).1
 have hle:i * s + s<=xs.flatten.length:=by
  rw [cp h]
  have:=Nat.mul_le_mul_right s (Nat.succ_le_of_lt hlt)
  rw [Nat.succ_mul] at this
  exact this
 refine ⟨?_,by omega⟩
 rw [wE h hi (by rw [ir hj,hx])]
 apply List.ext_getElem?
 intro k
 rw [cK (l:=xs.flatten) (ys:=spl x j ys) (by rw [ir hj]; omega),cK (l:=xs.flatten) (ys:=ys) (by omega),ir hj,hx]
 by_cases h1:i * s<=k/\k < i * s + s
 ·rw [if_pos h1,cK hj]
  by_cases h2:j<=k - i * s/\k - i * s < j + ys.length
  ·rw [if_pos h2,if_pos (by omega)]
   congr 1
   omega
  ·rw [if_neg h2,if_neg (by omega)]
   have hk:k - i * s < x.length:=by omega
   have:=fO h hi (EH hk)
   rw [show i * s + (k - i * s)=k by omega] at this
   rw [this,EH hk]
 ·rw [if_neg h1,if_neg (by omega)]
inductive Rep (w:World) (I:Nat->Prop):TV->Value->Prop
 | lit (v:Value):Rep w I (.lit v) v
 | hole (v:Value):Rep w I .hole v
 | buf {s:ByteArray} (e:TypeId) (h:s.size=0):Rep w I (.buf s e) aV
 | sl {size : Nat} {xs : List (List TV)} {a : Addr} {cap : Nat} (cell : Nat → Value) (hI : 0 < xs.length → I a.block) (hc : xs.length ≤ cap) (hm : cap ≤ maxLen)
   (hl:∀ x ∈ xs,x.length=size) (hcell:∀ k,k < xs.length * size->w.cell? (a.add k)=some (cell k)) (h1:∀ k,k < xs.length * size->(cell k).oneCell'=true)
   (hr:∀ (i:Nat) (x:List TV),xs[i]? = some x->∀ (j:Nat) (c:TV),x[j]? = some c->Rep w I c (cell (i * size + j))):Rep w I (.sl false size xs) (.slice (some a) xs.length cap)
 | agg {cs : List TV} {vs : Array Value} (hl : vs.size = cs.length) (h1 : ∀ j, j < vs.size → (vs.getD j undef).oneCell' = true)
   (hr:∀ (j:Nat) (c:TV),cs[j]? = some c->Rep w I c (vs.getD j undef)):Rep w I (.agg cs) (.agg vs)
 | tup {cs:List TV} {vs:Array Value} (hl:vs.size=cs.length) (hr:∀ (j:Nat) (c:TV),cs[j]? = some c->Rep w I c (vs.getD j undef)):Rep w I (.tup cs) (.tuple vs)
theorem Rep.mv {w w':World} {I I':Nat->Prop} (hh:∀ b,I b->w'.heap[b]? = w.heap[b]?) (hI:∀ b,I b->I' b) {x:TV} {v:Value} (h:Rep w I x v):Rep w' I' x v:=by
 induction h with
 | lit v=>exact .lit v
 | hole v=>exact .hole v
 | buf e h=>exact .buf e h
 | sl cell i c m l hcell h1 _ ih =>
  exact .sl cell (fun h=>hI _ (i h)) c m l (fun k hk=>by rw [<- hcell k hk]; exact World.cell?_of_block (by rw [fh]; exact hh _ (i (Nat.pos_of_ne_zero (fun e=>by simp [e] at hk))))) h1 ih
 | agg hl h1 _ ih=>exact .agg hl h1 ih
 | tup hl _ ih=>exact .tup hl ih
structure Row (w:World) (a:Addr) (n cap size:Nat) (us:List Value) (vs:Array Value) (ty:TypeId):Prop where
 heap:w.heap[a.block]? = some (.cells vs ty (0,0))
 spot:a.spot=none
 le:n<=cap
 max:cap<=maxLen
 fit:a.off + cap * size<=vs.size
 len:us.length=n * size
 cells:∀ k,k < n * size->vs[a.off + k]? = us[k]?
 one:∀ u ∈ us,u.oneCell'=true
theorem Row.cell {w:World} {a:Addr} {n cap size:Nat} {us:List Value} {vs:Array Value} {ty:TypeId} (h:Row w a n cap size us vs ty) {k:Nat} {u:Value} (hk:us[k]? = some u):w.cell? (a.add k)=some u:=by
 have hlt:k < n * size:=by rw [<- h.len]; exact (EG.1 hk).1
 have:a.add k=⟨a.block,a.off + k,none⟩:=by
  have:=h.spot
  obtain ⟨b,o,sp⟩:=a
  simp at this
  subst this
  exact en b o k
 rw [this]
 simp only [World.cell?,h.heap]
 simp only [Option.isSome_none,Bool.false_eq_true,if_false]
 rw [h.cells k hlt,hk]
inductive am (w:World) (I:Nat->Prop):TV->Value->(Nat->Prop)->Prop
 | fr {x:TV} {v:Value} {S:Nat->Prop} (h:Rep w I x v):am w I x v S
 | sl {size : Nat} {xs : List (List TV)} {a : Addr} {cap : Nat} {S : Nat → Prop} (us : List Value) (vs : Array Value) (ty : TypeId) (F : Nat → Nat → Prop) (hS : S a.block)
   (row:Row w a xs.length cap size us vs ty) (hl:∀ x ∈ xs,x.length=size) (hr:∀ (k:Nat) (c:TV),xs.flatten[k]? = some c->am w I c (us.getD k undef) (F k))
   (hF:∀ k b,F k b->S b/\b≠a.block) (hd:∀ k k' b,F k b->F k' b->k=k'):am w I (.sl true size xs) (.slice (some a) xs.length cap) S
 | agg {cs : List TV} {vs : Array Value} {S : Nat → Prop} (F : Nat → Nat → Prop) (hl : vs.size = cs.length) (h1 : ∀ j, j < vs.size → (vs.getD j undef).oneCell' = true)
   (hr:∀ (j:Nat) (c:TV),cs[j]? = some c->am w I c (vs.getD j undef) (F j)) (hF:∀ j b,F j b->S b) (hd:∀ k k' b,F k b->F k' b->k=k'):am w I (.agg cs) (.agg vs) S
 | buf {s:ByteArray} {e:TypeId} {v:Value} {S:Nat->Prop} (h:w.ownsRowF 0 e 1 v s.size (Lib.strCells s)) (hS:∀ b,v.ownBlock=some b->S b):am w I (.buf s e) v S
 | tup {cs : List TV} {vs : Array Value} {S : Nat → Prop} (F : Nat → Nat → Prop) (hl : vs.size = cs.length)
   (hr:∀ (j:Nat) (c:TV),cs[j]? = some c->am w I c (vs.getD j undef) (F j)) (hF:∀ j b,F j b->S b) (hd:∀ k k' b,F k b->F k' b->k=k'):am w I (.tup cs) (.tuple vs) S
theorem _root_.Go.World.ownsRowF.moved {w w':World} {base:Nat} {e:TypeId} {size:Nat} {v:Value} {n:Nat} {xs:List Value} (h:w.ownsRowF base e size v n xs) (hh:∀ b,v.ownBlock=some b->w'.heap[b]? = w.heap[b]?):w'.ownsRowF base e size v n xs:=by
 refine ⟨h.1,?_⟩
 rcases h.2 with hn | ⟨g,cap,cur,fz,rfl,hb,hgg,rest⟩
 ·exact .inl hn
 ·exact .inr ⟨g,cap,cur,fz,rfl,hb,by rw [hh g rfl]; exact hgg,rest⟩
theorem am.mv {w w':World} {I I':Nat->Prop} (hI:∀ b,I b->w'.heap[b]? = w.heap[b]?) (hs:∀ b,I b->I' b) {x:TV} {v:Value} {S:Nat->Prop} (h:am w I x v S) :
  ∀ {S':Nat->Prop},(∀ b,S b->w'.heap[b]? = w.heap[b]?)->(∀ b,S b->S' b)->am w' I' x v S':=by
 induction h with
 | fr h=>intro S' _ _; exact .fr (h.mv hI hs)
 | @sl size xs a cap S us vs ty F hS row hl hr hF hd ih =>
  intro S' hh hSS
  exact .sl us vs ty F (hSS _ hS) ⟨by rw [hh _ hS]; exact row.heap,row.spot,row.le,row.max,row.fit,row.len,row.cells,row.one⟩ hl (fun k c hk=>ih k c hk (fun b hb=>hh b (hF k b hb).1) (fun b hb=>hb))
   (fun k b hb=>⟨hSS b (hF k b hb).1,(hF k b hb).2⟩) hd
 | @buf s e v S h hS =>
  intro S' hh hSS
  exact .buf (h.moved (fun b hb=>hh b (hS b hb))) (fun b hb=>hSS b (hS b hb))
 | @agg cs vs S F hl h1 hr hF hd ih =>
  intro S' hh hSS
  exact .agg F hl h1 (fun k c hk=>ih k c hk (fun b hb=>hh b (hF k b hb)) (fun b hb=>hb)) (fun k b hb=>hSS b (hF k b hb)) hd
 | @tup cs vs S F hl hr hF hd ih =>
  intro S' hh hSS
  exact .tup F hl (fun k c hk=>ih k c hk (fun b hb=>hh b (hF k b hb)) (fun b hb=>hb)) (fun k b hb=>hSS b (hF k b hb)) hd
theorem am.mono {w:World} {I:Nat->Prop} {x:TV} {v:Value} {S S':Nat->Prop} (h:am w I x v S) (hS:∀ b,S b->S' b):am w I x v S' :=
 h.mv (fun _ _=>rfl) (fun _ h=>h) (fun _ _=>rfl) hS
theorem bJ {w:World} {I:Nat->Prop} {v u:Value} (h:Rep w I (.lit v) u):u=v:=by cases h; rfl
theorem a9 {w:World} {I:Nat->Prop} {v u:Value} {S:Nat->Prop} (h:am w I (.lit v) u S):u=v:=by cases h with | fr h=>exact bJ h
theorem CB {w:World} {I:Nat->Prop} {s:Nat} {xs:List (List TV)} {u:Value} {S:Nat->Prop} (h:am w I (.sl false s xs) u S):Rep w I (.sl false s xs) u:=by cases h with | fr h=>exact h
theorem qL {w:World} {I:Nat->Prop} {o:Bool} {s:Nat} {xs:List (List TV)} {u:Value} {S:Nat->Prop} (h:am w I (.sl o s xs) u S):∃ a cap,u=.slice (some a) xs.length cap:=by
 cases h with
 | fr h=>cases h; exact ⟨_,_,rfl⟩
 | sl=>exact ⟨_,_,rfl⟩
theorem fq {w:World} {I:Nat->Prop} {x:TV} {u:Value} {S:Nat->Prop} (h:am w I x u S) (hx:x.isSl=true):∃ a n cap,u=.slice a n cap:=by
 cases x with
 | lit v =>
  have:=a9 h
  subst this
  cases u <;> simp [TV.isSl,aI] at hx ⊢
 | sl o s xs=>obtain ⟨a,cap,rfl⟩:=qL h; exact ⟨_,_,_,rfl⟩
 | _=>simp [TV.isSl] at hx
theorem qv {v:Value} (h:scV v=true):v.oneCell'=true:=by cases v <;> first | rfl | simp [scV] at h
theorem er {w:World} {I:Nat->Prop} {x:TV} {u:Value} {S:Nat->Prop} (h:am w I x u S) (hx:x.isSc=true):x=.lit u/\scV u=true:=by
 cases x with
 | lit v =>
  have:=a9 h
  subst this
  exact ⟨rfl,hx⟩
 | _=>simp [TV.isSc] at hx
theorem DF {w:World} {I:Nat->Prop} {x:TV} {u:Value} {S:Nat->Prop} (h:am w I x u S):Rep w I x.lf u:=by
 cases x with
 | lit v=>have:=a9 h; subst this; exact .lit _
 | _=>exact .hole _
theorem lZ:∀ l:List TV,m7 l=l.map frz
 | []=>rfl
 | x :: l=>by simp [m7,lZ l]
theorem gI:∀ l:List (List TV),sR l=l.map fun x=>x.map frz
 | []=>rfl
 | x :: l=>by simp [sR,gI l,lZ]
theorem Bd:∀ l:List TV,lfL l=l.map TV.lf
 | []=>rfl
 | x :: l=>by simp [lfL,Bd l]
theorem zM:∀ l:List (List TV),xR l=l.map fun x=>x.map TV.lf
 | []=>rfl
 | x :: l=>by simp [xR,zM l,Bd]
theorem Rep.frz {w:World} {I:Nat->Prop} {x:TV} {v:Value} (h:Rep w I x v):Rep w I (frz x) v:=by
 induction h with
 | lit v=>exact .lit v
 | hole v=>exact .hole v
 | buf e h=>exact .hole _
 | @sl size xs a cap cell hI hc hm hl hcell h1 _ ih =>
  simp only [Ab.frz,gI]
  have hlen:(xs.map fun x=>x.map Ab.frz).length=xs.length:=by simp
  have key:Rep w I (.sl false size (xs.map fun x=>x.map Ab.frz)) (.slice (some a) (xs.map fun x=>x.map Ab.frz).length cap):=by
   refine .sl cell (by rw [hlen]; exact hI) (by rw [hlen]; exact hc) hm (fun x hx=>?_) (by rw [hlen]; exact hcell) (by rw [hlen]; exact h1) (fun i y hy j c hj=>?_)
   ·obtain ⟨y,hy,rfl⟩:=List.mem_map.1 hx
    simpa using hl y hy
   ·rw [EM] at hy
    cases hxi:xs[i]? with
    | none=>simp [hxi] at hy
    | some x =>
     simp only [hxi,ET,EI] at hy
     subst hy
     rw [EM] at hj
     cases hxj:x[j]? with
     | none=>simp [hxj] at hj
     | some c' =>
      simp only [hxj,ET,EI] at hj
      subst hj
      exact ih i x hxi j c' hxj
  rwa [hlen] at key
 | @agg cs vs hl h1 _ ih =>
  simp only [Ab.frz,lZ]
  refine .agg (by simpa using hl) h1 (fun j c hj=>?_)
  rw [EM] at hj
  cases hxj:cs[j]? with
  | none=>simp [hxj] at hj
  | some c'=>simp only [hxj,ET,EI] at hj; subst hj; exact ih j c' hxj
 | @tup cs vs hl _ ih =>
  simp only [Ab.frz,lZ]
  refine .tup (by simpa using hl) (fun j c hj=>?_)
  rw [EM] at hj
  cases hxj:cs[j]? with
  | none=>simp [hxj] at hj
  | some c'=>simp only [hxj,ET,EI] at hj; subst hj; exact ih j c' hxj
theorem am.frz {w:World} {I I':Nat->Prop} (hI:∀ b,I b->I' b) {x:TV} {v:Value} {S:Nat->Prop} (h:am w I x v S):(∀ b,S b->I' b)->Rep w I' (frz x) v:=by
 induction h with
 | fr h=>intro _; exact (h.mv (fun _ _=>rfl) hI).frz
 | buf _ _=>intro _; exact .hole _
 | @sl size xs a cap S us vs ty F hS row hl hr hF hd ih =>
  intro hSI
  simp only [Ab.frz,gI]
  have hlen:(xs.map fun x=>x.map Ab.frz).length=xs.length:=by simp
  have key:Rep w I' (.sl false size (xs.map fun x=>x.map Ab.frz)) (.slice (some a) (xs.map fun x=>x.map Ab.frz).length cap):=by
   refine .sl (fun k=>us.getD k undef) (fun _=>hSI _ hS) (by rw [hlen]; exact row.le) row.max (fun x hx=>?_) (fun k hk=>?_) (fun k hk=>?_) (fun i y hy j c hj=>?_)
   ·obtain ⟨y,hy,rfl⟩:=List.mem_map.1 hx
    simpa using hl y hy
   ·rw [hlen] at hk
    have:k < us.length:=by rw [row.len]; exact hk
    exact row.cell (by simp [EH this])
   ·rw [hlen] at hk
    have:k < us.length:=by rw [row.len]; exact hk
    simp only [EU,EH this,Option.getD_some]
    exact row.one _ (List.getElem_mem this)
   ·rw [EM] at hy
    cases hxi:xs[i]? with
    | none=>simp [hxi] at hy
    | some x =>
     simp only [hxi,ET,EI] at hy
     subst hy
     rw [EM] at hj
     cases hxj:x[j]? with
     | none=>simp [hxj] at hj
     | some c' =>
      simp only [hxj,ET,EI] at hj
      subst hj
      exact ih _ c' (fO hl hxi hxj) (fun b hb=>hSI b (hF _ b hb).1)
  rwa [hlen] at key
 | @agg cs vs S F hl h1 hr hF hd ih =>
  intro hSI
  simp only [Ab.frz,lZ]
  refine .agg (by simpa using hl) h1 (fun j c hj=>?_)
  rw [EM] at hj
  cases hxj:cs[j]? with
  | none=>simp [hxj] at hj
  | some c'=>simp only [hxj,ET,EI] at hj; subst hj; exact ih j c' hxj (fun b hb=>hSI b (hF j b hb))
 | @tup cs vs S F hl hr hF hd ih =>
  intro hSI
  simp only [Ab.frz,lZ]
  refine .tup (by simpa using hl) (fun j c hj=>?_)
  rw [EM] at hj
  cases hxj:cs[j]? with
  | none=>simp [hxj] at hj
  | some c'=>simp only [hxj,ET,EI] at hj; subst hj; exact ih j c' hxj (fun b hb=>hSI b (hF j b hb))
theorem gh:∀ {l:List TV},bm l=true->∀ x ∈ l,isOwn x=true
 | [],_,x,hx=>by simp at hx
 | y :: l,h,x,hx=>by
  simp only [bm,EJ] at h
  rcases List.mem_cons.1 hx with rfl | hx
  ·exact h.1
  ·exact gh h.2 x hx
theorem qe:∀ {l:List (List TV)},lV l=true->∀ x ∈ l,bm x=true
 | [],_,x,hx=>by simp at hx
 | y :: l,h,x,hx=>by
  simp only [lV,EJ] at h
  rcases List.mem_cons.1 hx with rfl | hx
  ·exact h.1
  ·exact qe h.2 x hx
theorem Rep.own {w:World} {I I':Nat->Prop} {x:TV} {v:Value} (h:Rep w I x v):isOwn x=true->Rep w I' x v:=by
 induction h with
 | lit v=>intro _; exact .lit v
 | hole v=>intro _; exact .hole v
 | buf e h=>intro _; exact .buf e h
 | sl=>intro h; simp [isOwn] at h
 | @agg cs vs hl h1 _ ih=>intro h; simp only [isOwn] at h; exact .agg hl h1 (fun j c hj=>ih j c hj (gh h c (EP hj)))
 | @tup cs vs hl _ ih=>intro h; simp only [isOwn] at h; exact .tup hl (fun j c hj=>ih j c hj (gh h c (EP hj)))
theorem am.own {w:World} {I I':Nat->Prop} {x:TV} {v:Value} {S:Nat->Prop} (h:am w I x v S):isOwn x=true->am w I' x v S:=by
 induction h with
 | fr h=>intro ho; exact .fr (h.own ho)
 | buf h hS=>intro _; exact .buf h hS
 | @sl size xs a cap S us vs ty F hS row hl hr hF hd ih =>
  intro ho
  simp only [isOwn,Bool.true_and] at ho
  refine .sl us vs ty F hS row hl (fun k c hk=>ih k c hk ?_) hF hd
  obtain ⟨x,hx,hc⟩:=List.mem_flatten.1 (EP hk)
  exact gh (qe ho x hx) c hc
 | @agg cs vs S F hl h1 hr hF hd ih=>intro ho; simp only [isOwn] at ho; exact .agg F hl h1 (fun j c hj=>ih j c hj (gh ho c (EP hj))) hF hd
 | @tup cs vs S F hl hr hF hd ih=>intro ho; simp only [isOwn] at ho; exact .tup F hl (fun j c hj=>ih j c hj (gh ho c (EP hj))) hF hd
end Go.Ab
end
section
namespace Go.Ab
open Go.RowKit
def TV.nd (x:TV):Option (Nat × Nat):=match x with | .sl _ s xs=>some (s,xs.length) | _=>none
def Node (w:World):Way->TV->Value->Value->Option (Nat × Nat)->Prop
 | [],x,u,v,nd=>v=u/\nd=x.nd
 | (k,j) :: p,x,u,v,nd=>∃ o s xs a n cap e y u',x=.sl o s xs/\u=.slice (some a) n cap/\xs[k]? = some e/\e[j]? = some y/\w.cell? (a.add (k * s + j))=some u'/\Node w p y u' v nd
section
variable {w w':World} {I I':Nat->Prop} {x y:TV} {u v:Value} {S:Nat->Prop}
theorem getD_some {l:List Value} {k:Nat} {u:Value} (h:l[k]? = some u):l.getD k undef=u:=by simp [h]
theorem am.child {o:Bool} {s:Nat} {xs:List (List TV)} (h:am w I (.sl o s xs) u S) {k j:Nat} {e:List TV} {y:TV} (hk:xs[k]? = some e) (hj:e[j]? = some y) :
  ∃ a cap u' S',u=.slice (some a) xs.length cap/\w.cell? (a.add (k * s + j))=some u'/\u'.oneCell'=true/\am w I y u' S'/\(∀ b,S' b->S b)/\(S a.block\/I a.block)/\e.length=s:=by
 have hlt:k < xs.length:=(EG.1 hk).1
 cases h with
 | fr h =>
  cases h with
  | @sl _ _ a cap cell hI hc hm hl hcell h1 hr =>
   have hel:=hl e (EP hk)
   have hf:k * s + j < xs.length * s:=by
    have hj':=(EG.1 hj).1
    have:=Nat.mul_le_mul_right s (Nat.succ_le_of_lt hlt)
    rw [Nat.succ_mul] at this
    omega
   exact ⟨a,cap,_,fun _=>False,rfl,hcell _ hf,h1 _ hf,.fr (hr k e hk j y hj),fun _ h=>h.elim,.inr (hI (by omega)),hel⟩
 | @sl _ _ a cap S us vs ty F hS row hl hr hF hd =>
  have hel:=hl e (EP hk)
  have hfg:=fO hl hk hj
  have hlt2:k * s + j < us.length:=by
   rw [row.len,<- cp hl]
   exact (EG.1 hfg).1
  have hu:=EH hlt2
  refine ⟨a,cap,us[k * s + j],F (k * s + j),rfl,row.cell hu,row.one _ (List.getElem_mem hlt2),?_,fun b hb=>(hF _ b hb).1,.inl hS,hel⟩
  have:=hr _ _ hfg
  rwa [getD_some hu] at this
theorem Node.mv:∀ {p:Way} {x:TV} {u v:Value} {nd:Option (Nat × Nat)} {S:Nat->Prop},am w I x u S->(∀ b,I b->w'.heap[b]? = w.heap[b]?)->(∀ b,S b->w'.heap[b]? = w.heap[b]?)->Node w p x u v nd->Node w' p x u v nd
 | [],x,u,v,nd,S,_,_,_,h=>h
 | (k,j) :: p,x,u,v,nd,S,hr,hI,hS,⟨o,s,xs,a,n,cap,e,y,u',hx,hu,he,hy,hc,h⟩=>by
  subst hx
  obtain ⟨a',cap',u2,S',h1,h2,h3,h4,h5,h6,h7⟩:=hr.child he hy
  rw [hu] at h1
  cases h1
  rw [hc] at h2
  cases h2
  refine ⟨o,s,xs,a,_,_,e,y,u',rfl,hu,he,hy,?_,Node.mv h4 hI (fun b hb=>hS b (h5 b hb)) h⟩
  rw [<- hc]
  refine World.cell?_of_block ?_
  rw [fh]
  rcases h6 with h6 | h6
  ·exact hS _ h6
  ·exact hI _ h6
theorem am.get:∀ {p:Way} {x y:TV} {u:Value} {S:Nat->Prop},am w I x u S->aG p x=some y->∃ v S',Node w p x u v y.nd/\am w I y v S'/\(∀ b,S' b->S b)/\(p≠[]->v.oneCell'=true)
 | [],x,y,u,S,hr,h=>by
  simp only [aG,EI] at h
  subst h
  exact ⟨u,S,⟨rfl,rfl⟩,hr,fun _ h=>h,fun h=>absurd rfl h⟩
 | (k, j) :: p, x, y, u, S, hr, h => by
  cases x with
  | sl o s xs =>
   simp only [aG] at h
   cases he:xs[k]? with
   | none=>simp [he] at h
   | some e =>
    simp only [he] at h
    cases hz:e[j]? with
    | none=>simp [hz] at h
    | some z =>
     simp only [hz] at h
     obtain ⟨a,cap,u',S1,h1,h2,h3,h4,h5,h6,h7⟩:=hr.child he hz
     obtain ⟨v,S2,n1,n2,n3,n4⟩:=am.get h4 h
     refine ⟨v,S2,⟨o,s,xs,a,_,cap,e,z,u',rfl,h1,he,hz,h2,n1⟩,n2,fun b hb=>h5 b (n3 b hb),fun _=>?_⟩
     cases p with
     | nil=>rw [n1.1]; exact h3
     | cons=>exact n4 (by simp)
  | _=>simp [aG] at h
theorem Node.unique:∀ {p:Way} {x:TV} {u v v':Value} {nd nd':Option (Nat × Nat)},Node w p x u v nd->Node w p x u v' nd'->v=v'/\nd=nd'
 | [],x,u,v,v',nd,nd',h,h'=>⟨h.1.trans h'.1.symm,h.2.trans h'.2.symm⟩
 | (k,j) :: p,x,u,v,v',nd,nd',⟨o,s,xs,a,n,cap,e,y,u',hx,hu,he,hy,hc,h⟩,⟨o2,s2,xs2,a2,n2,cap2,e2,y2,u2,hx2,hu2,he2,hy2,hc2,h2⟩=>by
  subst hx
  cases hx2
  subst hu
  cases hu2
  rw [he] at he2
  cases he2
  rw [hy] at hy2
  cases hy2
  rw [hc] at hc2
  cases hc2
  exact Node.unique h h2
theorem am.sub : ∀ {p : Way} {x y : TV} {u : Value} {S : Nat → Prop}, am w I x u S → aG p x = some y →
  ∃ v Sy, am w I y v Sy ∧ (∀ b, Sy b → S b) ∧ Node w p x u v y.nd ∧ (p ≠ [] → v.oneCell' = true) ∧
   ∀ (w':World) (I':Nat->Prop) (y' x':TV) (S':Nat->Prop),iV p x y'=some x'->(∀ b,I b->w'.heap[b]? = w.heap[b]?)->(∀ b,I b->I' b)->(∀ b,S b->¬ Sy b->w'.heap[b]? = w.heap[b]?) ->
    am w' I' y' v S'->(∀ b,S' b->S b->Sy b)->am w' I' x' u (fun b=>(S b/\¬ Sy b)\/S' b) /\
    ∀ (q:Way) (v':Value) (nd:Option (Nat × Nat)),(∀ q',q=p ++ q'->Node w q' y v v' nd->Node w' q' y' v v' nd)->Node w q x u v' nd->Node w' q x' u v' nd
 | [],x,y,u,S,hr,h=>by
  simp only [Ab.aG,EI] at h
  subst h
  refine ⟨u,S,hr,fun _ h=>h,⟨rfl,rfl⟩,fun h=>absurd rfl h,?_⟩
  intro w' I' y' x' S' hs hI hII hh hr' hd
  simp only [iV,EI] at hs
  subst hs
  exact ⟨hr'.mono (fun b hb=>.inr hb),fun q v' nd hq hn=>hq q rfl hn⟩
 | (k, j) :: p, x, y, u, S, hr, h => by
  cases x with
  | sl o s xs =>
   simp only [Ab.aG] at h
   cases he:xs[k]? with
   | none=>simp [he] at h
   | some e =>
    simp only [he] at h
    cases hz:e[j]? with
    | none=>simp [hz] at h
    | some z =>
     simp only [hz] at h
     cases o with
     | false =>
      obtain ⟨v,S',n1,n2,n3,n4⟩:=am.get (p:=(k,j) :: p) (y:=y) hr (by simp only [Ab.aG,he,hz,h])
      refine ⟨v,S',n2,n3,n1,n4,?_⟩
      intro w' I' y' x' S2 hs
      simp [iV] at hs
     | true =>
      cases hr with
      | fr h=>cases h
      | @sl _ _ a cap S us vs ty F hS row hl hr hF hd =>
       have hel:=hl e (EP he)
       have hjl:j < e.length:=(EG.1 hz).1
       have hfg:=fO hl he hz
       have hlt2:k * s + j < us.length:=by
        rw [row.len,<- cp hl]
        exact (EG.1 hfg).1
       have hu:=EH hlt2
       have hrz:=hr _ _ hfg
       rw [getD_some hu] at hrz
       obtain ⟨v,Sy,m1,m2,m3,m4,m5⟩:=am.sub hrz h
       have hSyF:∀ b,Sy b->F (k * s + j) b:=m2
       refine ⟨v,Sy,m1,fun b hb=>(hF _ b (m2 b hb)).1,⟨true,s,xs,a,_,cap,e,z,us[k * s + j],rfl,rfl,he,hz,row.cell hu,m3⟩,fun _=>?_,?_⟩
       ·cases p with
        | nil=>rw [m3.1]; exact row.one _ (List.getElem_mem hlt2)
        | cons=>exact m4 (by simp)
       intro w' I' y' x' S' hs hI hII hh hr' hdis
       simp only [iV,he,hz] at hs
       cases hz':iV p z y' with
       | none=>simp [hz'] at hs
       | some z' =>
        simp only [hz',EI,ai] at hs
        subst hs
        have hablk:¬ Sy a.block:=fun hb=>(hF _ _ (m2 _ hb)).2 rfl
        obtain ⟨r1,r2⟩:=m5 w' I' y' z' S' hz' hI hII (fun b hb hn=>hh b (hF _ b hb).1 hn) hr' (fun b hb hb2=>hdis b hb (hF _ b hb2).1)
        have hset:e.set j z'=spl e j [z']:=by
         apply List.ext_getElem?
         intro m
         rw [cK (by simp; omega),List.getElem?_set]
         by_cases hjm:j=m
         ·subst hjm; simp [hjl]
         ·rw [if_neg hjm,if_neg (by simp; omega)]
        obtain ⟨f1,f2⟩:=wK (ys:=[z']) hl he (by simp; omega:j + [z'].length<=e.length)
        have hlen:(xs.set k (e.set j z')).length=xs.length:=by simp
        have hrow:Row w' a (xs.set k (e.set j z')).length cap s us vs ty:=by
         rw [hlen]
         exact ⟨by rw [hh _ hS hablk]; exact row.heap,row.spot,row.le,row.max,row.fit,row.len,row.cells,row.one⟩
        have hother:∀ m c,m≠k * s + j->xs.flatten[m]? = some c->am w' I' c (us.getD m undef) (F m):=fun m c hm hc =>
         (hr m c hc).mv hI hII (fun b hb=>hh b (hF m b hb).1 (fun hs=>hm (hd m _ b hb (m2 b hs)))) (fun _ h=>h)
        constructor
        ·have key:am w' I' (.sl true s (xs.set k (e.set j z'))) (.slice (some a) (xs.set k (e.set j z')).length cap) (fun b=>(S b/\¬ Sy b)\/S' b):=by
          refine .sl us vs ty (fun m b=>if m=k * s + j then (F (k * s + j) b/\¬ Sy b)\/S' b else F m b) (.inl ⟨hS,hablk⟩) hrow (zR hl (by simp [hel])) (fun m c hc=>?_) (fun m b hb=>?_) (fun m m' b hb hb'=>?_)
          ·rw [hset,f1,cK f2] at hc
           by_cases hm:m=k * s + j
           ·subst hm
            simp only [List.length_singleton,Nat.sub_self] at hc
            rw [if_pos (by omega)] at hc
            simp only [List.getElem?_cons_zero,EI] at hc
            subst hc
            simp only [if_true]
            rw [getD_some hu]
            exact r1
           ·rw [if_neg (by simp only [List.length_singleton]; omega)] at hc
            simp only [hm,if_false]
            exact hother m c hm hc
          ·by_cases hm:m=k * s + j
           ·subst hm
            simp only [if_true] at hb
            rcases hb with ⟨h1,h2⟩ | h1
            ·exact ⟨.inl ⟨(hF _ b h1).1,h2⟩,(hF _ b h1).2⟩
            ·exact ⟨.inr h1,fun e=>by subst e; exact hablk (hdis _ h1 hS)⟩
           ·simp only [hm,if_false] at hb
            exact ⟨.inl ⟨(hF _ b hb).1,fun hs=>hm (hd _ _ b hb (m2 b hs))⟩,(hF _ b hb).2⟩
          ·by_cases hm:m=k * s + j <;> by_cases hm':m'=k * s + j
           ·rw [hm,hm']
           ·simp only [hm,hm',if_true,if_false] at hb hb'
            rcases hb with ⟨h1,h2⟩ | h1
            ·exact hm ▸ hd _ _ b h1 hb'
            ·exact hm ▸ hd _ _ b (m2 b (hdis b h1 (hF _ b hb').1)) hb'
           ·simp only [hm,hm',if_true,if_false] at hb hb'
            rcases hb' with ⟨h1,h2⟩ | h1
            ·exact hm' ▸ hd _ _ b hb h1
            ·exact hm' ▸ hd _ _ b hb (m2 b (hdis b h1 (hF _ b hb).1))
           ·simp only [hm,hm',if_false] at hb hb'
            exact hd _ _ b hb hb'
         rwa [hlen] at key
        ·intro q v' nd hq hn
         cases q with
         | nil =>
          obtain ⟨e1,e2⟩:=hn
          exact ⟨e1,by rw [e2]; simp [TV.nd]⟩
         | cons kj q =>
          obtain ⟨k1,j1⟩:=kj
          obtain ⟨o2,s2,xs2,a2,n2,cap2,e2,y2,u2,hx2,hu2,he2,hy2,hc2,hn2⟩:=hn
          cases hx2
          cases hu2
          have hblk:∀ m,w'.cell? (a.add m)=w.cell? (a.add m):=fun m=>World.cell?_of_block (by rw [fh]; exact hh _ hS hablk)
          by_cases hk1:k1=k
          ·subst hk1
           rw [he] at he2
           cases he2
           have hk2:k1 < xs.length:=(EG.1 he).1
           by_cases hj1:j1=j
           ·subst hj1
            rw [hz] at hy2
            cases hy2
            have:u2=us[k1 * s + j1]:=by rw [row.cell hu] at hc2; exact (Option.some.inj hc2).symm
            subst this
            refine ⟨true,s,_,a,_,cap,e.set j1 z',z',us[k1 * s + j1],rfl,rfl,by rw [List.getElem?_set_self hk2],by rw [List.getElem?_set_self hjl],by rw [hblk]; exact hc2,?_⟩
            exact r2 q v' nd (fun q' hq'=>hq q' (by rw [hq']; rfl)) hn2
           ·refine ⟨true,s,_,a,_,cap,e.set j z',y2,u2,rfl,rfl,by rw [List.getElem?_set_self hk2],by rw [List.getElem?_set_ne (fun h=>hj1 h.symm)]; exact hy2,by rw [hblk]; exact hc2,?_⟩
            have hfg2:=fO hl he hy2
            have hm:k1 * s + j1≠k1 * s + j:=by omega
            have hr2:=hr _ _ hfg2
            have hlt3:k1 * s + j1 < us.length:=by rw [row.len,<- cp hl]; exact (EG.1 hfg2).1
            rw [getD_some (EH hlt3)] at hr2
            have:u2=us[k1 * s + j1]:=by rw [row.cell (EH hlt3)] at hc2; exact (Option.some.inj hc2).symm
            subst this
            exact Node.mv hr2 hI (fun b hb=>hh b (hF _ b hb).1 (fun hs=>hm (hd _ _ b hb (m2 b hs)))) hn2
          ·refine ⟨true,s,_,a,_,cap,e2,y2,u2,rfl,rfl,by rw [List.getElem?_set_ne (fun h=>hk1 h.symm)]; exact he2,hy2,by rw [hblk]; exact hc2,?_⟩
           have hfg2:=fO hl he2 hy2
           have hel2:=hl e2 (EP he2)
           have hj2:j1 < e2.length:=(EG.1 hy2).1
           have hm:k1 * s + j1≠k * s + j:=by
            intro heq
            rcases Nat.lt_or_gt_of_ne hk1 with h' | h'
            ·have:=Nat.mul_le_mul_right s (Nat.succ_le_of_lt h')
             rw [Nat.succ_mul] at this
             omega
            ·have:=Nat.mul_le_mul_right s (Nat.succ_le_of_lt h')
             rw [Nat.succ_mul] at this
             omega
           have hr2:=hr _ _ hfg2
           have hlt3:k1 * s + j1 < us.length:=by rw [row.len,<- cp hl]; exact (EG.1 hfg2).1
           rw [getD_some (EH hlt3)] at hr2
           have:u2=us[k1 * s + j1]:=by rw [row.cell (EH hlt3)] at hc2; exact (Option.some.inj hc2).symm
           subst this
           exact Node.mv hr2 hI (fun b hb=>hh b (hF _ b hb).1 (fun hs=>hm (hd _ _ b hb (m2 b hs)))) hn2
  | _=>simp [Ab.aG] at h
end
end Go.Ab
end

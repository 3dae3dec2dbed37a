import Derived.Test.YtfnpejmlcbkepaaSQ12F59
import Derived.Test.YtfnpejmlcbkepaaSQ12F34
import Derived.Test.YtfnpejmlcbkepaaSM0
import Derived.Below
import Derived.Orders
import Derived.Laws.Cells
import Derived.Laws.OwnMore
import Derived.Laws.CopyOwn
import Derived.Maps.AppendAt
import Derived.Lib.FrozenHead
set_option linter.all false
section
set_option maxRecDepth 10000
namespace Go.Ab
theorem RMod.frz' {q:Option Bool} {y:TV} {m:DMod} (h:RMod q [y] m):RMod (some false) [Go.Ab.frz y] m:=by
 obtain ⟨y',h,h'⟩:=h
 cases h
 exact ⟨_,rfl,h'.frz (S:=RFunc (some false)) fun _ _ h=>h.frz⟩
end Go.Ab
namespace Go.Ab.Q12
open Go Go.Ab Go.Proofs
theorem pThrow {m:DMod} {s:DMach} {f:DFrame} {u:DFunc} {b:DBlock} {y g i v:TV} (hm:RMod (some false) [y] m) (hM:bP m) (hg:RStack g s.stack) (hi:RWords (some true) i s.inputs) (hv:RInts (some true) v s.events) (ho:s.ok) (hQ:cH m s)
  (ht:i5 s=some f) (hf0:0<=f.f) (hu:m.funcs[f.f.toNat]? = some u) (hb0:0<=f.block) (hb:u.blocks[f.block.toNat]? = some b) (ha0:0<=f.at_) (hat:f.at_=b.ins.length) (hE:tM m.funcs f.regs.length u.blocks b.fin) (h5:b.fin.kind=5) :
  ∃ r,aa prog 52 (f52_0 (s.stack.length - 1) (W (s.c 0)) (W (s.c 1)) (W (s.c 2)) (W (s.c 3)) (W (s.c 4)) (W (s.c 5)) (W (s.c 6)) (W (s.c 7)) (W (s.c 8)) (W (s.c 9)) (W (s.c 10)) (W (s.c 11)) (W (s.c 12)) (W (s.c 13)) (W (s.c 14)) (W (s.c 15)) (I s.done) (W s.value) y g TV.hole TV.hole TV.hole TV.hole TV.hole TV.hole TV.hole TV.hole TV.hole TV.hole TV.hole TV.hole TV.hole TV.hole TV.hole TV.hole i v TV.hole TV.hole y) r/\bi (be m s (reg f b.fin.a)) y r:=by
 have h0:0 < s.stack.length:=by
  have:=(EJ.1 ht).1
  omega
 have h32:=hQ.2.1
 have hyr:RL (some false) 3 (RFunc (some false)) y m.funcs:=by
  obtain ⟨y',h,h'⟩:=hm
  cases h
  exact h'
 obtain ⟨gr,he,hget,hgr,hof⟩:=hg.row ht
 have hfit:=cf (a:=f.f) (b:=f.block) (c:=f.at_) (d:=f.fly) hgr.isSl
 have hfs:=fH (a:=f.f) (b:=f.block) (c:=f.at_) (d:=f.fly) hgr.isSl
 obtain ⟨eu,heu,hru⟩:=hyr.bW (k:=.i64) hf0 hu
 obtain ⟨bs,rfl,hbs,_⟩:=hru
 obtain ⟨eb,heb,hrb⟩:=hbs.bW (k:=.i64) hb0 hb
 obtain ⟨c,is,ga,rfl,hc,hdi,his,hga,hfo⟩:=hrb
 have hpa:=hE.2.1
 rw [h5] at hpa
 have hA:within b.fin.a f.regs.length:=hpa.1 rfl
 obtain ⟨a,ha,hal⟩:=bu hA
 obtain ⟨pe,hpe,rfl,haw⟩:=hgr.pel ha
 have hra:reg f b.fin.a=a:=iC ha
 have hla:=cF hgr.slSize hal
 rw [hra]
 have hlen:=RL.len (t:=51) hg
 have hcw:=yG hg.slSize (show s.stack.length - 1<=s.stack.length by omega)
 obtain ⟨gw,hgw,hrw⟩:=hg.win (n:=s.stack.length - 1) (by omega)
 have htl:(s.stack.take (s.stack.length - 1)).length=s.stack.length - 1:=by simp
 have hlw:=RL.len (t:=51) hrw
 rw [htl] at hlw
 obtain ⟨r,hr,hout⟩:=Bx (y:=y) (m:=m) hyr hM hg hi hv ho haw hQ h0 (s.stack.length - 1) 0 (by omega) (fun j hj=>by omega)
 refine ⟨r,?_,hout⟩
 unfold f52_0
 have hblk:=f7 (c:=I f.at_) (z:=TV.lf (Go.Ab.frz gr)) (d:=W f.fly) heu rfl rfl heb
 refine aa.tvs he (aa.chk hfit (aa.tv hget (aa.call hblk (aa.chk rfl (aa.tvs he (aa.chk rfl (aa.tv (RL.len his) (aa.tv rfl (aa.ite rfl (fun h=>?_) fun _=>?_)))))))))
 ·simp [nth] at h; omega
 refine aa.tv rfl (aa.ite rfl (fun h=>?_) fun _=>?_)
 ·simp [nth] at h; omega
 refine aa.tv rfl (aa.ite rfl (fun h=>?_) fun _=>?_)
 ·simp [nth] at h; omega
 refine aa.tv rfl (aa.ite rfl (fun h=>?_) fun _=>?_)
 ·simp [nth] at h; omega
 refine aa.tv rfl (aa.ite rfl (fun h=>?_) fun _=>?_)
 ·simp [nth] at h; omega
 refine aa.tv rfl (aa.ite rfl (fun _=>?_) fun h=>?_)
 rotate_left
 ·simp [nth] at h; omega
 refine aa.tvs he (aa.chk hfs (aa.tv hget (aa.nat hgr.slLen (aa.nat (aV hA.1 hfo.2.1) (aa.chk hla (aa.tv hget (aa.tvs hpe (aa.chk rfl ?_))))))))
 exact aa.tv hlen (aa.tv (dec h0 (by omega)) (aa.nat hg.slLen (aa.nat (aM (by omega)) (aa.chk hcw (aa.tv hgw (aa.tv hlw (f52_4_J hr)))))))
theorem DT {m:DMod} {s:DMach} {f:DFrame} {u:DFunc} {b:DBlock} {y g i v:TV} (hm:RMod (some false) [y] m) (hM:bP m) (hg:RStack g s.stack) (hi:RWords (some true) i s.inputs) (hv:RInts (some true) v s.events) (ho:s.ok) (hQ:cH m s)
  (ht:i5 s=some f) (hf0:0<=f.f) (hu:m.funcs[f.f.toNat]? = some u) (hb0:0<=f.block) (hb:u.blocks[f.block.toNat]? = some b) (ha0:0<=f.at_) (hat:f.at_=b.ins.length) (h6:b.fin.kind=6) :
  ∃ r,aa prog 52 (f52_0 (s.stack.length - 1) (W (s.c 0)) (W (s.c 1)) (W (s.c 2)) (W (s.c 3)) (W (s.c 4)) (W (s.c 5)) (W (s.c 6)) (W (s.c 7)) (W (s.c 8)) (W (s.c 9)) (W (s.c 10)) (W (s.c 11)) (W (s.c 12)) (W (s.c 13)) (W (s.c 14)) (W (s.c 15)) (I s.done) (W s.value) y g TV.hole TV.hole TV.hole TV.hole TV.hole TV.hole TV.hole TV.hole TV.hole TV.hole TV.hole TV.hole TV.hole TV.hole TV.hole TV.hole i v TV.hole TV.hole y) r/\bi (be m s f.fly) y r:=by
 have h0:0 < s.stack.length:=by
  have:=(EJ.1 ht).1
  omega
 have h32:=hQ.2.1
 have hyr:RL (some false) 3 (RFunc (some false)) y m.funcs:=by
  obtain ⟨y',h,h'⟩:=hm
  cases h
  exact h'
 obtain ⟨gr,he,hget,hgr,hof⟩:=hg.row ht
 have hfit:=cf (a:=f.f) (b:=f.block) (c:=f.at_) (d:=f.fly) hgr.isSl
 obtain ⟨eu,heu,hru⟩:=hyr.bW (k:=.i64) hf0 hu
 obtain ⟨bs,rfl,hbs,_⟩:=hru
 obtain ⟨eb,heb,hrb⟩:=hbs.bW (k:=.i64) hb0 hb
 obtain ⟨c,is,ga,rfl,hc,hdi,his,hga,hfo⟩:=hrb
 have hlen:=RL.len (t:=51) hg
 have hcw:=yG hg.slSize (show s.stack.length - 1<=s.stack.length by omega)
 obtain ⟨gw,hgw,hrw⟩:=hg.win (n:=s.stack.length - 1) (by omega)
 have htl:(s.stack.take (s.stack.length - 1)).length=s.stack.length - 1:=by simp
 have hlw:=RL.len (t:=51) hrw
 rw [htl] at hlw
 obtain ⟨r,hr,hout⟩:=Cp (y:=y) (m:=m) hyr hM hg hi hv ho hof.2.2.2 hQ h0 (s.stack.length - 1) 0 (by omega) (fun j hj=>by omega)
 refine ⟨r,?_,hout⟩
 unfold f52_0
 have hblk:=f7 (c:=I f.at_) (z:=TV.lf (Go.Ab.frz gr)) (d:=W f.fly) heu rfl rfl heb
 refine aa.tvs he (aa.chk hfit (aa.tv hget (aa.call hblk (aa.chk rfl (aa.tvs he (aa.chk rfl (aa.tv (RL.len his) (aa.tv rfl (aa.ite rfl (fun h=>?_) fun _=>?_)))))))))
 ·simp [nth] at h; omega
 refine aa.tv rfl (aa.ite rfl (fun h=>?_) fun _=>?_)
 ·simp [nth] at h; omega
 refine aa.tv rfl (aa.ite rfl (fun h=>?_) fun _=>?_)
 ·simp [nth] at h; omega
 refine aa.tv rfl (aa.ite rfl (fun h=>?_) fun _=>?_)
 ·simp [nth] at h; omega
 refine aa.tv rfl (aa.ite rfl (fun h=>?_) fun _=>?_)
 ·simp [nth] at h; omega
 refine aa.tv rfl (aa.ite rfl (fun h=>?_) fun _=>?_)
 ·simp [nth] at h; omega
 refine aa.tv rfl (aa.ite rfl (fun _=>?_) fun h=>?_)
 rotate_left
 ·simp [nth] at h; omega
 refine aa.tvs he (aa.chk rfl ?_)
 exact aa.tv hlen (aa.tv (dec h0 (by omega)) (aa.nat hg.slLen (aa.nat (aM (by omega)) (aa.chk hcw (aa.tv hgw (aa.tv hlw (f52_5_J hr)))))))
theorem zZ {q : Option Bool} {m : DMod} {s : DMach} {y g i v : TV} (hm : RMod q [y] m) (hM : bP m) (hg : RStack g s.stack) (hi : RWords (some true) i s.inputs) (hv : RInts (some true) v s.events) (ho : s.ok) (hQ : cH m s) (hd : s.done = 0) (hel : s.events.length + 1 ≤ 4294967296) :
    ∃ r,ao prog 52 [.tup (aH s g i v ++ [y])] r/\bi (fI m s) (Go.Ab.frz y) r:=by
  have hys:y.isSl=true:=by
    obtain ⟨y',h,h'⟩:=hm
    cases h
    exact h'.isSl
  have hm:=hm.frz'
  generalize hz:Go.Ab.frz y=z at hm
  have h32:=hQ.2.1
  have h0:=hQ.2.2.1 hd
  have hlen:=RL.len (t:=51) hg
  obtain ⟨f,ht⟩:∃ f,s.stack[s.stack.length - 1]? = some f:=⟨_,EK (by omega)⟩
  have ht':i5 s=some f:=ht
  have hF:=hQ.2.2.2.1 _ f ht
  have hrl:=iD hM hF
  obtain ⟨hf0,u,hu,hLr,hb0,b,hb,ha0,ha1⟩:=hF
  have hbo:aY m f=some b:=by simp [aY,hu,hb]
  have main:∃ r,aa prog 52 (f52_0 (s.stack.length - 1) (W (s.c 0)) (W (s.c 1)) (W (s.c 2)) (W (s.c 3)) (W (s.c 4)) (W (s.c 5)) (W (s.c 6)) (W (s.c 7)) (W (s.c 8)) (W (s.c 9)) (W (s.c 10)) (W (s.c 11)) (W (s.c 12)) (W (s.c 13)) (W (s.c 14)) (W (s.c 15)) (I s.done) (W s.value) z g TV.hole TV.hole TV.hole TV.hole TV.hole TV.hole TV.hole TV.hole TV.hole TV.hole TV.hole TV.hole TV.hole TV.hole TV.hole TV.hole i v TV.hole TV.hole z) r/\bi (fI m s) z r:=by
    have hT : fI m s = if f.at_ = b.ins.length then
        (if b.fin.kind = 1 then bQ m s (reg f b.fin.a) else
         if b.fin.kind=4 then bJ m s b.fin.f b.fin.args else
         if b.fin.kind=5 then be m s (reg f b.fin.a) else
         if b.fin.kind=6 then be m s f.fly else
         if b.fin.kind=3/\reg f b.fin.a=0 then cG s { f with block:=b.fin.els,at_:=0 } else cG s { f with block:=b.fin.to,at_:=0 })
      else match b.ins[f.at_.toNat]? with
        | none=>s
        | some x=>eF m s f x:=by
      unfold fI
      rw [if_neg (by simp [hd]),ht']
      simp only
      rw [hbo]
      rfl
    rw [hT]
    by_cases hat:f.at_=(b.ins.length:Int)
    · rw [if_pos hat]
      have hE:=lZ hM hu hb
      rw [<- hLr] at hE
      have hk:=rR hE.1
      by_cases h1:b.fin.kind=1
      · rw [if_pos h1]
        exact DM hm hM hg hi hv ho hQ ht' hf0 hu hb0 hb ha0 hat hE h1
      rw [if_neg h1]
      by_cases h4:b.fin.kind=4
      · rw [if_pos h4]
        exact DK hm hM hg hi hv ho ht' hf0 hu hb0 hb ha0 hat hE h4
      rw [if_neg h4]
      by_cases h5:b.fin.kind=5
      · rw [if_pos h5]
        exact pThrow hm hM hg hi hv ho hQ ht' hf0 hu hb0 hb ha0 hat hE h5
      rw [if_neg h5]
      by_cases h6:b.fin.kind=6
      · rw [if_pos h6]
        exact DT hm hM hg hi hv ho hQ ht' hf0 hu hb0 hb ha0 hat h6
      rw [if_neg h6]
      exact pGo hm hM hg hi hv ho ht' hf0 hu hb0 hb ha0 hat hrl hE (by omega)
    · rw [if_neg hat]
      obtain ⟨x,hx⟩:∃ x,b.ins[f.at_.toNat]? = some x:=⟨_,EK (by omega)⟩
      have hI:=qP hM hu hb hx
      rw [<- hLr] at hI
      rw [hx]
      simp only
      by_cases h11:x.op=11
      · exact pCall hm hM hg hi hv ho ht' hf0 hu hb0 hb ha0 hx hI h11
      by_cases h8:x.op<=8
      · exact DZ hm hM hg hi hv ho ht' hf0 hu hb0 hb ha0 hx hI h8 hrl
      by_cases h9:x.op=9
      · exact pLoad hm hM hg hi hv ho ht' hf0 hu hb0 hb ha0 hx hI h9
      by_cases h10:x.op=10
      · exact pStore hm hM hg hi hv ho ht' hf0 hu hb0 hb ha0 hx hI h10
      by_cases h12:x.op=12
      · exact pOut hm hM hg hi hv ho ht' hf0 hu hb0 hb ha0 hx hI h12 hel
      have h13:x.op=13:=by
        have:=D8 hI.1
        omega
      exact pIn hm hM hg hi hv ho ht' hf0 hu hb0 hb ha0 hx hI h13 hel
  obtain ⟨r,hr,hout⟩:=main
  refine ⟨r,?_,hout⟩
  refine ao.of (f52_MR _ _ _ _ _ _ _ _ _ _ _ _ _ _ _ _ _ _ _ _ _ _) ?_
  unfold f52_M
  rw [hz]
  refine aa.chk ?_ (aa.tv hlen (aa.tv (dec h0 (by omega)) (aa.nat hg.slLen (aa.nat (aM (by omega)) (aa.chk (km hg.slSize (by omega)) (f52_0_J hr))))))
  simp [hg.isSl,hi.isSl,hv.isSl,hys,TV.isSc,scV]
end Go.Ab.Q12
end
section
set_option maxRecDepth 10000
namespace Go.Ab
def oU:DMach:=⟨[],List.replicate 16 0,[],[],0,0⟩
theorem xE (k:Nat):oU.c k=0:=by
 simp only [DMach.c,oU,List.getD,List.getElem?_replicate]
 split <;> rfl
def oj:List TV:=[.lit aI,W 0,W 0,W 0,W 0,W 0,W 0,W 0,W 0,W 0,W 0,W 0,W 0,W 0,W 0,W 0,W 0,.lit aI,.lit aI,I 0,W 0]
theorem kT:gj oj oU :=
 ⟨.lit aI,.lit aI,.lit aI,by simp only [oj,aH,xE]; rfl,RL.nil,RL.nil,RL.nil,by simp [oU],fun k=>by rw [xE]; exact nY,in0,nY⟩
theorem gj.fit {e:List TV} {s:DMach} (h:gj e s):(Bool.and ((TV.agg e).isAgg 21) (ab Cj ((TV.agg e).cellsL true) 0))=true:=by
 obtain ⟨g,i,v,rfl,hg,hi,hv,ho⟩:=h
 exact Cy hg.isSl hi.isSl hv.isSl
end Go.Ab
namespace Go.Ab.Q12
open Go Go.Ab Go.Proofs
theorem A5 {e:List TV} {s:DMach} (h:gj e s):isOwn (.agg e)=true:=by
 obtain ⟨g,i,v,rfl,hg,hi,hv,ho⟩:=h
 exact CU (hg.own fun _ _ h=>h.own) (hi.own fun _ _ h=>h.own) (hv.own fun _ _ h=>h.own)
theorem nj {e:List TV} {s:DMach} {n:Int} (h:gj e s):bn [.agg e,I n]=true:=by
 have:=A5 h
 simp only [bn,this,Bool.true_and]
 rfl
open Classical in
theorem Bo {q q':Option Bool} {e:List TV} {x:TV} {m:DMod} {inputs:List Int} (hm:RMod q e m) (hx:RWords q' x inputs) (hl:inputs.length<=4294967296) :
  ∃ e2,ao prog 51 [.agg e,x] (.tup [.agg e2,I (if bP m then 0 else 1)])/\gj e2 (if bP m then jc m inputs else oU):=by
 obtain ⟨e1,hr1,h1⟩:=rNew (n:=0) (args:=[]) hm in0 (RL.nil:RWords none (.lit aI) [])
 obtain ⟨i2,hri,hi2⟩:=r39 hx hl
 obtain ⟨y,rfl,hy⟩:=hm
 by_cases hM:bP m
 ·rw [if_pos hM,if_pos hM]
  have hD:nv m 0 []=jb m 0 []:=by
   unfold nv
   rw [gB hM]
   rfl
  obtain ⟨_,⟨u,hu,hp⟩,_⟩:=id hM
  obtain ⟨hf,hN⟩:=oR (n:=0) (args:=[]) hM (Int.le_refl 0) hu (by simp [hp])
  have hE:Bg (nv m 0 [])=0:=by
   rw [hD]
   cases h:jb m 0 [] with
   | none=>simp [jb,hu,hp] at h
   | some f=>rfl
  rw [hE] at hr1
  rw [hD] at h1
  have h1':=h1
  generalize hF:(jb m 0 []).getD eR=f2 at h1 h1'
  obtain ⟨yn,rfl,hyn,hof⟩:=h1
  have hout:gj (aH (jc m inputs) (.sl true 5 [[I f2.f,I f2.block,I f2.at_,yn,W f2.fly]]) i2 (.lit aI)) (jc m inputs):=by
   refine ⟨_,_,_,rfl,?_,hi2,RL.nil,by simp [jc],fun k=>by rw [CI]; exact nY,in0,nY⟩
   show RL (some true) 5 (RFrame (some true)) _ [(jb m 0 []).getD eR]
   rw [hF]
   exact .sl (by simp) (.cons h1' .nil) (by simp)
  refine ⟨_,?_,hout⟩
  have ho2:=nj (n:=0) hout
  simp only [aH,CI] at ho2 ⊢
  refine ao.of (f51_MR _ _) ?_
  unfold f51_M
  refine aa.chk rfl (aa.call hr1 (aa.chk rfl (aa.chk (fq hyn.isSl) (aa.chk rfl (aa.tv rfl (aa.ite rfl nofun fun _=>aa.call hri (aa.chk ?_ (aa.chk ho2 aa.ret))))))))
  simp [ab,zSl,aO,hi2.isSl]
 ·rw [if_neg hM,if_neg hM]
  have hD:nv m 0 []=none:=by
   unfold nv
   rw [eJ hM]
   rfl
  rw [hD] at hr1 h1
  obtain ⟨yn,rfl,hyn,hof⟩:=h1
  refine ⟨oj,?_,kT⟩
  refine ao.of (f51_MR _ _) ?_
  unfold f51_M
  exact aa.chk rfl (aa.call hr1 (aa.chk rfl (aa.chk (fq hyn.isSl) (aa.chk rfl (aa.tv rfl (aa.ite rfl (fun _=>aa.chk rfl aa.ret) nofun))))))
theorem AJ {m:DMod} (hM:bP m):∀ (n:Nat) (q:Option Bool) (s:DMach) (y g i v:TV),RMod q [y] m->RStack g s.stack->RWords (some true) i s.inputs->RInts (some true) v s.events->s.ok->cH m s->s.events.length + n<=4294967296 ->
  ∃ e2,aa prog 28 (f28_0 (I (n:Int)) (W (s.c 0)) (W (s.c 1)) (W (s.c 2)) (W (s.c 3)) (W (s.c 4)) (W (s.c 5)) (W (s.c 6)) (W (s.c 7)) (W (s.c 8)) (W (s.c 9)) (W (s.c 10)) (W (s.c 11)) (W (s.c 12)) (W (s.c 13)) (W (s.c 14)) (W (s.c 15)) (I s.done) (W s.value) g TV.hole TV.hole TV.hole TV.hole TV.hole TV.hole TV.hole TV.hole TV.hole TV.hole TV.hole TV.hole TV.hole TV.hole TV.hole TV.hole i v TV.hole TV.hole TV.hole y) (.tup [.agg e2,I 0])/\gj e2 (ig m s n):=by
 intro n
 have stop:∀ (s:DMach) (g i v y:TV),RStack g s.stack->RWords (some true) i s.inputs->RInts (some true) v s.events->s.ok->aa prog 28 (f28_1 (W (s.c 0)) (W (s.c 1)) (W (s.c 2)) (W (s.c 3)) (W (s.c 4)) (W (s.c 5)) (W (s.c 6)) (W (s.c 7)) (W (s.c 8)) (W (s.c 9)) (W (s.c 10)) (W (s.c 11)) (W (s.c 12)) (W (s.c 13)) (W (s.c 14)) (W (s.c 15)) (I s.done) (W s.value) g TV.hole TV.hole TV.hole TV.hole TV.hole TV.hole TV.hole TV.hole TV.hole TV.hole TV.hole TV.hole TV.hole TV.hole TV.hole TV.hole i v TV.hole TV.hole TV.hole y) (.tup [.agg (aH s g i v),I 0]):=by
  intro s g i v y hg hi hv ho
  unfold f28_1
  exact aa.chk (nj ⟨g,i,v,rfl,hg,hi,hv,ho⟩) aa.ret
 induction n with
 | zero =>
  intro q s y g i v hm hg hi hv ho hQ hel
  refine ⟨_,?_,⟨g,i,v,rfl,hg,hi,hv,ho⟩⟩
  unfold f28_0
  exact aa.tv rfl (aa.ite rfl nofun fun _=>f28_1_J (stop s g i v y hg hi hv ho))
 | succ n ih =>
  intro q s y g i v hm hg hi hv ho hQ hel
  by_cases hd:s.done=0
  rotate_left
  ·have hT:ig m s (n + 1)=s:=by simp [ig,hd]
   rw [hT]
   refine ⟨_,?_,⟨g,i,v,rfl,hg,hi,hv,ho⟩⟩
   unfold f28_0
   refine aa.tv rfl (aa.ite rfl (fun _=>?_) fun h=>?_)
   ·refine aa.tv rfl (aa.ite rfl (fun h=>?_) fun _=>f28_1_J (stop s g i v y hg hi hv ho))
    simp at h; exact absurd h hd
   ·simp at h <;> omega
  have hT:ig m s (n + 1)=ig m (fI m s) n:=by simp [ig,hd]
  rw [hT]
  have hys:y.isSl=true:=by
   obtain ⟨y',h,h'⟩:=id hm
   cases h
   exact h'.isSl
  obtain ⟨r,hr,hout⟩:=zZ hm hM hg hi hv ho hQ hd (by omega)
  have hQ2:=sI hM hQ
  have hev:(fI m s).events.length<=s.events.length + 1:=by
   rcases wz (m:=m) (s:=s) with h | ⟨a,h⟩ <;> rw [h]
   ·omega
   ·simp
  generalize fI m s=s2 at hout hQ2 hev
  obtain ⟨g2,i2,v2,rfl,hg2,hi2,hv2,ho2⟩:=hout
  have hm2:=hm.frz'
  have hys2:(Go.Ab.frz y).isSl=true:=by
   obtain ⟨y',h,h'⟩:=id hm2
   cases h
   exact h'.isSl
  obtain ⟨e2,hgo,h2⟩:=ih (some false) s2 (Go.Ab.frz y) g2 i2 v2 hm2 hg2 hi2 hv2 ho2 hQ2 (by omega)
  refine ⟨e2,?_,h2⟩
  unfold f28_0
  refine aa.tv rfl (aa.ite rfl (fun _=>?_) fun h=>?_)
  rotate_left
  ·simp at h <;> omega
  refine aa.tv rfl (aa.ite rfl (fun _=>?_) fun h=>?_)
  rotate_left
  ·simp at h; exact absurd hd h
  have hdec:pbin (.int .i64) .sub (I ((n + 1:Nat):Int)) (I (1:Int))=some (I (n:Int)):=by
   have:=dec (n:=n + 1) (by omega) (by omega)
   simpa using this
  refine aa.chk ?_ (aa.call hr (aa.chk ?_ (aa.chk rfl (aa.tv hdec (f28_0_J hgo)))))
  ·simp [hg.isSl,hi.isSl,hv.isSl,hys,TV.isSc,scV]
  ·simp [TV.isTup,TV.comp,nth,aH,hg2.isSl,hi2.isSl,hv2.isSl,hys2,TV.isSc,scV]
open Classical in
theorem xJ {q q':Option Bool} {e:List TV} {x:TV} {m:DMod} {inputs:List Int} {fuel:Int} (hm:RMod q e m) (hx:RWords q' x inputs) (hl:inputs.length<=4294967296) :
  ∃ e2,ao prog 28 [.agg e,x,I fuel] (.tup [.agg e2,I (if bP m/\fuel<=1048576 then 0 else 1)])/\gj e2 (if bP m/\fuel<=1048576 then ig m (jc m inputs) fuel.toNat else oU):=by
 obtain ⟨e1,hr1,h1⟩:=Bo hm hx hl
 have hm':=hm
 obtain ⟨y,rfl,hy⟩:=hm
 by_cases hM:bP m
 rotate_left
 ·rw [if_neg hM] at hr1 h1
  rw [if_neg (fun h=>hM h.1),if_neg (fun h=>hM h.1)]
  refine ⟨oj,?_,kT⟩
  refine ao.of (f28_MR _ _ _) ?_
  unfold f28_M
  exact aa.chk rfl (aa.call hr1 (aa.chk rfl (aa.chk h1.fit (aa.chk rfl (aa.tv rfl (aa.ite rfl (fun _=>aa.chk rfl aa.ret) nofun))))))
 rw [if_pos hM] at hr1 h1
 by_cases hf:fuel<=1048576
 rotate_left
 ·rw [if_neg (fun h=>hf h.2),if_neg (fun h=>hf h.2)]
  refine ⟨oj,?_,kT⟩
  refine ao.of (f28_MR _ _ _) ?_
  unfold f28_M
  refine aa.chk rfl (aa.call hr1 (aa.chk rfl (aa.chk h1.fit (aa.chk rfl (aa.tv rfl (aa.ite rfl nofun fun _=>aa.tv rfl (aa.ite rfl (fun _=>aa.chk rfl aa.ret) fun h=>?_)))))))
  simp at h; omega
 rw [if_pos ⟨hM,hf⟩,if_pos ⟨hM,hf⟩]
 have hQ:=kV (inputs:=inputs) hM
 have hev:(jc m inputs).events.length=0:=by simp [jc]
 have hfit:=h1.fit
 have hs0:∀ s:DMach,fuel<=0->ig m s fuel.toNat=s:=by
  intro s h
  have:fuel.toNat=0:=by omega
  rw [this]
  rfl
 generalize jc m inputs=s at h1 hQ hev
 obtain ⟨g,i,v,rfl,hg,hi,hv,ho⟩:=h1
 have hgo:∃ e2,aa prog 28 (f28_0 (I fuel) (W (s.c 0)) (W (s.c 1)) (W (s.c 2)) (W (s.c 3)) (W (s.c 4)) (W (s.c 5)) (W (s.c 6)) (W (s.c 7)) (W (s.c 8)) (W (s.c 9)) (W (s.c 10)) (W (s.c 11)) (W (s.c 12)) (W (s.c 13)) (W (s.c 14)) (W (s.c 15)) (I s.done) (W s.value) g TV.hole TV.hole TV.hole TV.hole TV.hole TV.hole TV.hole TV.hole TV.hole TV.hole TV.hole TV.hole TV.hole TV.hole TV.hole TV.hole i v TV.hole TV.hole TV.hole y) (.tup [.agg e2,I 0])/\gj e2 (ig m s fuel.toNat):=by
  by_cases h0:0<=fuel
  ·have:=AJ hM fuel.toNat q s y g i v hm' hg hi hv ho hQ (by omega)
   rw [Int.toNat_of_nonneg h0] at this
   exact this
  ·refine ⟨_,?_,by rw [hs0 s (by omega)]; exact ⟨g,i,v,rfl,hg,hi,hv,ho⟩⟩
   unfold f28_0
   refine aa.tv rfl (aa.ite rfl (fun h=>?_) fun _=>f28_1_J ?_)
   ·simp at h; omega
   ·unfold f28_1
    exact aa.chk (nj ⟨g,i,v,rfl,hg,hi,hv,ho⟩) aa.ret
 obtain ⟨e2,hgo,h2⟩:=hgo
 refine ⟨e2,?_,h2⟩
 refine ao.of (f28_MR _ _ _) ?_
 unfold f28_M
 refine aa.chk rfl (aa.call hr1 (aa.chk rfl (aa.chk hfit (aa.chk rfl (aa.tv rfl (aa.ite rfl nofun fun _=>aa.tv rfl (aa.ite rfl (fun h=>?_) fun _=>aa.chk hy.isSl (f28_0_J hgo))))))))
 simp at h; omega
end Go.Ab.Q12
end
section
set_option maxRecDepth 10000
namespace Go.Ab
section
variable {m:DMod} {s:DMach}
theorem ya (h:¬ s.done=0):fI m s=s:=by simp [fI,h]
theorem me (h:¬ s.done=0):∀ n,ig m s n=s
 | 0=>rfl
 | n + 1=>by simp [ig,h]
theorem wN:∀ (a b:Nat) (s:DMach),ig m s (a + b)=ig m (ig m s a) b
 | 0,b,s=>by simp [ig]
 | a + 1, b, s => by
  rw [show a + 1 + b=(a + b) + 1 by omega]
  by_cases h:s.done=0
  ·simp only [ig,h,if_true]
   exact wN a b _
  ·rw [me h,me h,me h]
theorem CH:ig m s 1=fI m s:=by
 by_cases h:s.done=0
 ·simp [ig,h]
 ·rw [me h,ya h]
theorem uM {n:Nat}:ig m s (n + 1)=fI m (ig m s n):=by rw [wN,CH]
end
end Go.Ab
end
section
set_option maxRecDepth 10000
namespace Go.Ab
theorem Ci {p k:Int} (hp:0<=p/\p<=255) (hk:0 < k):∃ N:Nat,p.tmod k=(N:Int)/\(N:Int) < k/\(N:Int)<=p:=by
 rw [Int.tmod_eq_emod_of_nonneg hp.1]
 have h1:=Int.emod_nonneg p (show k≠0 by omega)
 have h2:=Int.emod_lt_of_pos p hk
 have h3:p % k<=p:=Int.emod_le hp.1
 exact ⟨(p % k).toNat,by omega,by omega,by omega⟩
where
 Int.emod_le {p k:Int} (hp:0<=p):p % k<=p:=by
  have:=Int.emod_add_mul_ediv p k
  rcases Int.lt_trichotomy k 0 with h | h | h
  ·have h1:=Int.emod_neg p k
   have h2:=Int.mul_ediv_self_le (x:=p) (k:=-k) (by omega)
   have h3:p % -k=p - -k * (p / -k):=by have:=Int.emod_add_mul_ediv p (-k); omega
   have h4:0<=p / -k:=Int.ediv_nonneg hp (by omega)
   have h5:0<=-k * (p / -k):=Int.mul_nonneg (by omega) h4
   rw [<- Int.emod_neg]
   omega
  ·subst h; simp
  ·have h4:0<=p / k:=Int.ediv_nonneg hp (by omega)
   have h5:0<=k * (p / k):=Int.mul_nonneg (by omega) h4
   omega
theorem CO {a:Int} (h0:0<=a) (h:a<=255):pconv (.int .i64) (.lit (.int .u8 a))=some (I a):=by
 simp only [pconv]
 rw [IntKind.wrap_i64]
 congr 3
 omega
end Go.Ab
namespace Go.Ab.Q12
open Go Go.Ab Go.Proofs
open Classical in
theorem D0 {q q':Option Bool} {e:List TV} {x:TV} {m:DMod} {l:List Int} (hm:RMod q e m) (hM:bP m) (hx:RWords q' x l) (hl:l.length<=4294967296) {n:Nat} (hn:n<=1048576):∃ e2,ao prog 28 [.agg e,x,I (n:Int)] (.tup [.agg e2,I 0])/\gj e2 (ig m (jc m l) n):=by
 obtain ⟨e2,hr,h⟩:=xJ (fuel:=(n:Int)) hm hx hl
 have hc:bP m/\(n:Int)<=1048576:=⟨hM,by omega⟩
 rw [if_pos hc] at hr h
 exact ⟨e2,hr,by simpa using h⟩
theorem pD {m:DMod} (hM:bP m) {s:DMach} (hQ:cH m s):∀ n,cH m (ig m s n)
 | 0=>hQ
 | n + 1=>by
  rw [uM]
  exact sI hM (pD hM hQ n)
end Go.Ab.Q12
end
section
set_option maxRecDepth 10000
namespace Go.Ab
def sa (m:DMod) (f g:DFrame):Prop:=g.f=f.f/\(g.block=f.block\/∃ u,m.funcs[f.f.toNat]? = some u/\g.block ∈ bE u.blocks f.block.toNat)
def isNewF (m:DMod) (g:DFrame):Prop:=0<=g.f/\g.block=0/\∃ u,m.funcs[g.f.toNat]? = some u/\0 < u.blocks.length
def jK (m:DMod) (l l':List DFrame):Prop:=∀ g ∈ l',isNewF m g\/∃ f ∈ l,sa m f g
theorem sa.same (m:DMod) (f:DFrame):sa m f f:=⟨rfl,.inl rfl⟩
theorem jK.same (m:DMod) (l:List DFrame):jK m l l:=fun g hg=>.inr ⟨g,hg,.same m g⟩
theorem jK.sub {m:DMod} {l l':List DFrame} (h:∀ g ∈ l',g ∈ l):jK m l l':=fun g hg=>.inr ⟨g,h g hg,.same m g⟩
theorem jK.with_ {m:DMod} {l:List DFrame} {s:DMach} {f g:DFrame} (hs:∀ x ∈ s.stack,x ∈ l) (hf:f ∈ l) (hg:sa m f g):jK m l (cG s g).stack:=by
 intro x hx
 rcases List.mem_append.1 hx with hx | hx
 ·exact .inr ⟨x,hs x (List.mem_of_mem_take hx),.same m x⟩
 ·rw [List.mem_singleton] at hx
  subst hx
  exact .inr ⟨f,hf,hg⟩
theorem qT {u:DFunc} {b:DBlock} {n:Nat} {g:Int} {l:Bool} (hb:u.blocks[n]? = some b) (hg:g ∈ nx b) (ht:lA u.blocks g l):g ∈ bE u.blocks n:=by
 unfold bE
 rw [hb]
 refine List.mem_filter.2 ⟨hg,?_⟩
 obtain ⟨h0,b',hb',_⟩:=ht
 have:=(EJ.1 hb').1
 simp [g8]
 omega
end Go.Ab
namespace Go.Ab.Q12
open Go Go.Ab Go.Proofs
theorem vD {s:DMach} {f:DFrame} (h:i5 s=some f):f ∈ s.stack:=ES h
theorem qx {m:DMod} {s:DMach} {n regs:Int} {places:List Int} {f:DFrame} (hM:bP m) (ht:i5 s=some f) (ha:xb m.funcs regs n places):jK m s.stack (bJ m s n places).stack:=by
 obtain ⟨h0,u,hu,hul,_⟩:=ha
 unfold bJ
 split
 ·exact .same m _
 ·rw [ht]
  intro g hg
  rcases List.mem_append.1 hg with hg | hg
  ·exact .inr ⟨g,hg,.same m g⟩
  ·rw [List.mem_singleton] at hg
   subst hg
   have hT:jb m n (aJ f.regs places)=some ⟨n,0,0,(aJ f.regs places).take u.regs.toNat ++ List.replicate (u.regs.toNat - (aJ f.regs places).length) 0,0⟩:=by simp [jb,h0,hu,bH,hul]
   rw [hT]
   obtain ⟨b,hb,_⟩:=(iP hM hu).2.2.1
   exact .inl ⟨h0,rfl,u,hu,(EJ.1 hb).1⟩
theorem AX {m:DMod} {f:DFrame} {w:Int} (hM:bP m) (hQ:cJ m f) {b:DBlock} (hb:aY m f=some b) (h4:b.fin.kind=4):sa m f ((ik m f (jV m f) w).getD f):=by
 obtain ⟨hf0,u,hu,_,hb0,b',hb',_⟩:=hQ
 have:b'=b:=by
  have:aY m f=some b':=by simp [aY,hu,hb']
  rw [hb] at this
  cases this
  rfl
 subst this
 have hp:jV m f=b'.fin.pad:=by simp [jV,hu,hb']
 have hG:=oE hM hu hb' h4
 rw [hp]
 have hG':=hG
 obtain ⟨hp0,b2,hb2,hl⟩:=hG
 rw [s6 hu hp0 hb2 hl]
 exact ⟨rfl,.inr ⟨u,hu,qT hb' (by simp [nx,h4]) hG'⟩⟩
theorem wO {P:Nat->Prop}:∀ {n k:Nat},na P n=some k->P k/\k < n:=by
 intro n
 induction n with
 | zero=>intro k h; cases h
 | succ n ih =>
  intro k h
  unfold na at h
  split at h
  ·cases h; exact ⟨by assumption,by omega⟩
  ·have:=ih h
   exact ⟨this.1,by omega⟩
theorem qw {m:DMod} {s:DMach} {w:Int} (hM:bP m) (hQ:cH m s):jK m s.stack (be m s w).stack:=by
 unfold be
 split
 ·split
  ·exact .same m _
  ·rename_i k hk
   split
   ·exact .same m _
   ·rename_i f hf
    obtain ⟨⟨f',hf',hc⟩,hlt⟩:=wO hk
    rw [List.getElem?_take,if_pos hlt,hf] at hf'
    cases hf'
    obtain ⟨u,b,hu,hb,h4⟩:∃ u b,m.funcs[f.f.toNat]? = some u/\u.blocks[f.block.toNat]? = some b/\b.fin.kind=4:=by
     obtain ⟨u,b,_,hu,hb,_,h4,_⟩:=hc
     exact ⟨u,b,hu,hb,h4⟩
    have hbo:aY m f=some b:=by simp [aY,hu,hb]
    exact .with_ (fun x hx=>List.mem_of_mem_take hx) (ES hf) (AX hM (hQ.st.1 k f hf) hbo h4)
 ·exact .sub fun g hg=>List.mem_of_mem_take hg
theorem tG {m:DMod} {s:DMach} {w:Int} (hM:bP m) (hQ:cH m s):jK m s.stack (bQ m s w).stack:=by
 unfold bQ
 split
 ·exact .same m _
 ·rename_i f hf
  split
  ·exact fun g hg=>by cases hg
  ·rename_i h1
   obtain ⟨f2,hf2⟩:∃ f,s.stack[s.stack.length - 2 + 1]? = some f:=⟨_,EK (by omega)⟩
   obtain ⟨u,b,hu,hb,hlink⟩:=hQ.st.2 _ f f2 hf hf2
   have hbo:aY m f=some b:=by simp [aY,hu,hb]
   rw [hbo]
   simp only
   split
   ·rename_i hat
    have h4:b.fin.kind=4:=by
     rcases hlink with ⟨_,h,_⟩ | ⟨h,_⟩
     ·exact h
     ·exact absurd hat h
    have hE:=(lZ hM hu hb).2.2.2.2.1.1
    rw [h4] at hE
    refine .with_ (fun x hx=>List.mem_of_mem_take hx) (ES hf) ⟨rfl,.inr ⟨u,hu,qT hb ?_ (hE rfl)⟩⟩
    simp [nx,gl,h4]
   ·split
    ·exact .same m _
    ·exact .with_ (fun x hx=>List.mem_of_mem_take hx) (ES hf) ⟨rfl,.inl rfl⟩
theorem Dh {m:DMod} {s:DMach} {f:DFrame} {x:DIns} (hM:bP m) (ht:i5 s=some f) (hI:oc m.funcs f.regs.length x):jK m s.stack (eF m s f x).stack:=by
 have hm:=vD ht
 have wi:∀ (s':DMach) (g:DFrame),s'.stack=s.stack->g.f=f.f->g.block=f.block->jK m s.stack (cG s' g).stack:=fun s' g h1 h2 h3 =>
  .with_ (fun x hx=>by rw [h1] at hx; exact hx) hm ⟨h2,.inl h3⟩
 unfold eF
 split
 ·rename_i h11
  have hc:=hI.2.2.2.2.2.1
  rw [h11] at hc
  exact qx hM ht (hc rfl)
 split
 ·split
  ·rcases oI (f:=f) (x:=x) with h | ⟨w,h⟩
   ·rw [h]; exact wi _ _ rfl rfl rfl
   ·rw [h]; exact wi _ _ rfl rfl rfl
  ·exact .same m _
 split
 ·split
  ·exact .same m _
  ·exact wi _ _ rfl rfl rfl
 split
 ·split
  ·exact .same m _
  ·exact wi _ _ rfl rfl rfl
 split
 ·exact wi _ _ rfl rfl rfl
 split
 ·exact .same m _
 ·exact wi _ _ rfl rfl rfl
theorem A3 {m:DMod} {s:DMach} (hM:bP m) (hQ:cH m s):jK m s.stack (fI m s).stack:=by
 unfold fI
 split
 ·exact .same m _
 split
 ·exact .same m _
 ·rename_i f ht
  have hF:=hQ.st.1 _ f ht
  have hFc:=hF
  obtain ⟨hf0,u,hu,hLr,hb0,b',hb',ha0,ha1⟩:=hF
  split
  ·exact .same m _
  ·rename_i b hb
   have:b'=b:=by
    have:aY m f=some b':=by simp [aY,hu,hb']
    rw [hb] at this
    cases this
    rfl
   subst this
   have hE:=lZ hM hu hb'
   split
   ·rename_i hat
    split
    ·exact tG hM hQ
    split
    ·rename_i h4
     have ha:=hE.2.2.2.1
     rw [h4] at ha
     exact qx hM ht (ha.1 rfl)
    split
    ·exact qw hM hQ
    split
    ·exact qw hM hQ
    split
    ·rename_i h3
     have hG:=hE.2.2.2.2.2.1.1
     rw [h3.1] at hG
     exact .with_ (fun x hx=>hx) (vD ht) ⟨rfl,.inr ⟨u,hu,qT hb' (by simp [nx,gl,h3.1]) (hG rfl)⟩⟩
    ·rename_i h1 h4 h5 h6 h3
     have hk:=rR hE.1
     have hG:=hE.2.2.2.2.1.1
     have h23:b'.fin.kind=2\/b'.fin.kind=3:=by omega
     refine .with_ (fun x hx=>hx) (vD ht) ⟨rfl,.inr ⟨u,hu,qT hb' (by rcases h23 with h | h <;> simp [nx,gl,h]) (hG ?_)⟩⟩
     rcases h23 with h | h <;> (rw [h]; rfl)
   ·split
    ·exact .same m _
    ·rename_i x hx
     have hI:=qP hM hu hb' hx
     rw [<- hLr] at hI
     exact Dh hM ht hI
end Go.Ab.Q12
end
section
set_option maxRecDepth 10000
namespace Go.Ab
def oF (m:DMod) (l:List DFrame):Prop:=∀ f ∈ l,0<=f.f/\∃ u,m.funcs[f.f.toNat]? = some u/\Rc u.blocks (-1) f.block.toNat
theorem oF.from_ {m:DMod} {l l':List DFrame} (h:oF m l) (hf:jK m l l'):oF m l':=by
 intro g hg
 rcases hf g hg with ⟨h0,hb,u,hu,hl⟩ | ⟨f,hf,he,hor⟩
 ·exact ⟨h0,u,hu,by rw [hb]; exact .start (by omega) hl⟩
 ·obtain ⟨h0,u,hu,hr⟩:=h f hf
  refine ⟨by rw [he]; exact h0,u,by rw [he]; exact hu,?_⟩
  rcases hor with hb | ⟨u',hu',hgb⟩
  ·rw [hb]; exact hr
  ·rw [hu] at hu'
   cases hu'
   have:=fM hgb
   exact .next hr hgb (by omega)
end Go.Ab
namespace Go.Ab.Q12
open Go Go.Ab Go.Proofs
theorem yk {m:DMod} {l:List Int} (hM:bP m):oF m (jc m l).stack:=by
 intro f hf
 have hQ:=kV (inputs:=l) hM
 have hfe:f=(jb m 0 []).getD eR:=by simpa [jc] using hf
 have h0:(jc m l).stack[0]? = some f:=by rw [hfe]; rfl
 obtain ⟨hf0,u,hu,_,hb0,b,hb,_⟩:=hQ.st.1 0 f h0
 have hb00:f.block=0:=by
  rw [hfe]
  unfold jb
  split
  ·cases m.funcs[(0:Int).toNat]? with
   | none=>rfl
   | some g =>
    simp only [Option.bind_some]
    split <;> rfl
  ·rfl
 refine ⟨hf0,u,hu,?_⟩
 rw [hb00] at hb ⊢
 exact .start (by omega) (EJ.1 hb).1
theorem rL {m:DMod} {l:List Int} (hM:bP m):∀ n,oF m (ig m (jc m l) n).stack
 | 0=>yk hM
 | n + 1=>by
  rw [uM]
  exact (rL hM n).from_ (A3 hM (pD hM (kV hM) n))
theorem lReaches {e:List TV} {x:TV} {m:DMod} {l:List Int} {p:Int} (hm:RMod (some false) e m) (hx:RWords (some false) x l) (hp:0<=p/\p<=255) :
  ao prog 5 [.agg e,x,.lit (.int .u8 p)] (B true):=by
 obtain ⟨b,hsm,hsb⟩:=rSmall hm hx
 have hm':=hm
 obtain ⟨y,rfl,hy⟩:=hm
 obtain ⟨N,hN,hN2,_⟩:=Ci (k:=200) hp (by omega)
 have hrem1:pbin (.int .u8) .rem (.lit (.int .u8 p)) (.lit (.int .u8 200))=some (.lit (.int .u8 (N:Int))):=by rw [<- hN]; rfl
 have hcv1:pconv (.int .i64) (.lit (.int .u8 (N:Int)))=some (I (N:Int)):=CO (by omega) (by omega)
 refine ao.of (f5_MR _ _ _) ?_
 unfold f5_M
 refine aa.chk rfl (aa.call DQ (aa.chk rfl (aa.tv rfl (aa.ite rfl nofun fun _=>aa.call hsm (aa.chk rfl (aa.tv rfl (aa.ite rfl (fun _=>aa.ret) fun h=>?_)))))))
 have hb:b=true:=by simpa using h
 obtain ⟨_,hl⟩:=hsb hb
 refine aa.tv hrem1 (aa.tv hcv1 ?_)
 by_cases hM:bP m
 rotate_left
 ·obtain ⟨e2,hq2,h2⟩:=xJ (fuel:=(N:Int)) hm' hx (by omega)
  rw [if_neg (fun h=>hM h.1)] at hq2 h2
  have hfit2:=h2.fit
  have h2w:=h2.weak
  obtain ⟨g,i,v,rfl,hg,hi,hv,ho⟩:=h2
  obtain ⟨g',i',v',e',hg',hi',hv',ho'⟩:=h2w
  cases e'
  have hs:=rMSame (RMach.frz' hg' hi' hv' ho') kT.weak
  rw [gB rfl] at hs
  exact aa.call hq2 (aa.chk rfl (aa.chk hfit2 (aa.chk rfl (aa.tv rfl (aa.ite rfl (fun _=>aa.call hs (aa.chk rfl aa.ret)) nofun)))))
 obtain ⟨e2,hq2,h2⟩:=D0 (n:=N) hm' hM hx (by omega) (by omega)
 have hfit2:=h2.fit
 have hQ:=pD hM (kV (inputs:=l) hM) N
 have hS:=rL (l:=l) hM N
 generalize ig m (jc m l) N=s at h2 hQ hS
 obtain ⟨g,i,v,rfl,hg,hi,hv,ho⟩:=h2
 have h32:=hQ.2.1
 have hlen:=RL.len (t:=51) hg
 refine aa.call hq2 (aa.chk rfl (aa.chk hfit2 (aa.chk rfl (aa.tv rfl (aa.ite rfl nofun fun _=>?_)))))
 have loop:∀ (d k:Nat),k + d=s.stack.length->aa prog 5 (f5_0 (I k) y (W (s.c 0)) (W (s.c 1)) (W (s.c 2)) (W (s.c 3)) (W (s.c 4)) (W (s.c 5)) (W (s.c 6)) (W (s.c 7)) (W (s.c 8)) (W (s.c 9)) (W (s.c 10)) (W (s.c 11)) (W (s.c 12)) (W (s.c 13)) (W (s.c 14)) (W (s.c 15)) (I s.done) (W s.value) g TV.hole TV.hole TV.hole TV.hole TV.hole TV.hole TV.hole TV.hole TV.hole TV.hole TV.hole TV.hole TV.hole TV.hole TV.hole TV.hole i v TV.hole TV.hole TV.hole) (B true):=by
  intro d
  induction d with
  | zero =>
   intro k hk
   have hk:k=s.stack.length:=by omega
   subst hk
   unfold f5_0
   exact aa.tv hlen (aa.tv rfl (aa.ite bL nofun fun _=>aa.ret))
  | succ d ih =>
   intro k hk
   have hkl:k < s.stack.length:=by omega
   have ank:ak (I (k:Nat))=some k:=cw (by omega)
   obtain ⟨f,hfe⟩:∃ f,f=s.stack[k]:=⟨_,rfl⟩
   have hsk:s.stack[k]? = some f:=by rw [hfe]; exact EK hkl
   obtain ⟨hf0,u,hu,hr⟩:=hS f (ES hsk)
   obtain ⟨_,u',hu',_,hb0,b',hb',_⟩:=hQ.st.1 k f hsk
   have hblk:=(iP hM hu).2.1
   obtain ⟨ef,hef,gr,rfl,hgr,hof⟩:=hg.pel hsk
   obtain ⟨eu,heu,hru⟩:=hy.bW (k:=.i64) hf0 hu
   obtain ⟨yr,Mr,hyr,hrr,hF⟩:=r85 hru (by omega)
   obtain ⟨bs,rfl,hbs,_⟩:=hru
   have hMt:Mr[f.block.toNat]? = some true:=(hF.2 _).2 hr
   have hMl:=(EJ.1 hMt).1
   obtain ⟨em,hem,hRm⟩:=hrr.pel hMt
   cases hRm
   unfold f5_0
   refine aa.tv hlen (aa.tv rfl (aa.ite (bv hkl) (fun _=>?_) nofun))
   refine aa.nat hg.slLen (aa.nat ank (aa.chk (km hg.slSize hkl) (aa.tvs hef (aa.chk rfl (aa.tvs heu (aa.chk rfl (aa.call hyr (aa.chk (je hrr.isSl) ?_))))))))
   refine aa.nat hg.slLen (aa.nat ank (aa.chk (km hg.slSize hkl) (aa.tvs hef (aa.chk rfl ?_))))
   refine aa.nat hrr.slLen (aa.nat (pG hb0 hof.2.1) (aa.chk (km hrr.slSize hMl) (aa.tvs hem (aa.chk rfl (aa.tv rfl (aa.ite (v:=false) rfl nofun fun _=>?_))))))
   exact aa.tv (inc hkl (by omega)) (f5_0_J (ih (k + 1) (by omega)))
 exact f5_0_J (loop s.stack.length 0 (by omega))
end Go.Ab.Q12
end
section
namespace Go.Ab
open Go.RowKit
theorem aN {α:Type} (d:α):∀ (l:List α) (n:Nat),nth d l n=(l[n]?).getD d
 | [],n=>by simp [nth]
 | a :: l,0=>rfl
 | a :: l,n + 1=>by simp [nth,aN d l n]
theorem ah {α:Type}:∀ (l:List α) (n:Nat) (b:α),am l n b=l.set n b
 | [],n,b=>by simp [am]
 | a :: l,0,b=>rfl
 | a :: l,n + 1,b=>by simp [am,ah l n b]
theorem bM {α:Type} {d:α} {l:List α} {n:Nat} {a:α} (h:l[n]? = some a):nth d l n=a:=by rw [aN,h]; rfl
theorem az (a b:Nat):a.beq b=true ↔ a=b:=⟨Nat.eq_of_beq_eq_true,fun h=>h ▸ Nat.beq_refl a⟩
theorem cm (n:Nat):∀ l:List Nat,bS n l=true ↔ n ∈ l
 | []=>by simp [bS]
 | a :: l => by
  cases h:a.beq n
  ·have:a≠n:=fun e=>by simp [e] at h
   simp only [bS,h,cond_false,cm n l,List.mem_cons]
   constructor
   ·exact .inr
   ·rintro (e | e)
    ·exact absurd e.symm this
    ·exact e
  ·simp only [bS,h,cond_true,List.mem_cons,true_iff]
   exact .inl ((az a n).1 h).symm
theorem ft (a:Addr) (k:Nat):(a.add k).block=a.block:=by unfold Addr.add; split <;> rfl
theorem eP (a:Addr) (i j:Nat):(a.add i).add j=a.add (i + j):=by
 unfold Addr.add
 by_cases hi:i=0 <;> by_cases hj:j=0 <;> simp [hi,hj,Nat.add_assoc]
theorem er (b o k:Nat):(⟨b,o,none⟩:Addr).add k=⟨b,o + k,none⟩:=by unfold Addr.add; split <;> simp_all
def spl {α:Type} (l:List α) (o:Nat) (ys:List α):List α:=l.take o ++ ys ++ l.drop (o + ys.length)
theorem iA {α:Type} {l ys:List α} {o:Nat} (h:o + ys.length<=l.length):(spl l o ys).length=l.length:=by
 simp only [spl,List.length_append,List.length_take,List.length_drop]
 omega
theorem cU {α:Type} {l ys:List α} {o:Nat} (h:o + ys.length<=l.length) (k:Nat):(spl l o ys)[k]? = if o<=k/\k < o + ys.length then ys[k - o]? else l[k]? := by
 have e1:(l.take o).length=o:=by simp; omega
 unfold spl
 by_cases h1:k < o
 ·rw [List.append_assoc,ET (by omega),List.getElem?_take,if_pos h1,if_neg (by omega)]
 ·by_cases h2:k < o + ys.length
  ·rw [List.append_assoc,EU (by omega),e1,ET (by omega),if_pos (by omega)]
  ·rw [EU (by simp; omega),List.getElem?_drop,if_neg (by omega)]
   congr 1
   simp
   omega
theorem fp {α:Type}:∀ (ps l:List α) (off:Nat),off + ps.length<=l.length->bh l off ps=spl l off ps
 | [],l,off,h=>by simp [bh,spl]
 | p :: ps, l, off, h => by
  have hlt:off < l.length:=by simp at h; omega
  simp only [bh]
  rw [ah,fp ps (l.set off p) (off + 1) (by simp at h ⊢; omega)]
  apply List.ext_getElem?
  intro k
  rw [cU (by simp at h ⊢; omega),cU h]
  simp only [List.length_cons,List.getElem?_set]
  by_cases h1:k < off
  ·rw [if_neg (by omega),if_neg (by omega),if_neg (by omega)]
  ·by_cases h2:k=off
   ·subst h2
    rw [if_neg (by omega),if_pos (by omega)]
    simp [hlt]
   ·by_cases h3:k < off + (ps.length + 1)
    ·rw [if_pos (by omega),if_pos (by omega)]
     rw [show k - off=(k - (off + 1)) + 1 by omega,List.getElem?_cons_succ]
    ·rw [if_neg (by omega),if_neg (by omega),if_neg (by omega)]
theorem eZ {α:Type}:∀ (l:List α) (o n:Nat) (r:List α),la l o n=some r->r.length=n/\(n=0\/o + n<=l.length)/\∀ j,j < n->r[j]? = l[o + j]?
 | l,o,0,r,h=>by cases l <;> simp [la] at h <;> subst h <;> simp
 | [],o,n + 1,r,h=>by simp [la] at h
 | a :: l, 0, n + 1, r, h => by
  simp only [la] at h
  cases h1:la l 0 n with
  | none=>simp [h1] at h
  | some r' =>
   simp only [h1,EL] at h
   subst h
   obtain ⟨i1,i2,i3⟩:=eZ l 0 n r' h1
   refine ⟨by simp [i1],.inr (by simp; omega),fun j hj=>?_⟩
   cases j with
   | zero=>simp
   | succ j=>simpa using i3 j (by omega)
 | a :: l,o + 1,n + 1,r,h=>by
  simp only [la] at h
  obtain ⟨i1,i2,i3⟩:=eZ l o (n + 1) r h
  refine ⟨i1,.inr (by rcases i2 with i2 | i2 <;> simp <;> omega),fun j hj=>?_⟩
  rw [i3 j hj,show o + 1 + j=(o + j) + 1 by omega,List.getElem?_cons_succ]
theorem bY {α:Type} {s:Nat}:∀ {xs:List (List α)},(∀ x ∈ xs,x.length=s)->xs.flatten.length=xs.length * s
 | [],_=>by simp
 | x :: xs,h=>by
  simp only [List.flatten_cons,List.length_append,List.length_cons,h x EQ,bY (fun y hy=>h y (ER _ hy)),Nat.add_mul]
  omega
theorem fP {α:Type} {s:Nat}:∀ {xs:List (List α)} {i j:Nat} {x:List α} {c:α},(∀ x ∈ xs,x.length=s)->xs[i]? = some x->x[j]? = some c->xs.flatten[i * s + j]? = some c
 | x :: xs,0,j,_,c,h,hi,hj=>by
  simp at hi
  subst hi
  rw [List.flatten_cons,ET (by simp; exact (EJ.1 hj).1)]
  simpa using hj
 | x :: xs,i + 1,j,y,c,h,hi,hj=>by
  simp at hi
  have hx:=h x EQ
  rw [List.flatten_cons,EU (by rw [hx,Nat.add_mul]; omega),hx,show (i + 1) * s + j - s=i * s + j by rw [Nat.add_mul]; omega]
  exact fP (fun z hz=>h z (ER _ hz)) hi hj
theorem take_add {α:Type} {x l:List α} {s n:Nat} (h:x.length=s):(x ++ l).take (s + n)=x ++ l.take n:=by
 subst h
 exact List.take_length_add_append n
theorem wM {α:Type} {x l:List α} {s n:Nat} (h:x.length=s):(x ++ l).drop (s + n)=l.drop n:=by
 subst h
 exact List.drop_length_add_append n
theorem pC (n s:Nat):(n + 1) * s=s + n * s:=by rw [Nat.add_mul]; omega
theorem l5 {α:Type} {s:Nat}:∀ {xs:List (List α)} (n:Nat),(∀ x ∈ xs,x.length=s)->(xs.take n).flatten=xs.flatten.take (n * s)
 | [],n,_=>by simp
 | x :: xs,0,_=>by simp
 | x :: xs,n + 1,h=>by
  have hx:=h x EQ
  rw [List.take_succ_cons,List.flatten_cons,List.flatten_cons,l5 n (fun z hz=>h z (ER _ hz)),pC,take_add hx]
theorem l7 {α:Type} {s:Nat}:∀ {xs:List (List α)} (n:Nat),(∀ x ∈ xs,x.length=s)->(xs.drop n).flatten=xs.flatten.drop (n * s)
 | [],n,_=>by simp
 | x :: xs,0,_=>by simp
 | x :: xs,n + 1,h=>by
  have hx:=h x EQ
  rw [List.drop_succ_cons,List.flatten_cons,l7 n (fun z hz=>h z (ER _ hz)),pC,wM hx]
theorem xi {α:Type} {s:Nat}:∀ {xs:List (List α)} {i:Nat} {x y:List α},(∀ x ∈ xs,x.length=s)->xs[i]? = some x->y.length=s->(xs.set i y).flatten=spl xs.flatten (i * s) y
 | x :: xs,0,_,y,h,hi,hy=>by
  simp at hi
  subst hi
  have hx:=h x EQ
  simp only [List.set_cons_zero,List.flatten_cons,Nat.zero_mul,spl,List.take_zero,List.nil_append,Nat.zero_add,hy,List.drop_append,hx,Nat.sub_self,List.drop_zero]
  rw [List.drop_of_length_le (by omega),List.nil_append]
 | x :: xs,i + 1,z,y,h,hi,hy=>by
  simp at hi
  have hx:=h x EQ
  have ih:=xi (fun z hz=>h z (ER _ hz)) hi hy
  simp only [List.set_cons_succ,List.flatten_cons,ih,spl,pC,take_add hx,hy]
  rw [show s + i * s + s=s + (i * s + s) by omega,wM hx]
  simp only [List.append_assoc]
theorem zu {α:Type} {s:Nat} {xs:List (List α)} {i:Nat} {y:List α} (h:∀ x ∈ xs,x.length=s) (hy:y.length=s):∀ x ∈ xs.set i y,x.length=s:=by
 intro x hx
 rcases List.mem_or_eq_of_mem_set hx with h' | h'
 ·exact h x h'
 ·rw [h']; exact hy
theorem xI {α:Type} {s:Nat} {xs:List (List α)} {i j:Nat} {x ys:List α} (h:∀ x ∈ xs,x.length=s) (hi:xs[i]? = some x) (hj:j + ys.length<=x.length) :
  (xs.set i (spl x j ys)).flatten=spl xs.flatten (i * s + j) ys/\i * s + j + ys.length<=xs.flatten.length:=by
 have hx:=h x (ES hi)
 have hlt:i < xs.length:=(EJ.1 hi).1
 have hle:i * s + s<=xs.flatten.length:=by
  rw [bY h]
  have:=Nat.mul_le_mul_right s (Nat.succ_le_of_lt hlt)
  rw [Nat.succ_mul] at this
  exact this
 refine ⟨?_,by omega⟩
 rw [xi h hi (by rw [iA hj,hx])]
 apply List.ext_getElem?
 intro k
 rw [cU (l:=xs.flatten) (ys:=spl x j ys) (by rw [iA hj]; omega),cU (l:=xs.flatten) (ys:=ys) (by omega),iA hj,hx]
 by_cases h1:i * s<=k/\k < i * s + s
 ·rw [if_pos h1,cU hj]
  by_cases h2:j<=k - i * s/\k - i * s < j + ys.length
  ·rw [if_pos h2,if_pos (by omega)]
   congr 1
   omega
  ·rw [if_neg h2,if_neg (by omega)]
   have hk:k - i * s < x.length:=by omega
   have:=fP h hi (EK hk)
   rw [show i * s + (k - i * s)=k by omega] at this
   rw [this,EK hk]
 ·rw [if_neg h1,if_neg (by omega)]
inductive Rep (w:World) (I:Nat->Prop):TV->Value->Prop
 | lit (v:Value):Rep w I (.lit v) v
 | hole (v:Value):Rep w I .hole v
 | buf {s:ByteArray} (e:TypeId) (h:s.size=0):Rep w I (.buf s e) aI
 | sl {size : Nat} {xs : List (List TV)} {a : Addr} {cap : Nat} (cell : Nat → Value) (hI : 0 < xs.length → I a.block) (hc : xs.length ≤ cap) (hm : cap ≤ maxLen)
   (hl:∀ x ∈ xs,x.length=size) (hcell:∀ k,k < xs.length * size->w.cell? (a.add k)=some (cell k)) (h1:∀ k,k < xs.length * size->(cell k).oneCell'=true)
   (hr:∀ (i:Nat) (x:List TV),xs[i]? = some x->∀ (j:Nat) (c:TV),x[j]? = some c->Rep w I c (cell (i * size + j))):Rep w I (.sl false size xs) (.slice (some a) xs.length cap)
 | agg {cs : List TV} {vs : Array Value} (hl : vs.size = cs.length) (h1 : ∀ j, j < vs.size → (vs.getD j undef).oneCell' = true)
   (hr:∀ (j:Nat) (c:TV),cs[j]? = some c->Rep w I c (vs.getD j undef)):Rep w I (.agg cs) (.agg vs)
 | tup {cs:List TV} {vs:Array Value} (hl:vs.size=cs.length) (hr:∀ (j:Nat) (c:TV),cs[j]? = some c->Rep w I c (vs.getD j undef)):Rep w I (.tup cs) (.tuple vs)
theorem Rep.mv {w w':World} {I I':Nat->Prop} (hh:∀ b,I b->w'.heap[b]? = w.heap[b]?) (hI:∀ b,I b->I' b) {x:TV} {v:Value} (h:Rep w I x v):Rep w' I' x v:=by
 induction h with
 | lit v=>exact .lit v
 | hole v=>exact .hole v
 | buf e h=>exact .buf e h
 | sl cell i c m l hcell h1 _ ih =>
  exact .sl cell (fun h=>hI _ (i h)) c m l (fun k hk=>by rw [<- hcell k hk]; exact World.cell?_of_block (by rw [ft]; exact hh _ (i (Nat.pos_of_ne_zero (fun e=>by simp [e] at hk))))) h1 ih
 | agg hl h1 _ ih=>exact .agg hl h1 ih
 | tup hl _ ih=>exact .tup hl ih
structure Row (w:World) (a:Addr) (n cap size:Nat) (us:List Value) (vs:Array Value) (ty:TypeId):Prop where
 heap:w.heap[a.block]? = some (.cells vs ty (0,0))
 spot:a.spot=none
 le:n<=cap
 max:cap<=maxLen
 fit:a.off + cap * size<=vs.size
 len:us.length=n * size
 cells:∀ k,k < n * size->vs[a.off + k]? = us[k]?
 one:∀ u ∈ us,u.oneCell'=true
theorem Row.cell {w:World} {a:Addr} {n cap size:Nat} {us:List Value} {vs:Array Value} {ty:TypeId} (h:Row w a n cap size us vs ty) {k:Nat} {u:Value} (hk:us[k]? = some u):w.cell? (a.add k)=some u:=by
 have hlt:k < n * size:=by rw [<- h.len]; exact (EJ.1 hk).1
 have:a.add k=⟨a.block,a.off + k,none⟩:=by
  have:=h.spot
  obtain ⟨b,o,sp⟩:=a
  simp at this
  subst this
  exact er b o k
 rw [this]
 simp only [World.cell?,h.heap]
 simp only [Option.isSome_none,Bool.false_eq_true,if_false]
 rw [h.cells k hlt,hk]
inductive al (w:World) (I:Nat->Prop):TV->Value->(Nat->Prop)->Prop
 | fr {x:TV} {v:Value} {S:Nat->Prop} (h:Rep w I x v):al w I x v S
 | sl {size : Nat} {xs : List (List TV)} {a : Addr} {cap : Nat} {S : Nat → Prop} (us : List Value) (vs : Array Value) (ty : TypeId) (F : Nat → Nat → Prop) (hS : S a.block)
   (row:Row w a xs.length cap size us vs ty) (hl:∀ x ∈ xs,x.length=size) (hr:∀ (k:Nat) (c:TV),xs.flatten[k]? = some c->al w I c (us.getD k undef) (F k))
   (hF:∀ k b,F k b->S b/\b≠a.block) (hd:∀ k k' b,F k b->F k' b->k=k'):al w I (.sl true size xs) (.slice (some a) xs.length cap) S
 | agg {cs : List TV} {vs : Array Value} {S : Nat → Prop} (F : Nat → Nat → Prop) (hl : vs.size = cs.length) (h1 : ∀ j, j < vs.size → (vs.getD j undef).oneCell' = true)
   (hr:∀ (j:Nat) (c:TV),cs[j]? = some c->al w I c (vs.getD j undef) (F j)) (hF:∀ j b,F j b->S b) (hd:∀ k k' b,F k b->F k' b->k=k'):al w I (.agg cs) (.agg vs) S
 | buf {s:ByteArray} {e:TypeId} {v:Value} {S:Nat->Prop} (h:w.ownsRowF 0 e 1 v s.size (Lib.strCells s)) (hS:∀ b,v.ownBlock=some b->S b):al w I (.buf s e) v S
 | tup {cs : List TV} {vs : Array Value} {S : Nat → Prop} (F : Nat → Nat → Prop) (hl : vs.size = cs.length)
   (hr:∀ (j:Nat) (c:TV),cs[j]? = some c->al w I c (vs.getD j undef) (F j)) (hF:∀ j b,F j b->S b) (hd:∀ k k' b,F k b->F k' b->k=k'):al w I (.tup cs) (.tuple vs) S
theorem _root_.Go.World.ownsRowF.moved {w w':World} {base:Nat} {e:TypeId} {size:Nat} {v:Value} {n:Nat} {xs:List Value} (h:w.ownsRowF base e size v n xs) (hh:∀ b,v.ownBlock=some b->w'.heap[b]? = w.heap[b]?):w'.ownsRowF base e size v n xs:=by
 refine ⟨h.1,?_⟩
 rcases h.2 with hn | ⟨g,cap,cur,fz,rfl,hb,hgg,rest⟩
 ·exact .inl hn
 ·exact .inr ⟨g,cap,cur,fz,rfl,hb,by rw [hh g rfl]; exact hgg,rest⟩
theorem al.mv {w w':World} {I I':Nat->Prop} (hI:∀ b,I b->w'.heap[b]? = w.heap[b]?) (hs:∀ b,I b->I' b) {x:TV} {v:Value} {S:Nat->Prop} (h:al w I x v S) :
  ∀ {S':Nat->Prop},(∀ b,S b->w'.heap[b]? = w.heap[b]?)->(∀ b,S b->S' b)->al w' I' x v S':=by
 induction h with
 | fr h=>intro S' _ _; exact .fr (h.mv hI hs)
 | @sl size xs a cap S us vs ty F hS row hl hr hF hd ih =>
  intro S' hh hSS
  exact .sl us vs ty F (hSS _ hS) ⟨by rw [hh _ hS]; exact row.heap,row.spot,row.le,row.max,row.fit,row.len,row.cells,row.one⟩ hl (fun k c hk=>ih k c hk (fun b hb=>hh b (hF k b hb).1) (fun b hb=>hb))
   (fun k b hb=>⟨hSS b (hF k b hb).1,(hF k b hb).2⟩) hd
 | @buf s e v S h hS =>
  intro S' hh hSS
  exact .buf (h.moved (fun b hb=>hh b (hS b hb))) (fun b hb=>hSS b (hS b hb))
 | @agg cs vs S F hl h1 hr hF hd ih =>
  intro S' hh hSS
  exact .agg F hl h1 (fun k c hk=>ih k c hk (fun b hb=>hh b (hF k b hb)) (fun b hb=>hb)) (fun k b hb=>hSS b (hF k b hb)) hd
 | @tup cs vs S F hl hr hF hd ih =>
  intro S' hh hSS
  exact .tup F hl (fun k c hk=>ih k c hk (fun b hb=>hh b (hF k b hb)) (fun b hb=>hb)) (fun k b hb=>hSS b (hF k b hb)) hd
theorem al.mono {w:World} {I:Nat->Prop} {x:TV} {v:Value} {S S':Nat->Prop} (h:al w I x v S) (hS:∀ b,S b->S' b):al w I x v S' :=
 h.mv (fun _ _=>rfl) (fun _ h=>h) (fun _ _=>rfl) hS
theorem bD {w:World} {I:Nat->Prop} {v u:Value} (h:Rep w I (.lit v) u):u=v:=by cases h; rfl
theorem a7 {w:World} {I:Nat->Prop} {v u:Value} {S:Nat->Prop} (h:al w I (.lit v) u S):u=v:=by cases h with | fr h=>exact bD h
theorem BE {w:World} {I:Nat->Prop} {s:Nat} {xs:List (List TV)} {u:Value} {S:Nat->Prop} (h:al w I (.sl false s xs) u S):Rep w I (.sl false s xs) u:=by cases h with | fr h=>exact h
theorem qX {w:World} {I:Nat->Prop} {o:Bool} {s:Nat} {xs:List (List TV)} {u:Value} {S:Nat->Prop} (h:al w I (.sl o s xs) u S):∃ a cap,u=.slice (some a) xs.length cap:=by
 cases h with
 | fr h=>cases h; exact ⟨_,_,rfl⟩
 | sl=>exact ⟨_,_,rfl⟩
theorem fx {w:World} {I:Nat->Prop} {x:TV} {u:Value} {S:Nat->Prop} (h:al w I x u S) (hx:x.isSl=true):∃ a n cap,u=.slice a n cap:=by
 cases x with
 | lit v =>
  have:=a7 h
  subst this
  cases u <;> simp [TV.isSl,aO] at hx ⊢
 | sl o s xs=>obtain ⟨a,cap,rfl⟩:=qX h; exact ⟨_,_,_,rfl⟩
 | _=>simp [TV.isSl] at hx
theorem qY {v:Value} (h:scV v=true):v.oneCell'=true:=by cases v <;> first | rfl | simp [scV] at h
theorem eA {w:World} {I:Nat->Prop} {x:TV} {u:Value} {S:Nat->Prop} (h:al w I x u S) (hx:x.isSc=true):x=.lit u/\scV u=true:=by
 cases x with
 | lit v =>
  have:=a7 h
  subst this
  exact ⟨rfl,hx⟩
 | _=>simp [TV.isSc] at hx
theorem Dm {w:World} {I:Nat->Prop} {x:TV} {u:Value} {S:Nat->Prop} (h:al w I x u S):Rep w I x.lf u:=by
 cases x with
 | lit v=>have:=a7 h; subst this; exact .lit _
 | _=>exact .hole _
theorem md:∀ l:List TV,nX l=l.map frz
 | []=>rfl
 | x :: l=>by simp [nX,md l]
theorem gL:∀ l:List (List TV),su l=l.map fun x=>x.map frz
 | []=>rfl
 | x :: l=>by simp [su,gL l,md]
theorem Cx:∀ l:List TV,lfL l=l.map TV.lf
 | []=>rfl
 | x :: l=>by simp [lfL,Cx l]
theorem zi:∀ l:List (List TV),rO l=l.map fun x=>x.map TV.lf
 | []=>rfl
 | x :: l=>by simp [rO,zi l,Cx]
theorem Rep.frz {w:World} {I:Nat->Prop} {x:TV} {v:Value} (h:Rep w I x v):Rep w I (frz x) v:=by
 induction h with
 | lit v=>exact .lit v
 | hole v=>exact .hole v
 | buf e h=>exact .hole _
 | @sl size xs a cap cell hI hc hm hl hcell h1 _ ih =>
  simp only [Ab.frz,gL]
  have hlen:(xs.map fun x=>x.map Ab.frz).length=xs.length:=by simp
  have key:Rep w I (.sl false size (xs.map fun x=>x.map Ab.frz)) (.slice (some a) (xs.map fun x=>x.map Ab.frz).length cap):=by
   refine .sl cell (by rw [hlen]; exact hI) (by rw [hlen]; exact hc) hm (fun x hx=>?_) (by rw [hlen]; exact hcell) (by rw [hlen]; exact h1) (fun i y hy j c hj=>?_)
   ·obtain ⟨y,hy,rfl⟩:=List.mem_map.1 hx
    simpa using hl y hy
   ·rw [EP] at hy
    cases hxi:xs[i]? with
    | none=>simp [hxi] at hy
    | some x =>
     simp only [hxi,EW,EL] at hy
     subst hy
     rw [EP] at hj
     cases hxj:x[j]? with
     | none=>simp [hxj] at hj
     | some c' =>
      simp only [hxj,EW,EL] at hj
      subst hj
      exact ih i x hxi j c' hxj
  rwa [hlen] at key
 | @agg cs vs hl h1 _ ih =>
  simp only [Ab.frz,md]
  refine .agg (by simpa using hl) h1 (fun j c hj=>?_)
  rw [EP] at hj
  cases hxj:cs[j]? with
  | none=>simp [hxj] at hj
  | some c'=>simp only [hxj,EW,EL] at hj; subst hj; exact ih j c' hxj
 | @tup cs vs hl _ ih =>
  simp only [Ab.frz,md]
  refine .tup (by simpa using hl) (fun j c hj=>?_)
  rw [EP] at hj
  cases hxj:cs[j]? with
  | none=>simp [hxj] at hj
  | some c'=>simp only [hxj,EW,EL] at hj; subst hj; exact ih j c' hxj
theorem al.frz {w:World} {I I':Nat->Prop} (hI:∀ b,I b->I' b) {x:TV} {v:Value} {S:Nat->Prop} (h:al w I x v S):(∀ b,S b->I' b)->Rep w I' (frz x) v:=by
 induction h with
 | fr h=>intro _; exact (h.mv (fun _ _=>rfl) hI).frz
 | buf _ _=>intro _; exact .hole _
 | @sl size xs a cap S us vs ty F hS row hl hr hF hd ih =>
  intro hSI
  simp only [Ab.frz,gL]
  have hlen:(xs.map fun x=>x.map Ab.frz).length=xs.length:=by simp
  have key:Rep w I' (.sl false size (xs.map fun x=>x.map Ab.frz)) (.slice (some a) (xs.map fun x=>x.map Ab.frz).length cap):=by
   refine .sl (fun k=>us.getD k undef) (fun _=>hSI _ hS) (by rw [hlen]; exact row.le) row.max (fun x hx=>?_) (fun k hk=>?_) (fun k hk=>?_) (fun i y hy j c hj=>?_)
   ·obtain ⟨y,hy,rfl⟩:=List.mem_map.1 hx
    simpa using hl y hy
   ·rw [hlen] at hk
    have:k < us.length:=by rw [row.len]; exact hk
    exact row.cell (by simp [EK this])
   ·rw [hlen] at hk
    have:k < us.length:=by rw [row.len]; exact hk
    simp only [EX,EK this,Option.getD_some]
    exact row.one _ (List.getElem_mem this)
   ·rw [EP] at hy
    cases hxi:xs[i]? with
    | none=>simp [hxi] at hy
    | some x =>
     simp only [hxi,EW,EL] at hy
     subst hy
     rw [EP] at hj
     cases hxj:x[j]? with
     | none=>simp [hxj] at hj
     | some c' =>
      simp only [hxj,EW,EL] at hj
      subst hj
      exact ih _ c' (fP hl hxi hxj) (fun b hb=>hSI b (hF _ b hb).1)
  rwa [hlen] at key
 | @agg cs vs S F hl h1 hr hF hd ih =>
  intro hSI
  simp only [Ab.frz,md]
  refine .agg (by simpa using hl) h1 (fun j c hj=>?_)
  rw [EP] at hj
  cases hxj:cs[j]? with
  | none=>simp [hxj] at hj
  | some c'=>simp only [hxj,EW,EL] at hj; subst hj; exact ih j c' hxj (fun b hb=>hSI b (hF j b hb))
 | @tup cs vs S F hl hr hF hd ih =>
  intro hSI
  simp only [Ab.frz,md]
  refine .tup (by simpa using hl) (fun j c hj=>?_)
  rw [EP] at hj
  cases hxj:cs[j]? with
  | none=>simp [hxj] at hj
  | some c'=>simp only [hxj,EW,EL] at hj; subst hj; exact ih j c' hxj (fun b hb=>hSI b (hF j b hb))
theorem gf:∀ {l:List TV},bn l=true->∀ x ∈ l,isOwn x=true
 | [],_,x,hx=>by simp at hx
 | y :: l,h,x,hx=>by
  simp only [bn,EM] at h
  rcases List.mem_cons.1 hx with rfl | hx
  ·exact h.1
  ·exact gf h.2 x hx
theorem qy:∀ {l:List (List TV)},mz l=true->∀ x ∈ l,bn x=true
 | [],_,x,hx=>by simp at hx
 | y :: l,h,x,hx=>by
  simp only [mz,EM] at h
  rcases List.mem_cons.1 hx with rfl | hx
  ·exact h.1
  ·exact qy h.2 x hx
theorem Rep.own {w:World} {I I':Nat->Prop} {x:TV} {v:Value} (h:Rep w I x v):isOwn x=true->Rep w I' x v:=by
 induction h with
 | lit v=>intro _; exact .lit v
 | hole v=>intro _; exact .hole v
 | buf e h=>intro _; exact .buf e h
 | sl=>intro h; simp [isOwn] at h
 | @agg cs vs hl h1 _ ih=>intro h; simp only [isOwn] at h; exact .agg hl h1 (fun j c hj=>ih j c hj (gf h c (ES hj)))
 | @tup cs vs hl _ ih=>intro h; simp only [isOwn] at h; exact .tup hl (fun j c hj=>ih j c hj (gf h c (ES hj)))
theorem al.own {w:World} {I I':Nat->Prop} {x:TV} {v:Value} {S:Nat->Prop} (h:al w I x v S):isOwn x=true->al w I' x v S:=by
 induction h with
 | fr h=>intro ho; exact .fr (h.own ho)
 | buf h hS=>intro _; exact .buf h hS
 | @sl size xs a cap S us vs ty F hS row hl hr hF hd ih =>
  intro ho
  simp only [isOwn,Bool.true_and] at ho
  refine .sl us vs ty F hS row hl (fun k c hk=>ih k c hk ?_) hF hd
  obtain ⟨x,hx,hc⟩:=List.mem_flatten.1 (ES hk)
  exact gf (qy ho x hx) c hc
 | @agg cs vs S F hl h1 hr hF hd ih=>intro ho; simp only [isOwn] at ho; exact .agg F hl h1 (fun j c hj=>ih j c hj (gf ho c (ES hj))) hF hd
 | @tup cs vs S F hl hr hF hd ih=>intro ho; simp only [isOwn] at ho; exact .tup F hl (fun j c hj=>ih j c hj (gf ho c (ES hj))) hF hd
end Go.Ab
end
section
namespace Go.Ab
open Go.RowKit
def TV.nd (x:TV):Option (Nat × Nat):=match x with | .sl _ s xs=>some (s,xs.length) | _=>none
def Node (w:World):Way->TV->Value->Value->Option (Nat × Nat)->Prop
 | [],x,u,v,nd=>v=u/\nd=x.nd
 | (k,j) :: p,x,u,v,nd=>∃ o s xs a n cap e y u',x=.sl o s xs/\u=.slice (some a) n cap/\xs[k]? = some e/\e[j]? = some y/\w.cell? (a.add (k * s + j))=some u'/\Node w p y u' v nd
section
variable {w w':World} {I I':Nat->Prop} {x y:TV} {u v:Value} {S:Nat->Prop}
theorem getD_some {l:List Value} {k:Nat} {u:Value} (h:l[k]? = some u):l.getD k undef=u:=by simp [h]
theorem al.child {o:Bool} {s:Nat} {xs:List (List TV)} (h:al w I (.sl o s xs) u S) {k j:Nat} {e:List TV} {y:TV} (hk:xs[k]? = some e) (hj:e[j]? = some y) :
  ∃ a cap u' S',u=.slice (some a) xs.length cap/\w.cell? (a.add (k * s + j))=some u'/\u'.oneCell'=true/\al w I y u' S'/\(∀ b,S' b->S b)/\(S a.block\/I a.block)/\e.length=s:=by
 have hlt:k < xs.length:=(EJ.1 hk).1
 cases h with
 | fr h =>
  cases h with
  | @sl _ _ a cap cell hI hc hm hl hcell h1 hr =>
   have hel:=hl e (ES hk)
   have hf:k * s + j < xs.length * s:=by
    have hj':=(EJ.1 hj).1
    have:=Nat.mul_le_mul_right s (Nat.succ_le_of_lt hlt)
    rw [Nat.succ_mul] at this
    omega
   exact ⟨a,cap,_,fun _=>False,rfl,hcell _ hf,h1 _ hf,.fr (hr k e hk j y hj),fun _ h=>h.elim,.inr (hI (by omega)),hel⟩
 | @sl _ _ a cap S us vs ty F hS row hl hr hF hd =>
  have hel:=hl e (ES hk)
  have hfg:=fP hl hk hj
  have hlt2:k * s + j < us.length:=by
   rw [row.len,<- bY hl]
   exact (EJ.1 hfg).1
  have hu:=EK hlt2
  refine ⟨a,cap,us[k * s + j],F (k * s + j),rfl,row.cell hu,row.one _ (List.getElem_mem hlt2),?_,fun b hb=>(hF _ b hb).1,.inl hS,hel⟩
  have:=hr _ _ hfg
  rwa [getD_some hu] at this
theorem Node.mv:∀ {p:Way} {x:TV} {u v:Value} {nd:Option (Nat × Nat)} {S:Nat->Prop},al w I x u S->(∀ b,I b->w'.heap[b]? = w.heap[b]?)->(∀ b,S b->w'.heap[b]? = w.heap[b]?)->Node w p x u v nd->Node w' p x u v nd
 | [],x,u,v,nd,S,_,_,_,h=>h
 | (k,j) :: p,x,u,v,nd,S,hr,hI,hS,⟨o,s,xs,a,n,cap,e,y,u',hx,hu,he,hy,hc,h⟩=>by
  subst hx
  obtain ⟨a',cap',u2,S',h1,h2,h3,h4,h5,h6,h7⟩:=hr.child he hy
  rw [hu] at h1
  cases h1
  rw [hc] at h2
  cases h2
  refine ⟨o,s,xs,a,_,_,e,y,u',rfl,hu,he,hy,?_,Node.mv h4 hI (fun b hb=>hS b (h5 b hb)) h⟩
  rw [<- hc]
  refine World.cell?_of_block ?_
  rw [ft]
  rcases h6 with h6 | h6
  ·exact hS _ h6
  ·exact hI _ h6
theorem al.get:∀ {p:Way} {x y:TV} {u:Value} {S:Nat->Prop},al w I x u S->aE p x=some y->∃ v S',Node w p x u v y.nd/\al w I y v S'/\(∀ b,S' b->S b)/\(p≠[]->v.oneCell'=true)
 | [],x,y,u,S,hr,h=>by
  simp only [aE,EL] at h
  subst h
  exact ⟨u,S,⟨rfl,rfl⟩,hr,fun _ h=>h,fun h=>absurd rfl h⟩
 | (k, j) :: p, x, y, u, S, hr, h => by
  cases x with
  | sl o s xs =>
   simp only [aE] at h
   cases he:xs[k]? with
   | none=>simp [he] at h
   | some e =>
    simp only [he] at h
    cases hz:e[j]? with
    | none=>simp [hz] at h
    | some z =>
     simp only [hz] at h
     obtain ⟨a,cap,u',S1,h1,h2,h3,h4,h5,h6,h7⟩:=hr.child he hz
     obtain ⟨v,S2,n1,n2,n3,n4⟩:=al.get h4 h
     refine ⟨v,S2,⟨o,s,xs,a,_,cap,e,z,u',rfl,h1,he,hz,h2,n1⟩,n2,fun b hb=>h5 b (n3 b hb),fun _=>?_⟩
     cases p with
     | nil=>rw [n1.1]; exact h3
     | cons=>exact n4 (by simp)
  | _=>simp [aE] at h
theorem Node.unique:∀ {p:Way} {x:TV} {u v v':Value} {nd nd':Option (Nat × Nat)},Node w p x u v nd->Node w p x u v' nd'->v=v'/\nd=nd'
 | [],x,u,v,v',nd,nd',h,h'=>⟨h.1.trans h'.1.symm,h.2.trans h'.2.symm⟩
 | (k,j) :: p,x,u,v,v',nd,nd',⟨o,s,xs,a,n,cap,e,y,u',hx,hu,he,hy,hc,h⟩,⟨o2,s2,xs2,a2,n2,cap2,e2,y2,u2,hx2,hu2,he2,hy2,hc2,h2⟩=>by
  subst hx
  cases hx2
  subst hu
  cases hu2
  rw [he] at he2
  cases he2
  rw [hy] at hy2
  cases hy2
  rw [hc] at hc2
  cases hc2
  exact Node.unique h h2
theorem al.sub : ∀ {p : Way} {x y : TV} {u : Value} {S : Nat → Prop}, al w I x u S → aE p x = some y →
  ∃ v Sy, al w I y v Sy ∧ (∀ b, Sy b → S b) ∧ Node w p x u v y.nd ∧ (p ≠ [] → v.oneCell' = true) ∧
   ∀ (w':World) (I':Nat->Prop) (y' x':TV) (S':Nat->Prop),jd p x y'=some x'->(∀ b,I b->w'.heap[b]? = w.heap[b]?)->(∀ b,I b->I' b)->(∀ b,S b->¬ Sy b->w'.heap[b]? = w.heap[b]?) ->
    al w' I' y' v S'->(∀ b,S' b->S b->Sy b)->al w' I' x' u (fun b=>(S b/\¬ Sy b)\/S' b) /\
    ∀ (q:Way) (v':Value) (nd:Option (Nat × Nat)),(∀ q',q=p ++ q'->Node w q' y v v' nd->Node w' q' y' v v' nd)->Node w q x u v' nd->Node w' q x' u v' nd
 | [],x,y,u,S,hr,h=>by
  simp only [Ab.aE,EL] at h
  subst h
  refine ⟨u,S,hr,fun _ h=>h,⟨rfl,rfl⟩,fun h=>absurd rfl h,?_⟩
  intro w' I' y' x' S' hs hI hII hh hr' hd
  simp only [jd,EL] at hs
  subst hs
  exact ⟨hr'.mono (fun b hb=>.inr hb),fun q v' nd hq hn=>hq q rfl hn⟩
 | (k, j) :: p, x, y, u, S, hr, h => by
  cases x with
  | sl o s xs =>
   simp only [Ab.aE] at h
   cases he:xs[k]? with
   | none=>simp [he] at h
   | some e =>
    simp only [he] at h
    cases hz:e[j]? with
    | none=>simp [hz] at h
    | some z =>
     simp only [hz] at h
     cases o with
     | false =>
      obtain ⟨v,S',n1,n2,n3,n4⟩:=al.get (p:=(k,j) :: p) (y:=y) hr (by simp only [Ab.aE,he,hz,h])
      refine ⟨v,S',n2,n3,n1,n4,?_⟩
      intro w' I' y' x' S2 hs
      simp [jd] at hs
     | true =>
      cases hr with
      | fr h=>cases h
      | @sl _ _ a cap S us vs ty F hS row hl hr hF hd =>
       have hel:=hl e (ES he)
       have hjl:j < e.length:=(EJ.1 hz).1
       have hfg:=fP hl he hz
       have hlt2:k * s + j < us.length:=by
        rw [row.len,<- bY hl]
        exact (EJ.1 hfg).1
       have hu:=EK hlt2
       have hrz:=hr _ _ hfg
       rw [getD_some hu] at hrz
       obtain ⟨v,Sy,m1,m2,m3,m4,m5⟩:=al.sub hrz h
       have hSyF:∀ b,Sy b->F (k * s + j) b:=m2
       refine ⟨v,Sy,m1,fun b hb=>(hF _ b (m2 b hb)).1,⟨true,s,xs,a,_,cap,e,z,us[k * s + j],rfl,rfl,he,hz,row.cell hu,m3⟩,fun _=>?_,?_⟩
       ·cases p with
        | nil=>rw [m3.1]; exact row.one _ (List.getElem_mem hlt2)
        | cons=>exact m4 (by simp)
       intro w' I' y' x' S' hs hI hII hh hr' hdis
       simp only [jd,he,hz] at hs
       cases hz':jd p z y' with
       | none=>simp [hz'] at hs
       | some z' =>
        simp only [hz',EL,ah] at hs
        subst hs
        have hablk:¬ Sy a.block:=fun hb=>(hF _ _ (m2 _ hb)).2 rfl
        obtain ⟨r1,r2⟩:=m5 w' I' y' z' S' hz' hI hII (fun b hb hn=>hh b (hF _ b hb).1 hn) hr' (fun b hb hb2=>hdis b hb (hF _ b hb2).1)
        have hset:e.set j z'=spl e j [z']:=by
         apply List.ext_getElem?
         intro m
         rw [cU (by simp; omega),List.getElem?_set]
         by_cases hjm:j=m
         ·subst hjm; simp [hjl]
         ·rw [if_neg hjm,if_neg (by simp; omega)]
        obtain ⟨f1,f2⟩:=xI (ys:=[z']) hl he (by simp; omega:j + [z'].length<=e.length)
        have hlen:(xs.set k (e.set j z')).length=xs.length:=by simp
        have hrow:Row w' a (xs.set k (e.set j z')).length cap s us vs ty:=by
         rw [hlen]
         exact ⟨by rw [hh _ hS hablk]; exact row.heap,row.spot,row.le,row.max,row.fit,row.len,row.cells,row.one⟩
        have hother:∀ m c,m≠k * s + j->xs.flatten[m]? = some c->al w' I' c (us.getD m undef) (F m):=fun m c hm hc =>
         (hr m c hc).mv hI hII (fun b hb=>hh b (hF m b hb).1 (fun hs=>hm (hd m _ b hb (m2 b hs)))) (fun _ h=>h)
        constructor
        ·have key:al w' I' (.sl true s (xs.set k (e.set j z'))) (.slice (some a) (xs.set k (e.set j z')).length cap) (fun b=>(S b/\¬ Sy b)\/S' b):=by
          refine .sl us vs ty (fun m b=>if m=k * s + j then (F (k * s + j) b/\¬ Sy b)\/S' b else F m b) (.inl ⟨hS,hablk⟩) hrow (zu hl (by simp [hel])) (fun m c hc=>?_) (fun m b hb=>?_) (fun m m' b hb hb'=>?_)
          ·rw [hset,f1,cU f2] at hc
           by_cases hm:m=k * s + j
           ·subst hm
            simp only [List.length_singleton,Nat.sub_self] at hc
            rw [if_pos (by omega)] at hc
            simp only [List.getElem?_cons_zero,EL] at hc
            subst hc
            simp only [if_true]
            rw [getD_some hu]
            exact r1
           ·rw [if_neg (by simp only [List.length_singleton]; omega)] at hc
            simp only [hm,if_false]
            exact hother m c hm hc
          ·by_cases hm:m=k * s + j
           ·subst hm
            simp only [if_true] at hb
            rcases hb with ⟨h1,h2⟩ | h1
            ·exact ⟨.inl ⟨(hF _ b h1).1,h2⟩,(hF _ b h1).2⟩
            ·exact ⟨.inr h1,fun e=>by subst e; exact hablk (hdis _ h1 hS)⟩
           ·simp only [hm,if_false] at hb
            exact ⟨.inl ⟨(hF _ b hb).1,fun hs=>hm (hd _ _ b hb (m2 b hs))⟩,(hF _ b hb).2⟩
          ·by_cases hm:m=k * s + j <;> by_cases hm':m'=k * s + j
           ·rw [hm,hm']
           ·simp only [hm,hm',if_true,if_false] at hb hb'
            rcases hb with ⟨h1,h2⟩ | h1
            ·exact hm ▸ hd _ _ b h1 hb'
            ·exact hm ▸ hd _ _ b (m2 b (hdis b h1 (hF _ b hb').1)) hb'
           ·simp only [hm,hm',if_true,if_false] at hb hb'
            rcases hb' with ⟨h1,h2⟩ | h1
            ·exact hm' ▸ hd _ _ b hb h1
            ·exact hm' ▸ hd _ _ b hb (m2 b (hdis b h1 (hF _ b hb).1))
           ·simp only [hm,hm',if_false] at hb hb'
            exact hd _ _ b hb hb'
         rwa [hlen] at key
        ·intro q v' nd hq hn
         cases q with
         | nil =>
          obtain ⟨e1,e2⟩:=hn
          exact ⟨e1,by rw [e2]; simp [TV.nd]⟩
         | cons kj q =>
          obtain ⟨k1,j1⟩:=kj
          obtain ⟨o2,s2,xs2,a2,n2,cap2,e2,y2,u2,hx2,hu2,he2,hy2,hc2,hn2⟩:=hn
          cases hx2
          cases hu2
          have hblk:∀ m,w'.cell? (a.add m)=w.cell? (a.add m):=fun m=>World.cell?_of_block (by rw [ft]; exact hh _ hS hablk)
          by_cases hk1:k1=k
          ·subst hk1
           rw [he] at he2
           cases he2
           have hk2:k1 < xs.length:=(EJ.1 he).1
           by_cases hj1:j1=j
           ·subst hj1
            rw [hz] at hy2
            cases hy2
            have:u2=us[k1 * s + j1]:=by rw [row.cell hu] at hc2; exact (Option.some.inj hc2).symm
            subst this
            refine ⟨true,s,_,a,_,cap,e.set j1 z',z',us[k1 * s + j1],rfl,rfl,by rw [List.getElem?_set_self hk2],by rw [List.getElem?_set_self hjl],by rw [hblk]; exact hc2,?_⟩
            exact r2 q v' nd (fun q' hq'=>hq q' (by rw [hq']; rfl)) hn2
           ·refine ⟨true,s,_,a,_,cap,e.set j z',y2,u2,rfl,rfl,by rw [List.getElem?_set_self hk2],by rw [List.getElem?_set_ne (fun h=>hj1 h.symm)]; exact hy2,by rw [hblk]; exact hc2,?_⟩
            have hfg2:=fP hl he hy2
            have hm:k1 * s + j1≠k1 * s + j:=by omega
            have hr2:=hr _ _ hfg2
            have hlt3:k1 * s + j1 < us.length:=by rw [row.len,<- bY hl]; exact (EJ.1 hfg2).1
            rw [getD_some (EK hlt3)] at hr2
            have:u2=us[k1 * s + j1]:=by rw [row.cell (EK hlt3)] at hc2; exact (Option.some.inj hc2).symm
            subst this
            exact Node.mv hr2 hI (fun b hb=>hh b (hF _ b hb).1 (fun hs=>hm (hd _ _ b hb (m2 b hs)))) hn2
          ·refine ⟨true,s,_,a,_,cap,e2,y2,u2,rfl,rfl,by rw [List.getElem?_set_ne (fun h=>hk1 h.symm)]; exact he2,hy2,by rw [hblk]; exact hc2,?_⟩
           have hfg2:=fP hl he2 hy2
           have hel2:=hl e2 (ES he2)
           have hj2:j1 < e2.length:=(EJ.1 hy2).1
           have hm:k1 * s + j1≠k * s + j:=by
            intro heq
            rcases Nat.lt_or_gt_of_ne hk1 with h' | h'
            ·have:=Nat.mul_le_mul_right s (Nat.succ_le_of_lt h')
             rw [Nat.succ_mul] at this
             omega
            ·have:=Nat.mul_le_mul_right s (Nat.succ_le_of_lt h')
             rw [Nat.succ_mul] at this
             omega
           have hr2:=hr _ _ hfg2
           have hlt3:k1 * s + j1 < us.length:=by rw [row.len,<- bY hl]; exact (EJ.1 hfg2).1
           rw [getD_some (EK hlt3)] at hr2
           have:u2=us[k1 * s + j1]:=by rw [row.cell (EK hlt3)] at hc2; exact (Option.some.inj hc2).symm
           subst this
           exact Node.mv hr2 hI (fun b hb=>hh b (hF _ b hb).1 (fun hs=>hm (hd _ _ b hb (m2 b hs)))) hn2
  | _=>simp [Ab.aE] at h
end
end Go.Ab
end

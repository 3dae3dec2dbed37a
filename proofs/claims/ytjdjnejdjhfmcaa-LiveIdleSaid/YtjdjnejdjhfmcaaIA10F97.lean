import Derived.Test.YtjdjnejdjhfmcaaIA10F59
set_option linter.all false
section
set_option maxRecDepth 10000
namespace Go.Ab
theorem RMod.frz' {q:Option Bool} {y:TV} {m:DMod} (h:RMod q [y] m):RMod (some false) [Go.Ab.frz y] m:=by
 obtain ⟨y',h,h'⟩:=h
 cases h
 exact ⟨_,rfl,h'.frz (S:=RFunc (some false)) fun _ _ h=>h.frz⟩
end Go.Ab
namespace Go.Ab.A10
open Go Go.Ab Go.Proofs
theorem pThrow {m:DMod} {s:DMach} {f:DFrame} {u:DFunc} {b:DBlock} {y g i v:TV} (hm:RMod (some false) [y] m) (hM:bz m) (hg:RStack g s.stack) (hi:RWords (some true) i s.inputs) (hv:RInts (some true) v s.events) (ho:s.ok) (hQ:bP m s)
  (ht:fU s=some f) (hf0:0≤f.f) (hu:m.funcs[f.f.toNat]? = some u) (hb0:0≤f.block) (hb:u.blocks[f.block.toNat]? = some b) (ha0:0≤f.at_) (hat:f.at_=b.ins.length) (hE:sV m.funcs f.regs.length u.blocks b.fin) (h5:b.fin.kind=5) :
  ∃ r,aa prog 16 (f16_0 (s.stack.length - 1) (W (s.c 0)) (W (s.c 1)) (W (s.c 2)) (W (s.c 3)) (W (s.c 4)) (W (s.c 5)) (W (s.c 6)) (W (s.c 7)) (W (s.c 8)) (W (s.c 9)) (W (s.c 10)) (W (s.c 11)) (W (s.c 12)) (W (s.c 13)) (W (s.c 14)) (W (s.c 15)) (I s.done) (W s.value) y g TV.hole TV.hole TV.hole TV.hole TV.hole TV.hole TV.hole TV.hole TV.hole TV.hole TV.hole TV.hole TV.hole TV.hole TV.hole TV.hole i v TV.hole TV.hole y) r∧bq (aQ m s (reg f b.fin.a)) y r:=by
 have h0:0 < s.stack.length:=by
  have:=(EJ.1 ht).1
  omega
 have h32:=hQ.2.1
 have hyr:RL (some false) 3 (RFunc (some false)) y m.funcs:=by
  obtain ⟨y',h,h'⟩:=hm
  cases h
  exact h'
 obtain ⟨gr,he,hget,hgr,hof⟩:=hg.row ht
 have hfit:=bZ (a:=f.f) (b:=f.block) (c:=f.at_) (d:=f.fly) hgr.isSl
 have hfs:=fK (a:=f.f) (b:=f.block) (c:=f.at_) (d:=f.fly) hgr.isSl
 obtain ⟨eu,heu,hru⟩:=hyr.bF (k:=.i64) hf0 hu
 obtain ⟨bs,rfl,hbs,_⟩:=hru
 obtain ⟨eb,heb,hrb⟩:=hbs.bF (k:=.i64) hb0 hb
 obtain ⟨c,is,ga,rfl,hc,hdi,his,hga,hfo⟩:=hrb
 have hpa:=hE.2.1
 rw [h5] at hpa
 have hA:within b.fin.a f.regs.length:=hpa.1 rfl
 obtain ⟨a,ha,hal⟩:=bE hA
 obtain ⟨pe,hpe,rfl,haw⟩:=hgr.pel ha
 have hra:reg f b.fin.a=a:=iJ ha
 have hla:=cJ hgr.slSize hal
 rw [hra]
 have hlen:=RL.len (t:=38) hg
 have hcw:=yr hg.slSize (show s.stack.length - 1≤s.stack.length by omega)
 obtain ⟨gw,hgw,hrw⟩:=hg.win (n:=s.stack.length - 1) (by omega)
 have htl:(s.stack.take (s.stack.length - 1)).length=s.stack.length - 1:=by simp
 have hlw:=RL.len (t:=38) hrw
 rw [htl] at hlw
 obtain ⟨r,hr,hout⟩:=Bv (y:=y) (m:=m) hyr hM hg hi hv ho haw hQ h0 (s.stack.length - 1) 0 (by omega) (fun j hj=>by omega)
 refine ⟨r,?_,hout⟩
 unfold f16_0
 have hblk:=fT (c:=I f.at_) (z:=TV.lf (Go.Ab.frz gr)) (d:=W f.fly) heu rfl rfl heb
 refine aa.tvs he (aa.chk hfit (aa.tv hget (aa.call hblk (aa.chk rfl (aa.tvs he (aa.chk rfl (aa.tv (RL.len his) (aa.tv rfl (aa.ite rfl (fun h=>?_) fun _=>?_)))))))))
 ·simp [nth] at h; omega
 refine aa.tv rfl (aa.ite rfl (fun h=>?_) fun _=>?_)
 ·simp [nth] at h; omega
 refine aa.tv rfl (aa.ite rfl (fun h=>?_) fun _=>?_)
 ·simp [nth] at h; omega
 refine aa.tv rfl (aa.ite rfl (fun h=>?_) fun _=>?_)
 ·simp [nth] at h; omega
 refine aa.tv rfl (aa.ite rfl (fun h=>?_) fun _=>?_)
 ·simp [nth] at h; omega
 refine aa.tv rfl (aa.ite rfl (fun _=>?_) fun h=>?_)
 rotate_left
 ·simp [nth] at h; omega
 refine aa.tvs he (aa.chk hfs (aa.tv hget (aa.nat hgr.slLen (aa.nat (aH hA.1 hfo.2.1) (aa.chk hla (aa.tv hget (aa.tvs hpe (aa.chk rfl ?_))))))))
 exact aa.tv hlen (aa.tv (dec h0 (by omega)) (aa.nat hg.slLen (aa.nat (aM (by omega)) (aa.chk hcw (aa.tv hgw (aa.tv hlw (f16_4_J hr)))))))
theorem DN {m:DMod} {s:DMach} {f:DFrame} {u:DFunc} {b:DBlock} {y g i v:TV} (hm:RMod (some false) [y] m) (hM:bz m) (hg:RStack g s.stack) (hi:RWords (some true) i s.inputs) (hv:RInts (some true) v s.events) (ho:s.ok) (hQ:bP m s)
  (ht:fU s=some f) (hf0:0≤f.f) (hu:m.funcs[f.f.toNat]? = some u) (hb0:0≤f.block) (hb:u.blocks[f.block.toNat]? = some b) (ha0:0≤f.at_) (hat:f.at_=b.ins.length) (h6:b.fin.kind=6) :
  ∃ r,aa prog 16 (f16_0 (s.stack.length - 1) (W (s.c 0)) (W (s.c 1)) (W (s.c 2)) (W (s.c 3)) (W (s.c 4)) (W (s.c 5)) (W (s.c 6)) (W (s.c 7)) (W (s.c 8)) (W (s.c 9)) (W (s.c 10)) (W (s.c 11)) (W (s.c 12)) (W (s.c 13)) (W (s.c 14)) (W (s.c 15)) (I s.done) (W s.value) y g TV.hole TV.hole TV.hole TV.hole TV.hole TV.hole TV.hole TV.hole TV.hole TV.hole TV.hole TV.hole TV.hole TV.hole TV.hole TV.hole i v TV.hole TV.hole y) r∧bq (aQ m s f.fly) y r:=by
 have h0:0 < s.stack.length:=by
  have:=(EJ.1 ht).1
  omega
 have h32:=hQ.2.1
 have hyr:RL (some false) 3 (RFunc (some false)) y m.funcs:=by
  obtain ⟨y',h,h'⟩:=hm
  cases h
  exact h'
 obtain ⟨gr,he,hget,hgr,hof⟩:=hg.row ht
 have hfit:=bZ (a:=f.f) (b:=f.block) (c:=f.at_) (d:=f.fly) hgr.isSl
 obtain ⟨eu,heu,hru⟩:=hyr.bF (k:=.i64) hf0 hu
 obtain ⟨bs,rfl,hbs,_⟩:=hru
 obtain ⟨eb,heb,hrb⟩:=hbs.bF (k:=.i64) hb0 hb
 obtain ⟨c,is,ga,rfl,hc,hdi,his,hga,hfo⟩:=hrb
 have hlen:=RL.len (t:=38) hg
 have hcw:=yr hg.slSize (show s.stack.length - 1≤s.stack.length by omega)
 obtain ⟨gw,hgw,hrw⟩:=hg.win (n:=s.stack.length - 1) (by omega)
 have htl:(s.stack.take (s.stack.length - 1)).length=s.stack.length - 1:=by simp
 have hlw:=RL.len (t:=38) hrw
 rw [htl] at hlw
 obtain ⟨r,hr,hout⟩:=Da (y:=y) (m:=m) hyr hM hg hi hv ho hof.2.2.2 hQ h0 (s.stack.length - 1) 0 (by omega) (fun j hj=>by omega)
 refine ⟨r,?_,hout⟩
 unfold f16_0
 have hblk:=fT (c:=I f.at_) (z:=TV.lf (Go.Ab.frz gr)) (d:=W f.fly) heu rfl rfl heb
 refine aa.tvs he (aa.chk hfit (aa.tv hget (aa.call hblk (aa.chk rfl (aa.tvs he (aa.chk rfl (aa.tv (RL.len his) (aa.tv rfl (aa.ite rfl (fun h=>?_) fun _=>?_)))))))))
 ·simp [nth] at h; omega
 refine aa.tv rfl (aa.ite rfl (fun h=>?_) fun _=>?_)
 ·simp [nth] at h; omega
 refine aa.tv rfl (aa.ite rfl (fun h=>?_) fun _=>?_)
 ·simp [nth] at h; omega
 refine aa.tv rfl (aa.ite rfl (fun h=>?_) fun _=>?_)
 ·simp [nth] at h; omega
 refine aa.tv rfl (aa.ite rfl (fun h=>?_) fun _=>?_)
 ·simp [nth] at h; omega
 refine aa.tv rfl (aa.ite rfl (fun h=>?_) fun _=>?_)
 ·simp [nth] at h; omega
 refine aa.tv rfl (aa.ite rfl (fun _=>?_) fun h=>?_)
 rotate_left
 ·simp [nth] at h; omega
 refine aa.tvs he (aa.chk rfl ?_)
 exact aa.tv hlen (aa.tv (dec h0 (by omega)) (aa.nat hg.slLen (aa.nat (aM (by omega)) (aa.chk hcw (aa.tv hgw (aa.tv hlw (f16_5_J hr)))))))
theorem tX {q : Option Bool} {m : DMod} {s : DMach} {y g i v : TV} (hm : RMod q [y] m) (hM : bz m) (hg : RStack g s.stack) (hi : RWords (some true) i s.inputs) (hv : RInts (some true) v s.events) (ho : s.ok) (hQ : bP m s) (hd : s.done = 0) (hel : s.events.length + 1 ≤ 4294967296) :
    ∃ r,ak prog 16 [.tup (ar s g i v ++ [y])] r∧bq (b9 m s) (Go.Ab.frz y) r:=by
  have hys:y.isSl=true:=by
    obtain ⟨y',h,h'⟩:=hm
    cases h
    exact h'.isSl
  have hm:=hm.frz'
  generalize hz:Go.Ab.frz y=z at hm
  have h32:=hQ.2.1
  have h0:=hQ.2.2.1 hd
  have hlen:=RL.len (t:=38) hg
  obtain ⟨f,ht⟩:∃ f,s.stack[s.stack.length - 1]? = some f:=⟨_,EK (by omega)⟩
  have ht':fU s=some f:=ht
  have hF:=hQ.2.2.2.1 _ f ht
  have hrl:=fa hM hF
  obtain ⟨hf0,u,hu,hLr,hb0,b,hb,ha0,ha1⟩:=hF
  have hbo:ba m f=some b:=by simp [ba,hu,hb]
  have main:∃ r,aa prog 16 (f16_0 (s.stack.length - 1) (W (s.c 0)) (W (s.c 1)) (W (s.c 2)) (W (s.c 3)) (W (s.c 4)) (W (s.c 5)) (W (s.c 6)) (W (s.c 7)) (W (s.c 8)) (W (s.c 9)) (W (s.c 10)) (W (s.c 11)) (W (s.c 12)) (W (s.c 13)) (W (s.c 14)) (W (s.c 15)) (I s.done) (W s.value) z g TV.hole TV.hole TV.hole TV.hole TV.hole TV.hole TV.hole TV.hole TV.hole TV.hole TV.hole TV.hole TV.hole TV.hole TV.hole TV.hole i v TV.hole TV.hole z) r∧bq (b9 m s) z r:=by
    have hT : b9 m s = if f.at_ = b.ins.length then
        (if b.fin.kind = 1 then bc m s (reg f b.fin.a) else
         if b.fin.kind=4 then bm m s b.fin.f b.fin.args else
         if b.fin.kind=5 then aQ m s (reg f b.fin.a) else
         if b.fin.kind=6 then aQ m s f.fly else
         if b.fin.kind=3∧reg f b.fin.a=0 then cj s { f with block:=b.fin.els,at_:=0 } else cj s { f with block:=b.fin.to,at_:=0 })
      else match b.ins[f.at_.toNat]? with
        | none=>s
        | some x=>dX m s f x:=by
      unfold b9
      rw [if_neg (by simp [hd]),ht']
      simp only
      rw [hbo]
      rfl
    rw [hT]
    by_cases hat:f.at_=(b.ins.length:Int)
    · rw [if_pos hat]
      have hE:=lZ hM hu hb
      rw [← hLr] at hE
      have hk:=wE hE.1
      by_cases h1:b.fin.kind=1
      · rw [if_pos h1]
        exact D0 hm hM hg hi hv ho hQ ht' hf0 hu hb0 hb ha0 hat hE h1
      rw [if_neg h1]
      by_cases h4:b.fin.kind=4
      · rw [if_pos h4]
        exact DY hm hM hg hi hv ho ht' hf0 hu hb0 hb ha0 hat hE h4
      rw [if_neg h4]
      by_cases h5:b.fin.kind=5
      · rw [if_pos h5]
        exact pThrow hm hM hg hi hv ho hQ ht' hf0 hu hb0 hb ha0 hat hE h5
      rw [if_neg h5]
      by_cases h6:b.fin.kind=6
      · rw [if_pos h6]
        exact DN hm hM hg hi hv ho hQ ht' hf0 hu hb0 hb ha0 hat h6
      rw [if_neg h6]
      exact pGo hm hM hg hi hv ho ht' hf0 hu hb0 hb ha0 hat hrl hE (by omega)
    · rw [if_neg hat]
      obtain ⟨x,hx⟩:∃ x,b.ins[f.at_.toNat]? = some x:=⟨_,EK (by omega)⟩
      have hI:=ol hM hu hb hx
      rw [← hLr] at hI
      rw [hx]
      simp only
      by_cases h11:x.op=11
      · exact pCall hm hM hg hi hv ho ht' hf0 hu hb0 hb ha0 hx hI h11
      by_cases h8:x.op≤8
      · exact Ei hm hM hg hi hv ho ht' hf0 hu hb0 hb ha0 hx hI h8 hrl
      by_cases h9:x.op=9
      · exact pLoad hm hM hg hi hv ho ht' hf0 hu hb0 hb ha0 hx hI h9
      by_cases h10:x.op=10
      · exact pStore hm hM hg hi hv ho ht' hf0 hu hb0 hb ha0 hx hI h10
      by_cases h12:x.op=12
      · exact pOut hm hM hg hi hv ho ht' hf0 hu hb0 hb ha0 hx hI h12 hel
      have h13:x.op=13:=by
        have:=zH hI.1
        omega
      exact pIn hm hM hg hi hv ho ht' hf0 hu hb0 hb ha0 hx hI h13 hel
  obtain ⟨r,hr,hout⟩:=main
  refine ⟨r,?_,hout⟩
  refine ak.of (f16_MR _ _ _ _ _ _ _ _ _ _ _ _ _ _ _ _ _ _ _ _ _ _) ?_
  unfold f16_M
  rw [hz]
  refine aa.chk ?_ (aa.tv hlen (aa.tv (dec h0 (by omega)) (aa.nat hg.slLen (aa.nat (aM (by omega)) (aa.chk (oR hg.slSize (by omega)) (f16_0_J hr))))))
  simp [hg.isSl,hi.isSl,hv.isSl,hys,TV.isSc,scV]
end Go.Ab.A10
end
section
set_option maxRecDepth 10000
namespace Go.Ab
def pD:DMach:=⟨[],List.replicate 16 0,[],[],0,0⟩
theorem xq (k:Nat):pD.c k=0:=by
 simp only [DMach.c,pD,List.getD,List.getElem?_replicate]
 split <;> rfl
def nQ:List TV:=[.lit aI,W 0,W 0,W 0,W 0,W 0,W 0,W 0,W 0,W 0,W 0,W 0,W 0,W 0,W 0,W 0,W 0,.lit aI,.lit aI,I 0,W 0]
theorem m9:eJ nQ pD :=
 ⟨.lit aI,.lit aI,.lit aI,by simp only [nQ,ar,xq]; rfl,RL.nil,RL.nil,RL.nil,by simp [pD],fun k=>by rw [xq]; exact nY,in0,nY⟩
theorem eJ.fit {e:List TV} {s:DMach} (h:eJ e s):(Bool.and ((TV.agg e).isAgg 21) (ab Bw ((TV.agg e).cellsL true) 0))=true:=by
 obtain ⟨g,i,v,rfl,hg,hi,hv,ho⟩:=h
 exact BT hg.isSl hi.isSl hv.isSl
end Go.Ab
namespace Go.Ab.A10
open Go Go.Ab Go.Proofs
theorem A8 {e:List TV} {s:DMach} (h:eJ e s):isOwn (.agg e)=true:=by
 obtain ⟨g,i,v,rfl,hg,hi,hv,ho⟩:=h
 exact xS (hg.own fun _ _ h=>h.own) (hi.own fun _ _ h=>h.own) (hv.own fun _ _ h=>h.own)
theorem ku {e:List TV} {s:DMach} {n:Int} (h:eJ e s):aV [.agg e,I n]=true:=by
 have:=A8 h
 simp only [aV,this,Bool.true_and]
 rfl
open Classical in
theorem BV {q q':Option Bool} {e:List TV} {x:TV} {m:DMod} {inputs:List Int} (hm:RMod q e m) (hx:RWords q' x inputs) (hl:inputs.length≤4294967296) :
  ∃ e2,ak prog 15 [.agg e,x] (.tup [.agg e2,I (if bz m then 0 else 1)])∧eJ e2 (if bz m then iy m inputs else pD):=by
 obtain ⟨e1,hr1,h1⟩:=rNew (n:=0) (args:=[]) hm in0 (RL.nil:RWords none (.lit aI) [])
 obtain ⟨i2,hri,hi2⟩:=r39 hx hl
 obtain ⟨y,rfl,hy⟩:=hm
 by_cases hM:bz m
 ·rw [if_pos hM,if_pos hM]
  have hD:oe m 0 []=jA m 0 []:=by
   unfold oe
   rw [dg hM]
   rfl
  obtain ⟨_,⟨u,hu,hp⟩,_⟩:=id hM
  obtain ⟨hf,hN⟩:=pH (n:=0) (args:=[]) hM (Int.le_refl 0) hu (by simp [hp])
  have hE:Cd (oe m 0 [])=0:=by
   rw [hD]
   cases h:jA m 0 [] with
   | none=>simp [jA,hu,hp] at h
   | some f=>rfl
  rw [hE] at hr1
  rw [hD] at h1
  have h1':=h1
  generalize hF:(jA m 0 []).getD fO=f2 at h1 h1'
  obtain ⟨yn,rfl,hyn,hof⟩:=h1
  have hout:eJ (ar (iy m inputs) (.sl true 5 [[I f2.f,I f2.block,I f2.at_,yn,W f2.fly]]) i2 (.lit aI)) (iy m inputs):=by
   refine ⟨_,_,_,rfl,?_,hi2,RL.nil,by simp [iy],fun k=>by rw [BF]; exact nY,in0,nY⟩
   show RL (some true) 5 (RFrame (some true)) _ [(jA m 0 []).getD fO]
   rw [hF]
   exact .sl (by simp) (.cons h1' .nil) (by simp)
  refine ⟨_,?_,hout⟩
  have ho2:=ku (n:=0) hout
  simp only [ar,BF] at ho2 ⊢
  refine ak.of (f15_MR _ _) ?_
  unfold f15_M
  refine aa.chk rfl (aa.call hr1 (aa.chk rfl (aa.chk (fj hyn.isSl) (aa.chk rfl (aa.tv rfl (aa.ite rfl (fun h=>nomatch h) fun _=>aa.call hri (aa.chk ?_ (aa.chk ho2 aa.ret))))))))
  simp [ab,zSl,aC,hi2.isSl]
 ·rw [if_neg hM,if_neg hM]
  have hD:oe m 0 []=none:=by
   unfold oe
   rw [dG hM]
   rfl
  rw [hD] at hr1 h1
  obtain ⟨yn,rfl,hyn,hof⟩:=h1
  refine ⟨nQ,?_,m9⟩
  refine ak.of (f15_MR _ _) ?_
  unfold f15_M
  exact aa.chk rfl (aa.call hr1 (aa.chk rfl (aa.chk (fj hyn.isSl) (aa.chk rfl (aa.tv rfl (aa.ite rfl (fun _=>aa.chk rfl aa.ret) fun h=>nomatch h))))))
theorem Be {m:DMod} (hM:bz m):∀ (n:Nat) (q:Option Bool) (s:DMach) (y g i v:TV),RMod q [y] m→RStack g s.stack→RWords (some true) i s.inputs→RInts (some true) v s.events→s.ok→bP m s→s.events.length + n≤4294967296 →
  ∃ e2,aa prog 7 (f7_0 (I (n:Int)) (W (s.c 0)) (W (s.c 1)) (W (s.c 2)) (W (s.c 3)) (W (s.c 4)) (W (s.c 5)) (W (s.c 6)) (W (s.c 7)) (W (s.c 8)) (W (s.c 9)) (W (s.c 10)) (W (s.c 11)) (W (s.c 12)) (W (s.c 13)) (W (s.c 14)) (W (s.c 15)) (I s.done) (W s.value) g TV.hole TV.hole TV.hole TV.hole TV.hole TV.hole TV.hole TV.hole TV.hole TV.hole TV.hole TV.hole TV.hole TV.hole TV.hole TV.hole i v TV.hole TV.hole TV.hole y) (.tup [.agg e2,I 0])∧eJ e2 (eS m s n):=by
 intro n
 have stop:∀ (s:DMach) (g i v y:TV),RStack g s.stack→RWords (some true) i s.inputs→RInts (some true) v s.events→s.ok→aa prog 7 (f7_1 (W (s.c 0)) (W (s.c 1)) (W (s.c 2)) (W (s.c 3)) (W (s.c 4)) (W (s.c 5)) (W (s.c 6)) (W (s.c 7)) (W (s.c 8)) (W (s.c 9)) (W (s.c 10)) (W (s.c 11)) (W (s.c 12)) (W (s.c 13)) (W (s.c 14)) (W (s.c 15)) (I s.done) (W s.value) g TV.hole TV.hole TV.hole TV.hole TV.hole TV.hole TV.hole TV.hole TV.hole TV.hole TV.hole TV.hole TV.hole TV.hole TV.hole TV.hole i v TV.hole TV.hole TV.hole y) (.tup [.agg (ar s g i v),I 0]):=by
  intro s g i v y hg hi hv ho
  unfold f7_1
  exact aa.chk (ku ⟨g,i,v,rfl,hg,hi,hv,ho⟩) aa.ret
 induction n with
 | zero =>
  intro q s y g i v hm hg hi hv ho hQ hel
  refine ⟨_,?_,⟨g,i,v,rfl,hg,hi,hv,ho⟩⟩
  unfold f7_0
  exact aa.tv rfl (aa.ite rfl (fun h=>nomatch h) fun _=>f7_1_J (stop s g i v y hg hi hv ho))
 | succ n ih =>
  intro q s y g i v hm hg hi hv ho hQ hel
  by_cases hd:s.done=0
  rotate_left
  ·have hT:eS m s (n + 1)=s:=by simp [eS,hd]
   rw [hT]
   refine ⟨_,?_,⟨g,i,v,rfl,hg,hi,hv,ho⟩⟩
   unfold f7_0
   refine aa.tv rfl (aa.ite rfl (fun _=>?_) fun h=>?_)
   ·refine aa.tv rfl (aa.ite rfl (fun h=>?_) fun _=>f7_1_J (stop s g i v y hg hi hv ho))
    simp at h; exact absurd h hd
   ·simp at h <;> omega
  have hT:eS m s (n + 1)=eS m (b9 m s) n:=by simp [eS,hd]
  rw [hT]
  have hys:y.isSl=true:=by
   obtain ⟨y',h,h'⟩:=id hm
   cases h
   exact h'.isSl
  obtain ⟨r,hr,hout⟩:=tX hm hM hg hi hv ho hQ hd (by omega)
  have hQ2:=kL hM hQ
  have hev:(b9 m s).events.length≤s.events.length + 1:=by
   rcases qw (m:=m) (s:=s) with h | ⟨a,h⟩ <;> rw [h]
   ·omega
   ·simp
  generalize b9 m s=s2 at hout hQ2 hev
  obtain ⟨g2,i2,v2,rfl,hg2,hi2,hv2,ho2⟩:=hout
  have hm2:=hm.frz'
  have hys2:(Go.Ab.frz y).isSl=true:=by
   obtain ⟨y',h,h'⟩:=id hm2
   cases h
   exact h'.isSl
  obtain ⟨e2,hgo,h2⟩:=ih (some false) s2 (Go.Ab.frz y) g2 i2 v2 hm2 hg2 hi2 hv2 ho2 hQ2 (by omega)
  refine ⟨e2,?_,h2⟩
  unfold f7_0
  refine aa.tv rfl (aa.ite rfl (fun _=>?_) fun h=>?_)
  rotate_left
  ·simp at h <;> omega
  refine aa.tv rfl (aa.ite rfl (fun _=>?_) fun h=>?_)
  rotate_left
  ·simp at h; exact absurd hd h
  have hdec:pbin (.int .i64) .sub (I ((n + 1:Nat):Int)) (I (1:Int))=some (I (n:Int)):=by
   have:=dec (n:=n + 1) (by omega) (by omega)
   simpa using this
  refine aa.chk ?_ (aa.call hr (aa.chk ?_ (aa.chk rfl (aa.tv hdec (f7_0_J hgo)))))
  ·simp [hg.isSl,hi.isSl,hv.isSl,hys,TV.isSc,scV]
  ·simp [TV.isTup,TV.comp,nth,ar,hg2.isSl,hi2.isSl,hv2.isSl,hys2,TV.isSc,scV]
open Classical in
theorem wm {q q':Option Bool} {e:List TV} {x:TV} {m:DMod} {inputs:List Int} {fuel:Int} (hm:RMod q e m) (hx:RWords q' x inputs) (hl:inputs.length≤4294967296) :
  ∃ e2,ak prog 7 [.agg e,x,I fuel] (.tup [.agg e2,I (if bz m∧fuel≤1048576 then 0 else 1)])∧eJ e2 (if bz m∧fuel≤1048576 then eS m (iy m inputs) fuel.toNat else pD):=by
 obtain ⟨e1,hr1,h1⟩:=BV hm hx hl
 have hm':=hm
 obtain ⟨y,rfl,hy⟩:=hm
 by_cases hM:bz m
 rotate_left
 ·rw [if_neg hM] at hr1 h1
  rw [if_neg (fun h=>hM h.1),if_neg (fun h=>hM h.1)]
  refine ⟨nQ,?_,m9⟩
  refine ak.of (f7_MR _ _ _) ?_
  unfold f7_M
  exact aa.chk rfl (aa.call hr1 (aa.chk rfl (aa.chk h1.fit (aa.chk rfl (aa.tv rfl (aa.ite rfl (fun _=>aa.chk rfl aa.ret) fun h=>nomatch h))))))
 rw [if_pos hM] at hr1 h1
 by_cases hf:fuel≤1048576
 rotate_left
 ·rw [if_neg (fun h=>hf h.2),if_neg (fun h=>hf h.2)]
  refine ⟨nQ,?_,m9⟩
  refine ak.of (f7_MR _ _ _) ?_
  unfold f7_M
  refine aa.chk rfl (aa.call hr1 (aa.chk rfl (aa.chk h1.fit (aa.chk rfl (aa.tv rfl (aa.ite rfl (fun h=>nomatch h) fun _=>aa.tv rfl (aa.ite rfl (fun _=>aa.chk rfl aa.ret) fun h=>?_)))))))
  simp at h; omega
 rw [if_pos ⟨hM,hf⟩,if_pos ⟨hM,hf⟩]
 have hQ:=rT (inputs:=inputs) hM
 have hev:(iy m inputs).events.length=0:=by simp [iy]
 have hfit:=h1.fit
 have hs0:∀ s:DMach,fuel≤0→eS m s fuel.toNat=s:=by
  intro s h
  have:fuel.toNat=0:=by omega
  rw [this]
  rfl
 generalize iy m inputs=s at h1 hQ hev
 obtain ⟨g,i,v,rfl,hg,hi,hv,ho⟩:=h1
 have hgo:∃ e2,aa prog 7 (f7_0 (I fuel) (W (s.c 0)) (W (s.c 1)) (W (s.c 2)) (W (s.c 3)) (W (s.c 4)) (W (s.c 5)) (W (s.c 6)) (W (s.c 7)) (W (s.c 8)) (W (s.c 9)) (W (s.c 10)) (W (s.c 11)) (W (s.c 12)) (W (s.c 13)) (W (s.c 14)) (W (s.c 15)) (I s.done) (W s.value) g TV.hole TV.hole TV.hole TV.hole TV.hole TV.hole TV.hole TV.hole TV.hole TV.hole TV.hole TV.hole TV.hole TV.hole TV.hole TV.hole i v TV.hole TV.hole TV.hole y) (.tup [.agg e2,I 0])∧eJ e2 (eS m s fuel.toNat):=by
  by_cases h0:0≤fuel
  ·have:=Be hM fuel.toNat q s y g i v hm' hg hi hv ho hQ (by omega)
   rw [Int.toNat_of_nonneg h0] at this
   exact this
  ·refine ⟨_,?_,by rw [hs0 s (by omega)]; exact ⟨g,i,v,rfl,hg,hi,hv,ho⟩⟩
   unfold f7_0
   refine aa.tv rfl (aa.ite rfl (fun h=>?_) fun _=>f7_1_J ?_)
   ·simp at h; omega
   ·unfold f7_1
    exact aa.chk (ku ⟨g,i,v,rfl,hg,hi,hv,ho⟩) aa.ret
 obtain ⟨e2,hgo,h2⟩:=hgo
 refine ⟨e2,?_,h2⟩
 refine ak.of (f7_MR _ _ _) ?_
 unfold f7_M
 refine aa.chk rfl (aa.call hr1 (aa.chk rfl (aa.chk hfit (aa.chk rfl (aa.tv rfl (aa.ite rfl (fun h=>nomatch h) fun _=>aa.tv rfl (aa.ite rfl (fun h=>?_) fun _=>aa.chk hy.isSl (f7_0_J hgo))))))))
 simp at h; omega
theorem pS {q:Option Bool} {e es:List TV} {m:DMod} {s:DMach} (hm:RMod q e m) (hM:bz m) (hs:RMach es s) (hQ:bP m s) (h3:s.inputs.length≤4294967296) (h4:s.events.length + 1≤4294967296) :
  ∃ e2,ak prog 10 [.agg e,.agg es] (.tup [.agg e2,I 0])∧eJ e2 (b9 m s):=by
 have hrr:=DW hm hs
 rw [dg ⟨hM,hQ⟩] at hrr
 obtain ⟨ec,hrc,hc⟩:=C4 hs (by have:=hQ.2.1; omega) (fun k f hk=>by have:=fa hM (hQ.2.2.2.1 k f hk); omega) h3 (by omega)
 have hm':=hm
 obtain ⟨y,rfl,hy⟩:=hm
 obtain ⟨g0,i0,v0,rfl,_⟩:=hs
 have hfit:=hc.fit
 obtain ⟨g,i,v,rfl,hg,hi,hv,ho⟩:=hc
 have fin:∀ {s2:DMach} {g2 i2 v2 y2:TV},RStack g2 s2.stack→RWords (some true) i2 s2.inputs→RInts (some true) v2 s2.events→s2.ok→aa prog 10 (f10_0 (W (s2.c 0)) (W (s2.c 1)) (W (s2.c 2)) (W (s2.c 3)) (W (s2.c 4)) (W (s2.c 5)) (W (s2.c 6)) (W (s2.c 7)) (W (s2.c 8)) (W (s2.c 9)) (W (s2.c 10)) (W (s2.c 11)) (W (s2.c 12)) (W (s2.c 13)) (W (s2.c 14)) (W (s2.c 15)) (I s2.done) (W s2.value) g2 i2 v2 y2) (.tup [.agg (ar s2 g2 i2 v2),I 0]):=by
  intro s2 g2 i2 v2 y2 hg2 hi2 hv2 ho2
  unfold f10_0
  exact aa.chk (ku ⟨g2,i2,v2,rfl,hg2,hi2,hv2,ho2⟩) aa.ret
 by_cases hd:s.done=0
 ·obtain ⟨r,hr,hout⟩:=tX hm' hM hg hi hv ho hQ hd h4
  generalize b9 m s=s2 at hout
  obtain ⟨g2,i2,v2,rfl,hg2,hi2,hv2,ho2⟩:=hout
  have hys2:(Go.Ab.frz y).isSl=true:=by
   obtain ⟨y',h,h'⟩:=hm'.frz'
   cases h
   exact h'.isSl
  refine ⟨_,?_,⟨g2,i2,v2,rfl,hg2,hi2,hv2,ho2⟩⟩
  refine ak.of (f10_MR _ _) ?_
  unfold f10_M
  refine aa.chk rfl (aa.chk rfl (aa.call hrr (aa.chk rfl (aa.tv rfl (aa.ite rfl (fun h=>nomatch h) fun _=>aa.call hrc (aa.chk hfit (aa.tv rfl (aa.ite rfl (fun _=>?_) fun h=>?_))))))))
  rotate_left
  ·simp [TV.cell,nth,ar] at h; exact absurd hd h
  refine aa.chk ?_ (aa.call hr (aa.chk ?_ (aa.chk rfl (f10_0_J (fin hg2 hi2 hv2 ho2)))))
  ·simp [TV.cell,nth,ar,hg.isSl,hi.isSl,hv.isSl,hy.isSl,TV.isSc,scV]
  ·simp [TV.isTup,TV.comp,nth,ar,hg2.isSl,hi2.isSl,hv2.isSl,hys2,TV.isSc,scV]
 ·have hT:b9 m s=s:=by simp [b9,hd]
  rw [hT]
  refine ⟨_,?_,⟨g,i,v,rfl,hg,hi,hv,ho⟩⟩
  refine ak.of (f10_MR _ _) ?_
  unfold f10_M
  refine aa.chk rfl (aa.chk rfl (aa.call hrr (aa.chk rfl (aa.tv rfl (aa.ite rfl (fun h=>nomatch h) fun _=>aa.call hrc (aa.chk hfit (aa.tv rfl (aa.ite rfl (fun h=>?_) fun _=>aa.chk hy.isSl (f10_0_J (fin hg hi hv ho))))))))))
  simp [TV.cell,nth,ar] at h; exact absurd h hd
end Go.Ab.A10
end
section
set_option maxRecDepth 10000
namespace Go.Ab
section
variable {m:DMod} {s:DMach}
theorem zb (h:¬ s.done=0):b9 m s=s:=by simp [b9,h]
theorem jV (h:¬ s.done=0):∀ n,eS m s n=s
 | 0=>rfl
 | n + 1=>by simp [eS,h]
theorem xd:∀ (a b:Nat) (s:DMach),eS m s (a + b)=eS m (eS m s a) b
 | 0,b,s=>by simp [eS]
 | a + 1, b, s => by
  rw [show a + 1 + b=(a + b) + 1 by omega]
  by_cases h:s.done=0
  ·simp only [eS,h,if_true]
   exact xd a b _
  ·rw [jV h,jV h,jV h]
theorem CH:eS m s 1=b9 m s:=by
 by_cases h:s.done=0
 ·simp [eS,h]
 ·rw [jV h,zb h]
theorem un {n:Nat}:eS m s (n + 1)=b9 m (eS m s n):=by rw [xd,CH]
def rD (s:DMach):Prop:=(∀ (k:Nat) f,s.stack[k]? = some f→∀ (j:Nat) a,f.regs[j]? = some a→inW a)∧∀ a,a ∈ s.inputs→inW a
theorem eJ.words {e:List TV} (h:eJ e s):rD s:=by
 obtain ⟨g,i,v,rfl,hg,hi,hv,ho⟩:=h
 refine ⟨fun k f hk j a hj=>?_,fun a ha=>?_⟩
 ·obtain ⟨e,_,gr,rfl,hgr,_⟩:=hg.pel hk
  obtain ⟨e,_,_,haw⟩:=hgr.pel hj
  exact haw
 ·obtain ⟨k,hk,rfl⟩:=List.mem_iff_getElem.1 ha
  obtain ⟨e,_,_,haw⟩:=hi.pel (EK hk)
  exact haw
theorem reg_lt {f:DFrame} {n:Int} (h:∀ (j:Nat) a,f.regs[j]? = some a→inW a):reg f n < 65536:=by
 unfold reg
 rw [EX]
 cases hk:f.regs[n.toNat]? with
 | none=>simp
 | some a =>
  have:=(h _ _ hk).2
  simp only [Option.getD_some]
  omega
theorem uP (hW:rD s):((b9 m s).events=s.events∧(b9 m s).inputs=s.inputs)∨(∃ a,a < 65536∧(b9 m s).events=s.events ++ [a]∧(b9 m s).inputs=s.inputs)∨∃ a l,s.inputs=a :: l∧(b9 m s).events=s.events ++ [a + 65536]∧(b9 m s).inputs=l:=by
 have hc:∀ n p,(bm m s n p).events=s.events∧(bm m s n p).inputs=s.inputs:=by
  intro n p
  unfold bm
  split
  ·exact ⟨rfl,rfl⟩
  ·split <;> exact ⟨rfl,rfl⟩
 have hth:∀ w,(aQ m s w).events=s.events∧(aQ m s w).inputs=s.inputs:=by
  intro w
  unfold aQ
  split
  ·split
   ·exact ⟨rfl,rfl⟩
   ·split <;> exact ⟨rfl,rfl⟩
  ·exact ⟨rfl,rfl⟩
 have han:∀ w,(bc m s w).events=s.events∧(bc m s w).inputs=s.inputs:=by
  intro w
  unfold bc
  split
  ·exact ⟨rfl,rfl⟩
  ·split
   ·exact ⟨rfl,rfl⟩
   ·split
    ·exact ⟨rfl,rfl⟩
    ·split
     ·exact ⟨rfl,rfl⟩
     ·split <;> exact ⟨rfl,rfl⟩
 unfold b9
 split
 ·exact .inl ⟨rfl,rfl⟩
 split
 ·exact .inl ⟨rfl,rfl⟩
 rename_i f ht
 split
 ·exact .inl ⟨rfl,rfl⟩
 split
 ·split
  ·exact .inl (han _)
  split
  ·exact .inl (hc _ _)
  split
  ·exact .inl (hth _)
  split
  ·exact .inl (hth _)
  split
  ·exact .inl ⟨rfl,rfl⟩
  ·exact .inl ⟨rfl,rfl⟩
 ·split
  ·exact .inl ⟨rfl,rfl⟩
  ·rename_i x _
   unfold dX
   split
   ·exact .inl (hc _ _)
   split
   ·split
    ·exact .inl ⟨rfl,rfl⟩
    ·exact .inl ⟨rfl,rfl⟩
   split
   ·split
    ·exact .inl ⟨rfl,rfl⟩
    ·exact .inl ⟨rfl,rfl⟩
   split
   ·split
    ·exact .inl ⟨rfl,rfl⟩
    ·exact .inl ⟨rfl,rfl⟩
   split
   ·exact .inr (.inl ⟨_,reg_lt (hW.1 _ _ ht),rfl,rfl⟩)
   split
   ·exact .inl ⟨rfl,rfl⟩
   ·rename_i a l hl
    exact .inr (.inr ⟨a,l,hl,rfl,rfl⟩)
def kK (l:List Int):List Int:=(l.filter fun e=>decide (65536≤e)).map fun e=>e - 65536
def vR (inputs:List Int) (s:DMach):Prop:=kK s.events ++ s.inputs=inputs
theorem sJ {l k:List Int}:kK (l ++ k)=kK l ++ kK k:=by simp [kK]
theorem yV {inputs:List Int} (hW:rD s) (h:vR inputs s):vR inputs (b9 m s):=by
 unfold vR at *
 rcases uP (m:=m) hW with ⟨h1,h2⟩ | ⟨a,ha,h1,h2⟩ | ⟨a,l,h0,h1,h2⟩
 ·rw [h1,h2]; exact h
 ·rw [h1,h2,sJ]
  have:kK [a]=[]:=by simp [kK]; omega
  rw [this,List.append_nil]
  exact h
 ·have haw:=hW.2 a (by rw [h0]; simp)
  have:=haw.1
  have hT:kK [a + 65536]=[a]:=by
   simp [kK,show (65536:Int)≤a + 65536 by omega]
  rw [h1,h2,sJ,hT,List.append_assoc,← h,h0]
  rfl
theorem uE {inputs:List Int}:∀ n,(∀ k,k≤n→rD (eS m (iy m inputs) k))→vR inputs (eS m (iy m inputs) n)
 | 0,h=>rfl
 | n + 1,h=>by
  rw [un]
  exact yV (h n (by omega)) (uE n fun k hk=>h k (by omega))
theorem rz:∀ (n:Nat) (s:DMach),∃ l,(eS m s n).events=s.events ++ l∧l.length≤n
 | 0,s=>⟨[],by simp [eS]⟩
 | n + 1, s => by
  by_cases h:s.done=0
  ·simp only [eS,h,if_true]
   obtain ⟨l,hl,hn⟩:=rz n (b9 m s)
   rcases Go.Ab.A10.qw (m:=m) (s:=s) with h1 | ⟨a,h1⟩
   ·exact ⟨l,by rw [hl,h1],by omega⟩
   ·exact ⟨a :: l,by rw [hl,h1]; simp,by simp; omega⟩
  ·rw [jV h]
   exact ⟨[],by simp⟩
end
end Go.Ab
end
section
set_option maxRecDepth 10000
namespace Go.Ab
theorem wC {p k:Int} (hp:0≤p∧p≤255) (hk:0 < k):∃ N:Nat,p.tmod k=(N:Int)∧(N:Int) < k∧(N:Int)≤p:=by
 rw [Int.tmod_eq_emod_of_nonneg hp.1]
 have h1:=Int.emod_nonneg p (show k≠0 by omega)
 have h2:=Int.emod_lt_of_pos p hk
 have h3:p % k≤p:=Int.emod_le hp.1
 exact ⟨(p % k).toNat,by omega,by omega,by omega⟩
where
 Int.emod_le {p k:Int} (hp:0≤p):p % k≤p:=by
  have:=Int.emod_add_mul_ediv p k
  rcases Int.lt_trichotomy k 0 with h | h | h
  ·have h1:=Int.emod_neg p k
   have h2:=Int.mul_ediv_self_le (x:=p) (k:=-k) (by omega)
   have h3:p % -k=p - -k * (p / -k):=by have:=Int.emod_add_mul_ediv p (-k); omega
   have h4:0≤p / -k:=Int.ediv_nonneg hp (by omega)
   have h5:0≤-k * (p / -k):=Int.mul_nonneg (by omega) h4
   rw [← Int.emod_neg]
   omega
  ·subst h; simp
  ·have h4:0≤p / k:=Int.ediv_nonneg hp (by omega)
   have h5:0≤k * (p / k):=Int.mul_nonneg (by omega) h4
   omega
theorem xe {a:Int} (h0:0≤a) (h:a≤255):pconv (.int .i64) (.lit (.int .u8 a))=some (I a):=by
 simp only [pconv]
 rw [IntKind.wrap_i64]
 congr 3
 omega
end Go.Ab
namespace Go.Ab.A10
open Go Go.Ab Go.Proofs
open Classical in
theorem zX {q q':Option Bool} {e:List TV} {x:TV} {m:DMod} {l:List Int} (hm:RMod q e m) (hM:bz m) (hx:RWords q' x l) (hl:l.length≤4294967296) {n:Nat} (hn:n≤1048576):∃ e2,ak prog 7 [.agg e,x,I (n:Int)] (.tup [.agg e2,I 0])∧eJ e2 (eS m (iy m l) n):=by
 obtain ⟨e2,hr,h⟩:=wm (fuel:=(n:Int)) hm hx hl
 have hc:bz m∧(n:Int)≤1048576:=⟨hM,by omega⟩
 rw [if_pos hc] at hr h
 exact ⟨e2,hr,by simpa using h⟩
theorem uC {m:DMod} (hM:bz m) {s:DMach} (hQ:bP m s):∀ n,bP m (eS m s n)
 | 0=>hQ
 | n + 1=>by
  rw [un]
  exact kL hM (uC hM hQ n)
end Go.Ab.A10
end
section
set_option maxRecDepth 10000
namespace Go.Ab
def fu (x:DIns):List Int:=if x.op=2∨x.op=9∨x.op=12 then [x.a] else if (3≤x.op∧x.op≤8)∨x.op=10 then [x.a,x.b] else if x.op=11 then x.args else []
def dc (x:DIns):Option Int:=if 1≤x.op∧x.op≤13∧x.op≠10∧x.op≠12 then some x.dst else none
def dq (e:DEnd):List Int:=if e.kind=1∨e.kind=3∨e.kind=5 then [e.a] else if e.kind=4 then e.args else []
inductive Lv (bs:List DBlock) (p:Int):Nat→Nat→Prop
 | ask {n k:Nat} {b:DBlock} {x:DIns} (hb:bs[n]? = some b) (hx:b.ins[k]? = some x) (h:p ∈ fu x):Lv bs p n k
 | on {n k:Nat} {b:DBlock} {x:DIns} (hb:bs[n]? = some b) (hx:b.ins[k]? = some x) (h:dc x≠some p) (hl:Lv bs p n (k + 1)):Lv bs p n k
 | askE {n:Nat} {b:DBlock} (hb:bs[n]? = some b) (h:p ∈ dq b.fin):Lv bs p n b.ins.length
 | to {n:Nat} {b:DBlock} (hb:bs[n]? = some b) (h:b.fin.kind=2∨b.fin.kind=3∨b.fin.kind=4∧b.fin.dst≠p) (hl:Lv bs p b.fin.to.toNat 0):Lv bs p n b.ins.length
 | els {n:Nat} {b:DBlock} (hb:bs[n]? = some b) (h:b.fin.kind=3) (hl:Lv bs p b.fin.els.toNat 0):Lv bs p n b.ins.length
 | pad {n:Nat} {b pb:DBlock} (hb:bs[n]? = some b) (h:b.fin.kind=4) (hp:bs[b.fin.pad.toNat]? = some pb) (hd:pb.pad.dst≠p) (hl:Lv bs p b.fin.pad.toNat 0):Lv bs p n b.ins.length
def Bh (bs:List DBlock) (p:Int) (n k:Nat):Prop:=∃ b,bs[n]? = some b∧((∃ x,b.ins[k]? = some x∧dc x≠some p∧Lv bs p n (k + 1))∨(k=b.ins.length ∧
 (((b.fin.kind=2∨b.fin.kind=3∨b.fin.kind=4∧b.fin.dst≠p)∧Lv bs p b.fin.to.toNat 0)∨(b.fin.kind=3∧Lv bs p b.fin.els.toNat 0)∨(b.fin.kind=4∧∃ pb,bs[b.fin.pad.toNat]? = some pb∧pb.pad.dst≠p∧Lv bs p b.fin.pad.toNat 0))))
theorem Bh.lv {bs:List DBlock} {p:Int} {n k:Nat} (h:Bh bs p n k):Lv bs p n k:=by
 obtain ⟨b,hb,⟨x,hx,h1,h2⟩ | ⟨rfl,⟨h1,h2⟩ | ⟨h1,h2⟩ | ⟨h1,pb,h2,h3,h4⟩⟩⟩:=h
 ·exact .on hb hx h1 h2
 ·exact .to hb h1 h2
 ·exact .els hb h1 h2
 ·exact .pad hb h1 h2 h3 h4
def agr (P:Int→Prop) (f g:DFrame):Prop:=f.f=g.f∧f.block=g.block∧f.at_=g.at_∧f.fly=g.fly∧f.regs.length=g.regs.length∧∀ p:Int,0≤p→P p→reg f p=reg g p
def wL (m:DMod) (f g:DFrame):Prop:=∃ u,m.funcs[f.f.toNat]? = some u∧agr (fun p=>Lv u.blocks p f.block.toNat f.at_.toNat) f g
def yL (m:DMod) (f g:DFrame):Prop:=∃ u,m.funcs[f.f.toNat]? = some u∧agr (fun p=>Bh u.blocks p f.block.toNat f.at_.toNat) f g
theorem wL.low {m:DMod} {f g:DFrame} (h:wL m f g):yL m f g:=by
 obtain ⟨u,hu,h1,h2,h3,h4,h5,h6⟩:=h
 exact ⟨u,hu,h1,h2,h3,h4,h5,fun p h0 hp=>h6 p h0 hp.lv⟩
def Tl5 (s t:DMach):Prop:=s.cells=t.cells∧s.inputs=t.inputs∧s.events=t.events∧s.done=t.done∧s.value=t.value
def eV (m:DMod) (s t:DMach):Prop:=Tl5 s t∧s.stack.length=t.stack.length∧(s.done=0→∃ lo lo' f g,s.stack=lo ++ [f]∧t.stack=lo' ++ [g]∧F2 (yL m) lo lo'∧wL m f g)
theorem kB {s:DMach} {lo:List DFrame} {f0 f:DFrame} (h:s.stack=lo ++ [f0]):(cj s f).stack=lo ++ [f]:=by simp [cj,h]
theorem eV.with_ {m:DMod} {s t:DMach} {lo lo':List DFrame} {f0 g0 f g:DFrame} (hT:Tl5 s t) (hs:s.stack=lo ++ [f0]) (ht:t.stack=lo' ++ [g0]) (hL:F2 (yL m) lo lo') (hA:wL m f g):eV m (cj s f) (cj t g):=by
 refine ⟨hT,?_,fun _=>⟨lo,lo',f,g,kB hs,kB ht,hL,hA⟩⟩
 rw [kB hs,kB ht]
 simp [hL.length]
theorem eV.ended {m:DMod} {s t:DMach} (hT:Tl5 s t) (hl:s.stack.length=t.stack.length) {how w:Int} (hh:how≠0):eV m (bM s how w) (bM t how w) :=
 ⟨⟨hT.1,hT.2.1,hT.2.2.1,rfl,rfl⟩,hl,fun h=>absurd h hh⟩
theorem rk {f g:DFrame} (hl:f.regs.length=g.regs.length) {d w p:Int} (hd:0≤d) (hp:0≤p) (h:p≠d→reg f p=reg g p):reg (ia f d w) p=reg (ia g d w) p:=by
 by_cases e:p=d
 ·subst e
  simp only [reg,ia,List.getD,List.getElem?_set]
  simp [hl]
 ·have hn:d.toNat≠p.toNat:=by omega
  have:=h e
  simp only [reg,ia,List.getD] at this ⊢
  rw [List.getElem?_set_ne hn,List.getElem?_set_ne hn]
  exact this
theorem uk {f g:DFrame} (hl:f.regs.length=g.regs.length) {p:Int} (h:reg f p=reg g p):iq f.regs p=iq g.regs p:=by
 unfold iq
 split
 ·by_cases hlt:p.toNat < f.regs.length
  ·have hlt':p.toNat < g.regs.length:=by omega
   simp only [reg,List.getD,EK hlt,EK hlt',Option.getD_some] at h
   rw [EK hlt,EK hlt',h]
  ·rw [EV (by omega),EV (by omega)]
 ·rfl
theorem xh {f g:DFrame} {l:List Int} (h:∀ p ∈ l,reg f p=reg g p):aD f.regs l=aD g.regs l:=List.map_congr_left fun p hp=>h p hp
end Go.Ab
namespace Go.Ab.A10
open Go Go.Ab Go.Proofs
theorem ja {u:Bool} {regs n:Int} (h:jy u regs n):0≤n:=by
 cases u with
 | true=>exact (h.1 rfl).1
 | false=>have:=h.2 rfl; omega
theorem zY {u:Bool} {fs:List DFunc} {regs n:Int} {l:List Int} (h:ny u fs regs n l):∀ p ∈ l,0≤p:=by
 intro p hp
 cases u with
 | true =>
  obtain ⟨_,g,_,_,h⟩:=h.1 rfl
  obtain ⟨i,hi,rfl⟩:=List.mem_iff_getElem.1 hp
  exact (h i hi _ (EK hi)).1
 | false =>
  have:=(h.2 rfl).2
  rw [this] at hp
  cases hp
theorem ins_nn {fs:List DFunc} {regs:Int} {x:DIns} (h:oF fs regs x):∀ p ∈ fu x,0≤p:=by
 obtain ⟨_,hd,ha,hb,_,hc⟩:=h
 intro p hp
 unfold fu at hp
 split at hp
 ·have:p=x.a:=by simpa using hp
  subst this; exact ja ha
 split at hp
 ·have:p=x.a∨p=x.b:=by simpa using hp
  rcases this with rfl | rfl
  ·exact ja ha
  ·exact ja hb
 split at hp
 ·exact zY hc p hp
 ·cases hp
theorem end_nn {fs:List DFunc} {regs:Int} {bs:List DBlock} {x:DEnd} (h:sV fs regs bs x):∀ p ∈ dq x,0≤p:=by
 obtain ⟨_,ha,hd,hc,_⟩:=h
 intro p hp
 unfold dq at hp
 split at hp
 ·have:p=x.a:=by simpa using hp
  subst this; exact ja ha
 split at hp
 ·exact zY hc p hp
 ·cases hp
theorem xH {P:Nat→Prop}:∀ {n k:Nat},nn P n=some k→P k∧k < n:=by
 intro n
 induction n with
 | zero=>intro k h; cases h
 | succ n ih =>
  intro k h
  unfold nn at h
  split at h
  ·cases h; exact ⟨by assumption,by omega⟩
  ·have:=ih h
   exact ⟨this.1,by omega⟩
section
variable {m:DMod} {s t:DMach} {lo lo':List DFrame} {f g:DFrame} (hT:Tl5 s t) (hs:s.stack=lo ++ [f]) (ht:t.stack=lo' ++ [g]) (hL:F2 (yL m) lo lo')
include hT hs ht hL
theorem qX:s.stack.length=t.stack.length:=by rw [hs,ht]; simp [hL.length]
theorem rZ (hA:wL m f g) {n:Int} {regs:Int} {places:List Int} (hn:qn m.funcs regs n places) (hw:∀ p ∈ places,reg f p=reg g p):eV m (bm m s n places) (bm m t n places):=by
 have hl:=qX hT hs ht hL
 have hl1:s.stack.length - 1=lo.length:=by rw [hs]; simp
 have hl2:t.stack.length - 1=lo'.length:=by rw [ht]; simp
 have t1:fU s=some f:=by unfold fU; rw [hl1,hs]; simp
 have t2:fU t=some g:=by unfold fU; rw [hl2,ht]; simp
 obtain ⟨h0,u,hu,hul,_⟩:=hn
 unfold bm
 rw [← hl,t1,t2]
 simp only
 rw [xh hw]
 split
 ·exact eV.ended hT hl (by decide)
 ·have hN:∃ N,jA m n (aD g.regs places)=some N∧N.f=n:=by
   refine ⟨⟨n,0,0,(aD g.regs places).take u.regs.toNat ++ List.replicate (u.regs.toNat - (aD g.regs places).length) 0,0⟩,?_,rfl⟩
   have hwl:(aD g.regs places).length=places.length:=by simp [aD]
   simp [jA,h0,hu,hwl,hul]
  obtain ⟨N,hN,hNf⟩:=hN
  rw [hN]
  refine ⟨hT,by simp [hl],fun _=>⟨lo ++ [f],lo' ++ [g],N,N,by simp [hs],by simp [ht],hL.append (.cons hA.low .nil),u,by rw [hNf]; exact hu,rfl,rfl,rfl,rfl,rfl,fun _ _ _=>rfl⟩⟩
omit hT ht hL in
theorem oa:s.stack.take (s.stack.length - 1)=lo:=by rw [hs]; simp
theorem rm (w:Int) (cl:Bool):bR m lo w cl=bR m lo' w cl:=by
 have one:∀ {a b:DFrame},yL m a b→dC m a w cl→dC m b w cl:=by
  rintro a b ⟨u,_,h1,h2,h3,_⟩ ⟨u',b',p,hu,hb,h4⟩
  exact ⟨u',b',p,by rw [← h1]; exact hu,by rw [← h2]; exact hb,by rw [← h3]; exact h4⟩
 have two:∀ {a b:DFrame},yL m a b→dC m b w cl→dC m a w cl:=by
  rintro a b ⟨u,_,h1,h2,h3,_⟩ ⟨u',b',p,hu,hb,h4⟩
  exact ⟨u',b',p,by rw [h1]; exact hu,by rw [h2]; exact hb,by rw [h3]; exact h4⟩
 funext i
 apply propext
 constructor
 ·rintro ⟨a,ha,hc⟩
  obtain ⟨b,hb,hr⟩:=hL.getL ha
  exact ⟨b,hb,one hr hc⟩
 ·rintro ⟨b,hb,hc⟩
  obtain ⟨a,ha,hr⟩:=hL.get hb
  exact ⟨a,ha,two hr hc⟩
theorem sL (hM:bz m) (hS:eV m s t) (w:Int):eV m (aQ m s w) (aQ m t w):=by
 have hl:=qX hT hs ht hL
 have hl1:s.stack.length - 1=lo.length:=by rw [hs]; simp
 have hl2:t.stack.length - 1=lo'.length:=by rw [ht]; simp
 have e1:s.stack.take (s.stack.length - 1)=lo:=oa hs
 have e2:t.stack.take (t.stack.length - 1)=lo':=oa ht
 unfold aQ
 rw [e1,e2,rm hT hs ht hL w false,rm hT hs ht hL w true,hl1,hl2,hL.length]
 split
 ·split
  ·exact hS
  ·rename_i k hk
   obtain ⟨⟨g',hg',hc⟩,hlt⟩:=xH hk
   obtain ⟨f',hf',hR⟩:=hL.get hg'
   have hs':s.stack[k]? = some f':=by rw [hs,ET (by rw [hL.length]; exact hlt)]; exact hf'
   have ht':t.stack[k]? = some g':=by rw [ht,ET hlt]; exact hg'
   rw [hs',ht']
   simp only
   obtain ⟨u,hu,h1,h2,h3,h4,h5,h6⟩:=hR
   obtain ⟨u',b,pb,hu',hb,hat,h7,hpb,_⟩:=hc
   have:u'=u:=by rw [← h1,hu] at hu'; cases hu'; rfl
   subst this
   obtain ⟨hp0,pb',hpb',hld⟩:=nu hM hu' hb h7
   rw [hpb] at hpb'
   cases hpb'
   have hbf:u'.blocks[f'.block.toNat]? = some b:=by rw [h2]; exact hb
   have P1:jw m f'=b.fin.pad:=by simp [jw,hu,hbf]
   have P2:jw m g'=b.fin.pad:=by simp [jw,hu',hb]
   have L1:fJ m f' b.fin.pad w=some ⟨f'.f,b.fin.pad,0,f'.regs.set pb.pad.dst.toNat w,w⟩:=by simp [fJ,hu,hp0,hpb,hld]
   have L2:fJ m g' b.fin.pad w=some ⟨g'.f,b.fin.pad,0,g'.regs.set pb.pad.dst.toNat w,w⟩:=by simp [fJ,hu',hp0,hpb,hld]
   rw [P1,P2,L1,L2]
   have hkl:k < lo.length:=by rw [hL.length]; exact hlt
   have T1:s.stack.take (k + 1)=lo.take k ++ [f']:=by
    rw [hs,List.take_append_of_le_length (by omega),List.take_add_one,hf']
    rfl
   have T2:t.stack.take (k + 1)=lo'.take k ++ [g']:=by
    rw [ht,List.take_append_of_le_length (by omega),List.take_add_one,hg']
    rfl
   have hpd:0≤pb.pad.dst:=((eB hM hu' hpb).2.1.2 hld).1.1
   refine eV.with_ (lo:=lo.take k) (lo':=lo'.take k) (f0:=f') (g0:=g') hT T1 T2 (hL.take k) ⟨u',hu,h1,rfl,rfl,rfl,by simp [h5],fun p hp hv=>?_⟩
   refine rk (f:=f') (g:=g') h5 hpd hp fun hne=>h6 p hp ⟨b,hbf,.inr ⟨?_,.inr (.inr ⟨h7,pb,hpb,fun e=>hne e.symm,hv⟩)⟩⟩
   rw [h3,hat]
   simp
 ·exact eV.ended (s:={ s with stack:=lo }) (t:={ t with stack:=lo' }) hT (by simp [hL.length]) (by decide)
theorem vN (hM:bz m) (hQ:bP m s) (w:Int):eV m (bc m s w) (bc m t w):=by
 have hl:=qX hT hs ht hL
 have hl1:s.stack.length=lo.length + 1:=by rw [hs]; simp
 have hl2:t.stack.length=lo'.length + 1:=by rw [ht]; simp
 have e1:s.stack.take (s.stack.length - 1)=lo:=oa hs
 have e2:t.stack.take (t.stack.length - 1)=lo':=oa ht
 unfold bc
 rw [e1,e2]
 by_cases h0:lo.length=0
 ·have h0':lo'.length=0:=by rw [← hL.length]; exact h0
  have hlo:lo=[]:=List.length_eq_zero_iff.1 h0
  have hlo':lo'=[]:=List.length_eq_zero_iff.1 h0'
  have x1:s.stack[s.stack.length - 2]? = some f:=by rw [hl1,h0,hs,hlo]; rfl
  have x2:t.stack[t.stack.length - 2]? = some g:=by rw [hl2,h0',ht,hlo']; rfl
  rw [x1,x2]
  simp only
  rw [if_pos (by omega),if_pos (by omega)]
  exact eV.ended (s:={ s with stack:=[] }) (t:={ t with stack:=[] }) hT rfl (by decide)
 ·obtain ⟨f1,hf1⟩:∃ f1,lo[lo.length - 1]? = some f1:=⟨_,EK (by omega)⟩
  obtain ⟨g1,hg1,hR⟩:=hL.getL hf1
  have x1:s.stack[s.stack.length - 2]? = some f1:=by rw [hl1,hs,ET (by omega),show lo.length + 1 - 2=lo.length - 1 by omega]; exact hf1
  have x2:t.stack[t.stack.length - 2]? = some g1:=by rw [hl2,← hL.length,ht,ET (by rw [← hL.length]; omega),show lo.length + 1 - 2=lo.length - 1 by omega]; exact hg1
  have y1:=mm hf1
  have y2:lo'=lo'.take (lo.length - 1) ++ [g1]:=by
   have:=hg1
   rw [hL.length] at this ⊢
   exact mm this
  rw [x1,x2]
  simp only
  rw [if_neg (by omega),if_neg (by omega)]
  have hlink:oA m f1 f:=by
   refine hQ.st.2 (lo.length - 1) f1 f ?_ ?_
   ·rw [hs,ET (by omega)]; exact hf1
   ·rw [show lo.length - 1 + 1=lo.length by omega,hs]; simp
  obtain ⟨u,hu,h1,h2,h3,h4,h5,h6⟩:=hR
  obtain ⟨u',b,hu',hb,hlk⟩:=hlink
  rw [hu] at hu'
  cases hu'
  have hug:m.funcs[g1.f.toNat]? = some u:=by rw [← h1]; exact hu
  have hbg:u.blocks[g1.block.toNat]? = some b:=by rw [← h2]; exact hb
  have B1:ba m f1=some b:=by simp [ba,hu,hb]
  have B2:ba m g1=some b:=by simp [ba,hug,hbg]
  have hF1:=hQ.st.1 (lo.length - 1) f1 (by rw [hs,ET (by omega)]; exact hf1)
  obtain ⟨hf0,u2,hu2,hr2,hb0,b2,hb2,ha0,ha1⟩:=hF1
  rw [hu] at hu2
  cases hu2
  rw [hb] at hb2
  cases hb2
  rw [B1,B2]
  simp only
  rw [← h3]
  split
  ·rename_i hat
   have h4':b.fin.kind=4:=by
    rcases hlk with ⟨_,h,_⟩ | ⟨h,_⟩
    ·exact h
    ·exact absurd hat h
   have hd:=ja (lZ hM hu hb).2.2.1
   refine eV.with_ (s:={ s with stack:=lo }) (t:={ t with stack:=lo' }) hT y1 y2 (hL.take (lo.length - 1)) ⟨u,hu,h1,rfl,rfl,h4,by simp [ia,h5],fun p hp hv=>?_⟩
   refine rk h5 hd hp fun hne=>h6 p hp ⟨b,hb,.inr ⟨by rw [hat]; simp,.inl ⟨.inr (.inr ⟨h4',fun e=>hne e.symm⟩),hv⟩⟩⟩
  ·rename_i hat
   obtain ⟨x,hx,h11,_⟩:∃ x,b.ins[f1.at_.toNat]? = some x∧x.op=11∧x.f=f.f:=by
    rcases hlk with ⟨h,_⟩ | ⟨_,h⟩
    ·exact absurd h hat
    ·exact h
   rw [hx]
   simp only
   have hI:=ol hM hu hb hx
   have hd:=ja hI.2.1
   have hw1:IntKind.i64.wrap (f1.at_ + 1)=f1.at_ + 1:=IntWalk.i64_in _ ⟨by omega,by have:=(eB hM hu hb).1; omega⟩
   refine eV.with_ (s:={ s with stack:=lo }) (t:={ t with stack:=lo' }) hT y1 y2 (hL.take (lo.length - 1)) ⟨u,hu,h1,h2,by simp [upF,ia,h3],h4,by simp [upF,ia,h5],fun p hp hv=>?_⟩
   have hv:Lv u.blocks p f1.block.toNat (IntKind.i64.wrap (f1.at_ + 1)).toNat:=hv
   rw [hw1,show (f1.at_ + 1).toNat=f1.at_.toNat + 1 by omega] at hv
   refine rk h5 hd hp fun hne=>h6 p hp ⟨b,hb,.inl ⟨x,hx,?_,hv⟩⟩
   simp [dc,h11]
   exact fun e=>hne e.symm
theorem Ea (hM:bz m) (hA:wL m f g) {u:DFunc} {b:DBlock} {x:DIns} (hu:m.funcs[f.f.toNat]? = some u) (hb:u.blocks[f.block.toNat]? = some b) (hx:b.ins[f.at_.toNat]? = some x) (h0:0≤f.at_):eV m (dX m s f x) (dX m t g x):=by
 have hl:=qX hT hs ht hL
 have hA0:=hA
 obtain ⟨u',hu',h1,h2,h3,h4,h5,h6⟩:=hA
 rw [hu] at hu'
 cases hu'
 have hI:=ol hM hu hb hx
 have hd:=ja hI.2.1
 have hop:=zH hI.1
 have hask:∀ p ∈ fu x,reg f p=reg g p:=fun p hp=>h6 p (ins_nn hI p hp) (.ask hb hx hp)
 have hk:=(EJ.1 hx).1
 have hw1:IntKind.i64.wrap (f.at_ + 1)=f.at_ + 1:=IntWalk.i64_in _ ⟨by omega,by have:=(eB hM hu hb).1; omega⟩
 have hnx:∀ p:Int,0≤p→Lv u.blocks p f.block.toNat (IntKind.i64.wrap (f.at_ + 1)).toNat→dc x≠some p→reg f p=reg g p:=by
  intro p hp hv hne
  rw [hw1,show (f.at_ + 1).toNat=f.at_.toNat + 1 by omega] at hv
  exact h6 p hp (.on hb hx hne hv)
 have hput:∀ w:Int,dc x=some x.dst→wL m (upF (ia f x.dst w)) (upF (ia g x.dst w)):=fun w hst =>
  ⟨u,hu,h1,h2,by simp [upF,ia,h3],h4,by simp [upF,ia,h5],fun p hp hv=>rk h5 hd hp fun hne=>hnx p hp hv (by rw [hst]; exact fun e=>hne (Option.some.inj e).symm)⟩
 have hup:dc x=none→wL m (upF f) (upF g):=fun hst =>
  ⟨u,hu,h1,h2,by simp [upF,h3],h4,h5,fun p hp hv=>hnx p hp hv (by rw [hst]; exact fun e=>nomatch e)⟩
 unfold dX
 by_cases c11:x.op=11
 ·rw [if_pos c11,if_pos c11]
  have hc:=hI.2.2.2.2.2
  rw [c11] at hc
  refine rZ hT hs ht hL hA0 (hc.1 rfl) fun p hp=>hask p ?_
  simp [fu,c11,hp]
 rw [if_neg c11,if_neg c11]
 by_cases c8:x.op≤8
 ·rw [if_pos c8,if_pos c8]
  have hst:dc x=some x.dst:=by unfold dc; rw [if_pos (by omega)]
  have hans:cX g.regs x=cX f.regs x:=by
   unfold cX
   by_cases c1:x.op=1
   ·rw [if_pos c1,if_pos c1]
   rw [if_neg c1,if_neg c1]
   have ha:iq g.regs x.a=iq f.regs x.a:=(uk h5 (hask x.a (by
    unfold fu
    by_cases c2:x.op=2∨x.op=9∨x.op=12
    ·rw [if_pos c2]; simp
    ·rw [if_neg c2,if_pos (by omega)]; simp))).symm
   rw [ha]
   by_cases c3:3≤x.op∧x.op≤8
   ·have hb':iq g.regs x.b=iq f.regs x.b:=(uk h5 (hask x.b (by unfold fu; rw [if_neg (by omega),if_pos (by omega)]; simp))).symm
    rw [hb']
   ·simp only [c3,if_false]
  unfold cW
  rw [hans]
  cases cX f.regs x with
  | none=>exact eV.ended hT hl (by decide)
  | some w =>
   simp only
   rw [← h5]
   by_cases hr:0≤x.dst∧x.dst < f.regs.length
   ·rw [if_pos hr,if_pos hr]
    exact eV.with_ hT hs ht hL (hput w hst)
   ·rw [if_neg hr,if_neg hr]
    exact eV.ended hT hl (by decide)
 rw [if_neg c8,if_neg c8]
 by_cases c9:x.op=9
 ·rw [if_pos c9,if_pos c9]
  have hst:dc x=some x.dst:=by unfold dc; rw [if_pos (by omega)]
  rw [← hask x.a (by simp [fu,c9])]
  split
  ·exact eV.ended hT hl (by decide)
  ·have hc:t.c (reg f x.a).toNat=s.c (reg f x.a).toNat:=by simp [DMach.c,hT.1]
   rw [hc]
   exact eV.with_ hT hs ht hL (hput _ hst)
 rw [if_neg c9,if_neg c9]
 by_cases c10:x.op=10
 ·rw [if_pos c10,if_pos c10]
  have hst:dc x=none:=by unfold dc; rw [if_neg (by omega)]
  rw [← hask x.a (by simp [fu,c10]),← hask x.b (by simp [fu,c10])]
  split
  ·exact eV.ended hT hl (by decide)
  ·exact eV.with_ (s:=dA s _ _) (t:=dA t _ _) ⟨by simp [dA,hT.1],hT.2⟩ hs ht hL (hup hst)
 rw [if_neg c10,if_neg c10]
 by_cases c12:x.op=12
 ·rw [if_pos c12,if_pos c12]
  have hst:dc x=none:=by unfold dc; rw [if_neg (by omega)]
  rw [← hask x.a (by simp [fu,c12])]
  exact eV.with_ (s:={ s with events:=_ }) (t:={ t with events:=_ }) ⟨hT.1,hT.2.1,by simp [hT.2.2.1],hT.2.2.2⟩ hs ht hL (hup hst)
 rw [if_neg c12,if_neg c12]
 have hst:dc x=some x.dst:=by unfold dc; rw [if_pos (by omega)]
 have hin:=hT.2.1
 rw [← hin]
 cases hsi:s.inputs with
 | nil=>exact eV.ended hT hl (by decide)
 | cons a l=>exact eV.with_ (s:={ s with events:=_,inputs:=l }) (t:={ t with events:=_,inputs:=l }) ⟨hT.1,rfl,by simp [hT.2.2.1],hT.2.2.2⟩ hs ht hL (hput a hst)
end
theorem C5 {k:Int} (h:has (cK k) 1=true):1≤k∧k≤6:=by
 by_cases hn:1≤k∧k≤6
 ·exact hn
 ·have:cK k=0:=by
   unfold cK
   repeat rw [if_neg (by omega)]
  rw [this] at h
  exact absurd h (by decide)
theorem Cr {m:DMod} {s t:DMach} (hM:bz m) (hQ:bP m s) (hS:eV m s t):eV m (b9 m s) (b9 m t):=by
 have hT:=hS.1
 unfold b9
 by_cases hd:¬ s.done=0
 ·rw [if_pos hd,if_pos (by rw [← hT.2.2.2.1]; exact hd)]
  exact hS
 rw [if_neg hd,if_neg (by rw [← hT.2.2.2.1]; exact hd)]
 have hd:s.done=0:=Decidable.not_not.1 hd
 obtain ⟨lo,lo',f,g,hs,ht,hL,hA⟩:=hS.2.2 hd
 have hl1:s.stack.length - 1=lo.length:=by rw [hs]; simp
 have hl2:t.stack.length - 1=lo'.length:=by rw [ht]; simp
 have t1:fU s=some f:=by unfold fU; rw [hl1,hs]; simp
 have t2:fU t=some g:=by unfold fU; rw [hl2,ht]; simp
 rw [t1,t2]
 simp only
 have hA0:=hA
 obtain ⟨u,hu,h1,h2,h3,h4,h5,h6⟩:=hA
 obtain ⟨hf0,u2,hu2,hr,hb0,b,hb,ha0,ha1⟩:=hQ.st.1 lo.length f (by rw [hs]; simp)
 rw [hu] at hu2
 cases hu2
 have hug:m.funcs[g.f.toNat]? = some u:=by rw [← h1]; exact hu
 have hbg:u.blocks[g.block.toNat]? = some b:=by rw [← h2]; exact hb
 have B1:ba m f=some b:=by simp [ba,hu,hb]
 have B2:ba m g=some b:=by simp [ba,hug,hbg]
 rw [B1,B2]
 simp only
 rw [← h3]
 by_cases hat:f.at_=b.ins.length
 ·rw [if_pos hat,if_pos hat]
  have hk:f.at_.toNat=b.ins.length:=by omega
  have hE:=lZ hM hu hb
  have hkd:=C5 hE.1
  have hask:∀ p ∈ dq b.fin,reg f p=reg g p:=fun p hp=>h6 p (end_nn hE p hp) (by show Lv u.blocks p f.block.toNat f.at_.toNat; rw [hk]; exact .askE hb hp)
  have hgo:∀ n:Int,(∀ p:Int,Lv u.blocks p n.toNat 0→Lv u.blocks p f.block.toNat b.ins.length)→eV m (cj s { f with block:=n,at_:=0 }) (cj t { g with block:=n,at_:=0 }):=fun n hn =>
   eV.with_ hT hs ht hL ⟨u,hu,h1,rfl,rfl,h4,h5,fun p hp hv=>h6 p hp (by show Lv u.blocks p f.block.toNat f.at_.toNat; rw [hk]; exact hn p hv)⟩
  by_cases k1:b.fin.kind=1
  ·rw [if_pos k1,if_pos k1,hask b.fin.a (by simp [dq,k1])]
   exact vN hT hs ht hL hM hQ _
  rw [if_neg k1,if_neg k1]
  by_cases k4:b.fin.kind=4
  ·rw [if_pos k4,if_pos k4]
   have hc:=hE.2.2.2.1
   rw [k4] at hc
   exact rZ hT hs ht hL hA0 (hc.1 rfl) fun p hp=>hask p (by simp [dq,k4,hp])
  rw [if_neg k4,if_neg k4]
  by_cases k5:b.fin.kind=5
  ·rw [if_pos k5,if_pos k5,hask b.fin.a (by simp [dq,k5])]
   exact sL hT hs ht hL hM hS _
  rw [if_neg k5,if_neg k5]
  by_cases k6:b.fin.kind=6
  ·rw [if_pos k6,if_pos k6,h4]
   exact sL hT hs ht hL hM hS _
  rw [if_neg k6,if_neg k6]
  by_cases k3:b.fin.kind=3
  ·rw [hask b.fin.a (by simp [dq,k3])]
   split
   ·exact hgo _ fun p hv=>.els hb k3 hv
   ·exact hgo _ fun p hv=>.to hb (.inr (.inl k3)) hv
  ·rw [if_neg (fun h=>k3 h.1),if_neg (fun h=>k3 h.1)]
   exact hgo _ fun p hv=>.to hb (.inl (by omega)) hv
 ·rw [if_neg hat,if_neg hat]
  have hx:b.ins[f.at_.toNat]? = some (b.ins[f.at_.toNat]'(by omega)):=EK _
  rw [hx]
  exact Ea hT hs ht hL hM hA0 hu hb hx ha0
end Go.Ab.A10
end

import Derived.Test.YthmcbcepgchhcaaEU7F59
import Derived.Test.YthmcbcepgchhcaaEU7F41
import Derived.Test.YthmcbcepgchhcaaEZ
import Derived.Below
import Derived.Orders
import Derived.Laws.Cells
import Derived.Laws.OwnMore
import Derived.Laws.CopyOwn
import Derived.Maps.AppendAt
import Derived.Lib.FrozenHead
section
set_option linter.unusedVariables false
set_option linter.unusedSimpArgs false
set_option maxRecDepth 10000
namespace Go.Ab
theorem RMod.frz' {q:Option Bool} {y:TV} {m:DMod} (h:RMod q [y] m):RMod (some false) [Go.Ab.frz y] m:=by
 obtain ⟨y',h,h'⟩:=h
 cases h
 exact ⟨_,rfl,h'.frz (S:=RFunc (some false)) fun _ _ h=>h.frz⟩
end Go.Ab
namespace Go.Ab.U7
open Go Go.Ab Go.Proofs
theorem pThrow {m:DMod} {s:DMach} {f:DFrame} {u:DFunc} {b:DBlock} {y g i v:TV} (hm:RMod (some false) [y] m) (hM:modP m) (hg:RStack g s.stack) (hi:RWords (some true) i s.inputs) (hv:RInts (some true) v s.events) (ho:s.ok) (hQ:machQ m s)
  (ht:topT s=some f) (hf0:0≤f.f) (hu:m.funcs[f.f.toNat]? = some u) (hb0:0≤f.block) (hb:u.blocks[f.block.toNat]? = some b) (ha0:0≤f.at_) (hat:f.at_=b.ins.length) (hE:endP m.funcs f.regs.length u.blocks b.fin) (h5:b.fin.kind=5) :
  ∃ r,Goes prog 36 (f36_0 (s.stack.length - 1) (W (s.c 0)) (W (s.c 1)) (W (s.c 2)) (W (s.c 3)) (W (s.c 4)) (W (s.c 5)) (W (s.c 6)) (W (s.c 7)) (W (s.c 8)) (W (s.c 9)) (W (s.c 10)) (W (s.c 11)) (W (s.c 12)) (W (s.c 13)) (W (s.c 14)) (W (s.c 15)) (I s.done) (W s.value) y g TV.hole TV.hole TV.hole TV.hole TV.hole TV.hole TV.hole TV.hole TV.hole TV.hole TV.hole TV.hole TV.hole TV.hole TV.hole TV.hole i v TV.hole TV.hole y) r∧MachOut (thrownT m s (reg f b.fin.a)) y r:=by
 have h0:0 < s.stack.length:=by
  have:=(List.getElem?_eq_some_iff.1 ht).1
  omega
 have h32:=hQ.2.1
 have hyr:RL (some false) 3 (RFunc (some false)) y m.funcs:=by
  obtain ⟨y',h,h'⟩:=hm
  cases h
  exact h'
 obtain ⟨gr,he,hget,hgr,hof⟩:=hg.row ht
 have hfit:=fit_row (a:=f.f) (b:=f.block) (c:=f.at_) (d:=f.fly) hgr.isSl
 have hfs:=fit_sl (a:=f.f) (b:=f.block) (c:=f.at_) (d:=f.fly) hgr.isSl
 obtain ⟨eu,heu,hru⟩:=hyr.idxI (k:=.i64) hf0 hu
 obtain ⟨bs,rfl,hbs,_⟩:=hru
 obtain ⟨eb,heb,hrb⟩:=hbs.idxI (k:=.i64) hb0 hb
 obtain ⟨c,is,ga,rfl,hc,hdi,his,hga,hfo⟩:=hrb
 have hpa:=hE.2.1
 rw [h5] at hpa
 have hA:within b.fin.a f.regs.length:=hpa.1 rfl
 obtain ⟨a,ha,hal⟩:=within_at hA
 obtain ⟨pe,hpe,rfl,haw⟩:=hgr.pel ha
 have hra:reg f b.fin.a=a:=getD_at ha
 have hla:=blt_and hgr.slSize hal
 rw [hra]
 have hlen:=RL.len (t:=47) hg
 have hcw:=sz_win hg.slSize (show s.stack.length - 1≤s.stack.length by omega)
 obtain ⟨gw,hgw,hrw⟩:=hg.win (n:=s.stack.length - 1) (by omega)
 have htl:(s.stack.take (s.stack.length - 1)).length=s.stack.length - 1:=by simp
 have hlw:=RL.len (t:=47) hrw
 rw [htl] at hlw
 obtain ⟨r,hr,hout⟩:=pCaught4 (y:=y) (m:=m) hyr hM hg hi hv ho haw hQ h0 (s.stack.length - 1) 0 (by omega) (fun j hj=>by omega)
 refine ⟨r,?_,hout⟩
 unfold f36_0
 have hblk:=rBlk (c:=I f.at_) (z:=TV.lf (Go.Ab.frz gr)) (d:=W f.fly) heu rfl rfl heb
 refine Goes.tvs he (Goes.chk hfit (Goes.tv hget (Goes.call hblk (Goes.chk rfl (Goes.tvs he (Goes.chk rfl (Goes.tv (RL.len his) (Goes.tv rfl (Goes.ite rfl (fun h=>?_) fun _=>?_)))))))))
 ·simp [nth] at h; omega
 refine Goes.tv rfl (Goes.ite rfl (fun h=>?_) fun _=>?_)
 ·simp [nth] at h; omega
 refine Goes.tv rfl (Goes.ite rfl (fun h=>?_) fun _=>?_)
 ·simp [nth] at h; omega
 refine Goes.tv rfl (Goes.ite rfl (fun h=>?_) fun _=>?_)
 ·simp [nth] at h; omega
 refine Goes.tv rfl (Goes.ite rfl (fun h=>?_) fun _=>?_)
 ·simp [nth] at h; omega
 refine Goes.tv rfl (Goes.ite rfl (fun _=>?_) fun h=>?_)
 rotate_left
 ·simp [nth] at h; omega
 refine Goes.tvs he (Goes.chk hfs (Goes.tv hget (Goes.nat hgr.slLen (Goes.nat (asNat_in hA.1 hfo.2.1) (Goes.chk hla (Goes.tv hget (Goes.tvs hpe (Goes.chk rfl ?_))))))))
 exact Goes.tv hlen (Goes.tv (dec h0 (by omega)) (Goes.nat hg.slLen (Goes.nat (asNat_of (by omega)) (Goes.chk hcw (Goes.tv hgw (Goes.tv hlw (f36_4_J hr)))))))
theorem pResume {m:DMod} {s:DMach} {f:DFrame} {u:DFunc} {b:DBlock} {y g i v:TV} (hm:RMod (some false) [y] m) (hM:modP m) (hg:RStack g s.stack) (hi:RWords (some true) i s.inputs) (hv:RInts (some true) v s.events) (ho:s.ok) (hQ:machQ m s)
  (ht:topT s=some f) (hf0:0≤f.f) (hu:m.funcs[f.f.toNat]? = some u) (hb0:0≤f.block) (hb:u.blocks[f.block.toNat]? = some b) (ha0:0≤f.at_) (hat:f.at_=b.ins.length) (h6:b.fin.kind=6) :
  ∃ r,Goes prog 36 (f36_0 (s.stack.length - 1) (W (s.c 0)) (W (s.c 1)) (W (s.c 2)) (W (s.c 3)) (W (s.c 4)) (W (s.c 5)) (W (s.c 6)) (W (s.c 7)) (W (s.c 8)) (W (s.c 9)) (W (s.c 10)) (W (s.c 11)) (W (s.c 12)) (W (s.c 13)) (W (s.c 14)) (W (s.c 15)) (I s.done) (W s.value) y g TV.hole TV.hole TV.hole TV.hole TV.hole TV.hole TV.hole TV.hole TV.hole TV.hole TV.hole TV.hole TV.hole TV.hole TV.hole TV.hole i v TV.hole TV.hole y) r∧MachOut (thrownT m s f.fly) y r:=by
 have h0:0 < s.stack.length:=by
  have:=(List.getElem?_eq_some_iff.1 ht).1
  omega
 have h32:=hQ.2.1
 have hyr:RL (some false) 3 (RFunc (some false)) y m.funcs:=by
  obtain ⟨y',h,h'⟩:=hm
  cases h
  exact h'
 obtain ⟨gr,he,hget,hgr,hof⟩:=hg.row ht
 have hfit:=fit_row (a:=f.f) (b:=f.block) (c:=f.at_) (d:=f.fly) hgr.isSl
 obtain ⟨eu,heu,hru⟩:=hyr.idxI (k:=.i64) hf0 hu
 obtain ⟨bs,rfl,hbs,_⟩:=hru
 obtain ⟨eb,heb,hrb⟩:=hbs.idxI (k:=.i64) hb0 hb
 obtain ⟨c,is,ga,rfl,hc,hdi,his,hga,hfo⟩:=hrb
 have hlen:=RL.len (t:=47) hg
 have hcw:=sz_win hg.slSize (show s.stack.length - 1≤s.stack.length by omega)
 obtain ⟨gw,hgw,hrw⟩:=hg.win (n:=s.stack.length - 1) (by omega)
 have htl:(s.stack.take (s.stack.length - 1)).length=s.stack.length - 1:=by simp
 have hlw:=RL.len (t:=47) hrw
 rw [htl] at hlw
 obtain ⟨r,hr,hout⟩:=pCaught5 (y:=y) (m:=m) hyr hM hg hi hv ho hof.2.2.2 hQ h0 (s.stack.length - 1) 0 (by omega) (fun j hj=>by omega)
 refine ⟨r,?_,hout⟩
 unfold f36_0
 have hblk:=rBlk (c:=I f.at_) (z:=TV.lf (Go.Ab.frz gr)) (d:=W f.fly) heu rfl rfl heb
 refine Goes.tvs he (Goes.chk hfit (Goes.tv hget (Goes.call hblk (Goes.chk rfl (Goes.tvs he (Goes.chk rfl (Goes.tv (RL.len his) (Goes.tv rfl (Goes.ite rfl (fun h=>?_) fun _=>?_)))))))))
 ·simp [nth] at h; omega
 refine Goes.tv rfl (Goes.ite rfl (fun h=>?_) fun _=>?_)
 ·simp [nth] at h; omega
 refine Goes.tv rfl (Goes.ite rfl (fun h=>?_) fun _=>?_)
 ·simp [nth] at h; omega
 refine Goes.tv rfl (Goes.ite rfl (fun h=>?_) fun _=>?_)
 ·simp [nth] at h; omega
 refine Goes.tv rfl (Goes.ite rfl (fun h=>?_) fun _=>?_)
 ·simp [nth] at h; omega
 refine Goes.tv rfl (Goes.ite rfl (fun h=>?_) fun _=>?_)
 ·simp [nth] at h; omega
 refine Goes.tv rfl (Goes.ite rfl (fun _=>?_) fun h=>?_)
 rotate_left
 ·simp [nth] at h; omega
 refine Goes.tvs he (Goes.chk rfl ?_)
 exact Goes.tv hlen (Goes.tv (dec h0 (by omega)) (Goes.nat hg.slLen (Goes.nat (asNat_of (by omega)) (Goes.chk hcw (Goes.tv hgw (Goes.tv hlw (f36_5_J hr)))))))
theorem rMachStep {q : Option Bool} {m : DMod} {s : DMach} {y g i v : TV} (hm : RMod q [y] m) (hM : modP m) (hg : RStack g s.stack) (hi : RWords (some true) i s.inputs) (hv : RInts (some true) v s.events) (ho : s.ok) (hQ : machQ m s) (hd : s.done = 0) (hel : s.events.length + 1 ≤ 4294967296) :
    ∃ r,Runs prog 36 [.tup (machCells s g i v ++ [y])] r∧MachOut (stepT m s) (Go.Ab.frz y) r:=by
  have hys:y.isSl=true:=by
    obtain ⟨y',h,h'⟩:=hm
    cases h
    exact h'.isSl
  have hm:=hm.frz'
  generalize hz:Go.Ab.frz y=z at hm
  have h32:=hQ.2.1
  have h0:=hQ.2.2.1 hd
  have hlen:=RL.len (t:=47) hg
  obtain ⟨f,ht⟩:∃ f,s.stack[s.stack.length - 1]? = some f:=⟨_,List.getElem?_eq_getElem (by omega)⟩
  have ht':topT s=some f:=ht
  have hF:=hQ.2.2.2.1 _ f ht
  have hrl:=frame_len hM hF
  obtain ⟨hf0,u,hu,hLr,hb0,b,hb,ha0,ha1⟩:=hF
  have hbo:blockOf m f=some b:=by simp [blockOf,hu,hb]
  have main:∃ r,Goes prog 36 (f36_0 (s.stack.length - 1) (W (s.c 0)) (W (s.c 1)) (W (s.c 2)) (W (s.c 3)) (W (s.c 4)) (W (s.c 5)) (W (s.c 6)) (W (s.c 7)) (W (s.c 8)) (W (s.c 9)) (W (s.c 10)) (W (s.c 11)) (W (s.c 12)) (W (s.c 13)) (W (s.c 14)) (W (s.c 15)) (I s.done) (W s.value) z g TV.hole TV.hole TV.hole TV.hole TV.hole TV.hole TV.hole TV.hole TV.hole TV.hole TV.hole TV.hole TV.hole TV.hole TV.hole TV.hole i v TV.hole TV.hole z) r∧MachOut (stepT m s) z r:=by
    have hT : stepT m s = if f.at_ = b.ins.length then
        (if b.fin.kind = 1 then answeredT m s (reg f b.fin.a) else
         if b.fin.kind=4 then calledT m s b.fin.f b.fin.args else
         if b.fin.kind=5 then thrownT m s (reg f b.fin.a) else
         if b.fin.kind=6 then thrownT m s f.fly else
         if b.fin.kind=3∧reg f b.fin.a=0 then withT s { f with block:=b.fin.els,at_:=0 } else withT s { f with block:=b.fin.to,at_:=0 })
      else match b.ins[f.at_.toNat]? with
        | none=>s
        | some x=>insT m s f x:=by
      unfold stepT
      rw [if_neg (by simp [hd]),ht']
      simp only
      rw [hbo]
      rfl
    rw [hT]
    by_cases hat:f.at_=(b.ins.length:Int)
    · rw [if_pos hat]
      have hE:=mod_end hM hu hb
      rw [← hLr] at hE
      have hk:=usesE_of hE.1
      by_cases h1:b.fin.kind=1
      · rw [if_pos h1]
        exact pAnswer hm hM hg hi hv ho hQ ht' hf0 hu hb0 hb ha0 hat hE h1
      rw [if_neg h1]
      by_cases h4:b.fin.kind=4
      · rw [if_pos h4]
        exact pInvoke hm hM hg hi hv ho ht' hf0 hu hb0 hb ha0 hat hE h4
      rw [if_neg h4]
      by_cases h5:b.fin.kind=5
      · rw [if_pos h5]
        exact pThrow hm hM hg hi hv ho hQ ht' hf0 hu hb0 hb ha0 hat hE h5
      rw [if_neg h5]
      by_cases h6:b.fin.kind=6
      · rw [if_pos h6]
        exact pResume hm hM hg hi hv ho hQ ht' hf0 hu hb0 hb ha0 hat h6
      rw [if_neg h6]
      exact pGo hm hM hg hi hv ho ht' hf0 hu hb0 hb ha0 hat hrl hE (by omega)
    · rw [if_neg hat]
      obtain ⟨x,hx⟩:∃ x,b.ins[f.at_.toNat]? = some x:=⟨_,List.getElem?_eq_getElem (by omega)⟩
      have hI:=mod_ins hM hu hb hx
      rw [← hLr] at hI
      rw [hx]
      simp only
      by_cases h11:x.op=11
      · exact pCall hm hM hg hi hv ho ht' hf0 hu hb0 hb ha0 hx hI h11
      by_cases h8:x.op≤8
      · exact pReckon hm hM hg hi hv ho ht' hf0 hu hb0 hb ha0 hx hI h8 hrl
      by_cases h9:x.op=9
      · exact pLoad hm hM hg hi hv ho ht' hf0 hu hb0 hb ha0 hx hI h9
      by_cases h10:x.op=10
      · exact pStore hm hM hg hi hv ho ht' hf0 hu hb0 hb ha0 hx hI h10
      by_cases h12:x.op=12
      · exact pOut hm hM hg hi hv ho ht' hf0 hu hb0 hb ha0 hx hI h12 hel
      have h13:x.op=13:=by
        have:=uses_of hI.1
        omega
      exact pIn hm hM hg hi hv ho ht' hf0 hu hb0 hb ha0 hx hI h13 hel
  obtain ⟨r,hr,hout⟩:=main
  refine ⟨r,?_,hout⟩
  refine Runs.of (f36_MR _ _ _ _ _ _ _ _ _ _ _ _ _ _ _ _ _ _ _ _ _ _) ?_
  unfold f36_M
  rw [hz]
  refine Goes.chk ?_ (Goes.tv hlen (Goes.tv (dec h0 (by omega)) (Goes.nat hg.slLen (Goes.nat (asNat_of (by omega)) (Goes.chk (sz_and hg.slSize (by omega)) (f36_0_J hr))))))
  simp [hg.isSl,hi.isSl,hv.isSl,hys,TV.isSc,scV]
end Go.Ab.U7
end
section
set_option linter.unusedVariables false
set_option linter.unusedSimpArgs false
set_option maxRecDepth 10000
namespace Go.Ab
def noMach:DMach:=⟨[],List.replicate 16 0,[],[],0,0⟩
theorem noMach_c (k:Nat):noMach.c k=0:=by
 simp only [DMach.c,noMach,List.getD,List.getElem?_replicate]
 split <;> rfl
def noCells:List TV:=[.lit nilV,W 0,W 0,W 0,W 0,W 0,W 0,W 0,W 0,W 0,W 0,W 0,W 0,W 0,W 0,W 0,W 0,.lit nilV,.lit nilV,I 0,W 0]
theorem noMach_own:RMachO noCells noMach :=
 ⟨.lit nilV,.lit nilV,.lit nilV,by simp only [noCells,machCells,noMach_c]; rfl,RL.nil,RL.nil,RL.nil,by simp [noMach],fun k=>by rw [noMach_c]; exact inW0,in0,inW0⟩
theorem RMachO.fit {e:List TV} {s:DMach} (h:RMachO e s):(Bool.and ((TV.agg e).isAgg 21) (fitsAt zMach ((TV.agg e).cellsL true) 0))=true:=by
 obtain ⟨g,i,v,rfl,hg,hi,hv,ho⟩:=h
 exact fit_mach hg.isSl hi.isSl hv.isSl
end Go.Ab
namespace Go.Ab.U7
open Go Go.Ab Go.Proofs
theorem machO_own {e:List TV} {s:DMach} (h:RMachO e s):isOwn (.agg e)=true:=by
 obtain ⟨g,i,v,rfl,hg,hi,hv,ho⟩:=h
 exact own_mach (hg.own fun _ _ h=>h.own) (hi.own fun _ _ h=>h.own) (hv.own fun _ _ h=>h.own)
theorem machO_own2 {e:List TV} {s:DMach} {n:Int} (h:RMachO e s):isOwnL [.agg e,I n]=true:=by
 have:=machO_own h
 simp only [isOwnL,this,Bool.true_and]
 rfl
open Classical in
theorem rMachNew {q q':Option Bool} {e:List TV} {x:TV} {m:DMod} {inputs:List Int} (hm:RMod q e m) (hx:RWords q' x inputs) (hl:inputs.length≤4294967296) :
  ∃ e2,Runs prog 35 [.agg e,x] (.tup [.agg e2,I (if modP m then 0 else 1)])∧RMachO e2 (if modP m then newM m inputs else noMach):=by
 obtain ⟨e1,hr1,h1⟩:=rNew (n:=0) (args:=[]) hm in0 (RL.nil:RWords none (.lit nilV) [])
 obtain ⟨i2,hri,hi2⟩:=r39 hx hl
 obtain ⟨y,rfl,hy⟩:=hm
 by_cases hM:modP m
 ·rw [if_pos hM,if_pos hM]
  have hD:newD m 0 []=newT m 0 []:=by
   unfold newD
   rw [tt_true hM]
   rfl
  obtain ⟨_,⟨u,hu,hp⟩,_⟩:=id hM
  obtain ⟨hf,hN⟩:=new_frame (n:=0) (args:=[]) hM (Int.le_refl 0) hu (by simp [hp])
  have hE:errOf (newD m 0 [])=0:=by
   rw [hD]
   cases h:newT m 0 [] with
   | none=>simp [newT,hu,hp] at h
   | some f=>rfl
  rw [hE] at hr1
  rw [hD] at h1
  have h1':=h1
  generalize hF:(newT m 0 []).getD noFrame=f2 at h1 h1'
  obtain ⟨yn,rfl,hyn,hof⟩:=h1
  have hout:RMachO (machCells (newM m inputs) (.sl true 5 [[I f2.f,I f2.block,I f2.at_,yn,W f2.fly]]) i2 (.lit nilV)) (newM m inputs):=by
   refine ⟨_,_,_,rfl,?_,hi2,RL.nil,by simp [newM],fun k=>by rw [newM_c]; exact inW0,in0,inW0⟩
   show RL (some true) 5 (RFrame (some true)) _ [(newT m 0 []).getD noFrame]
   rw [hF]
   exact .sl (by simp) (.cons h1' .nil) (by simp)
  refine ⟨_,?_,hout⟩
  have ho2:=machO_own2 (n:=0) hout
  simp only [machCells,newM_c] at ho2 ⊢
  refine Runs.of (f35_MR _ _) ?_
  unfold f35_M
  refine Goes.chk rfl (Goes.call hr1 (Goes.chk rfl (Goes.chk (fit_frame hyn.isSl) (Goes.chk rfl (Goes.tv rfl (Goes.ite rfl (fun h=>nomatch h) fun _=>Goes.call hri (Goes.chk ?_ (Goes.chk ho2 Goes.ret))))))))
  simp [fitsAt,zSl,isSlV,hi2.isSl]
 ·rw [if_neg hM,if_neg hM]
  have hD:newD m 0 []=none:=by
   unfold newD
   rw [tt_false hM]
   rfl
  rw [hD] at hr1 h1
  obtain ⟨yn,rfl,hyn,hof⟩:=h1
  refine ⟨noCells,?_,noMach_own⟩
  refine Runs.of (f35_MR _ _) ?_
  unfold f35_M
  exact Goes.chk rfl (Goes.call hr1 (Goes.chk rfl (Goes.chk (fit_frame hyn.isSl) (Goes.chk rfl (Goes.tv rfl (Goes.ite rfl (fun _=>Goes.chk rfl Goes.ret) fun h=>nomatch h))))))
theorem rMachLoop {m:DMod} (hM:modP m):∀ (n:Nat) (q:Option Bool) (s:DMach) (y g i v:TV),RMod q [y] m→RStack g s.stack→RWords (some true) i s.inputs→RInts (some true) v s.events→s.ok→machQ m s→s.events.length + n≤4294967296 →
  ∃ e2,Goes prog 13 (f13_0 (I (n:Int)) (W (s.c 0)) (W (s.c 1)) (W (s.c 2)) (W (s.c 3)) (W (s.c 4)) (W (s.c 5)) (W (s.c 6)) (W (s.c 7)) (W (s.c 8)) (W (s.c 9)) (W (s.c 10)) (W (s.c 11)) (W (s.c 12)) (W (s.c 13)) (W (s.c 14)) (W (s.c 15)) (I s.done) (W s.value) g TV.hole TV.hole TV.hole TV.hole TV.hole TV.hole TV.hole TV.hole TV.hole TV.hole TV.hole TV.hole TV.hole TV.hole TV.hole TV.hole i v TV.hole TV.hole TV.hole y) (.tup [.agg e2,I 0])∧RMachO e2 (runT m s n):=by
 intro n
 have stop:∀ (s:DMach) (g i v y:TV),RStack g s.stack→RWords (some true) i s.inputs→RInts (some true) v s.events→s.ok→Goes prog 13 (f13_1 (W (s.c 0)) (W (s.c 1)) (W (s.c 2)) (W (s.c 3)) (W (s.c 4)) (W (s.c 5)) (W (s.c 6)) (W (s.c 7)) (W (s.c 8)) (W (s.c 9)) (W (s.c 10)) (W (s.c 11)) (W (s.c 12)) (W (s.c 13)) (W (s.c 14)) (W (s.c 15)) (I s.done) (W s.value) g TV.hole TV.hole TV.hole TV.hole TV.hole TV.hole TV.hole TV.hole TV.hole TV.hole TV.hole TV.hole TV.hole TV.hole TV.hole TV.hole i v TV.hole TV.hole TV.hole y) (.tup [.agg (machCells s g i v),I 0]):=by
  intro s g i v y hg hi hv ho
  unfold f13_1
  exact Goes.chk (machO_own2 ⟨g,i,v,rfl,hg,hi,hv,ho⟩) Goes.ret
 induction n with
 | zero =>
  intro q s y g i v hm hg hi hv ho hQ hel
  refine ⟨_,?_,⟨g,i,v,rfl,hg,hi,hv,ho⟩⟩
  unfold f13_0
  exact Goes.tv rfl (Goes.ite rfl (fun h=>nomatch h) fun _=>f13_1_J (stop s g i v y hg hi hv ho))
 | succ n ih =>
  intro q s y g i v hm hg hi hv ho hQ hel
  by_cases hd:s.done=0
  rotate_left
  ·have hT:runT m s (n + 1)=s:=by simp [runT,hd]
   rw [hT]
   refine ⟨_,?_,⟨g,i,v,rfl,hg,hi,hv,ho⟩⟩
   unfold f13_0
   refine Goes.tv rfl (Goes.ite rfl (fun _=>?_) fun h=>?_)
   ·refine Goes.tv rfl (Goes.ite rfl (fun h=>?_) fun _=>f13_1_J (stop s g i v y hg hi hv ho))
    simp at h; exact absurd h hd
   ·simp at h <;> omega
  have hT:runT m s (n + 1)=runT m (stepT m s) n:=by simp [runT,hd]
  rw [hT]
  have hys:y.isSl=true:=by
   obtain ⟨y',h,h'⟩:=id hm
   cases h
   exact h'.isSl
  obtain ⟨r,hr,hout⟩:=rMachStep hm hM hg hi hv ho hQ hd (by omega)
  have hQ2:=step_keeps hM hQ
  have hev:(stepT m s).events.length≤s.events.length + 1:=by
   rcases step_events (m:=m) (s:=s) with h | ⟨a,h⟩ <;> rw [h]
   ·omega
   ·simp
  generalize stepT m s=s2 at hout hQ2 hev
  obtain ⟨g2,i2,v2,rfl,hg2,hi2,hv2,ho2⟩:=hout
  have hm2:=hm.frz'
  have hys2:(Go.Ab.frz y).isSl=true:=by
   obtain ⟨y',h,h'⟩:=id hm2
   cases h
   exact h'.isSl
  obtain ⟨e2,hgo,h2⟩:=ih (some false) s2 (Go.Ab.frz y) g2 i2 v2 hm2 hg2 hi2 hv2 ho2 hQ2 (by omega)
  refine ⟨e2,?_,h2⟩
  unfold f13_0
  refine Goes.tv rfl (Goes.ite rfl (fun _=>?_) fun h=>?_)
  rotate_left
  ·simp at h <;> omega
  refine Goes.tv rfl (Goes.ite rfl (fun _=>?_) fun h=>?_)
  rotate_left
  ·simp at h; exact absurd hd h
  have hdec:pbin (.int .i64) .sub (I ((n + 1:Nat):Int)) (I (1:Int))=some (I (n:Int)):=by
   have:=dec (n:=n + 1) (by omega) (by omega)
   simpa using this
  refine Goes.chk ?_ (Goes.call hr (Goes.chk ?_ (Goes.chk rfl (Goes.tv hdec (f13_0_J hgo)))))
  ·simp [hg.isSl,hi.isSl,hv.isSl,hys,TV.isSc,scV]
  ·simp [TV.isTup,TV.comp,nth,machCells,hg2.isSl,hi2.isSl,hv2.isSl,hys2,TV.isSc,scV]
open Classical in
theorem rMachRun {q q':Option Bool} {e:List TV} {x:TV} {m:DMod} {inputs:List Int} {fuel:Int} (hm:RMod q e m) (hx:RWords q' x inputs) (hl:inputs.length≤4294967296) :
  ∃ e2,Runs prog 13 [.agg e,x,I fuel] (.tup [.agg e2,I (if modP m∧fuel≤1048576 then 0 else 1)])∧RMachO e2 (if modP m∧fuel≤1048576 then runT m (newM m inputs) fuel.toNat else noMach):=by
 obtain ⟨e1,hr1,h1⟩:=rMachNew hm hx hl
 have hm':=hm
 obtain ⟨y,rfl,hy⟩:=hm
 by_cases hM:modP m
 rotate_left
 ·rw [if_neg hM] at hr1 h1
  rw [if_neg (fun h=>hM h.1),if_neg (fun h=>hM h.1)]
  refine ⟨noCells,?_,noMach_own⟩
  refine Runs.of (f13_MR _ _ _) ?_
  unfold f13_M
  exact Goes.chk rfl (Goes.call hr1 (Goes.chk rfl (Goes.chk h1.fit (Goes.chk rfl (Goes.tv rfl (Goes.ite rfl (fun _=>Goes.chk rfl Goes.ret) fun h=>nomatch h))))))
 rw [if_pos hM] at hr1 h1
 by_cases hf:fuel≤1048576
 rotate_left
 ·rw [if_neg (fun h=>hf h.2),if_neg (fun h=>hf h.2)]
  refine ⟨noCells,?_,noMach_own⟩
  refine Runs.of (f13_MR _ _ _) ?_
  unfold f13_M
  refine Goes.chk rfl (Goes.call hr1 (Goes.chk rfl (Goes.chk h1.fit (Goes.chk rfl (Goes.tv rfl (Goes.ite rfl (fun h=>nomatch h) fun _=>Goes.tv rfl (Goes.ite rfl (fun _=>Goes.chk rfl Goes.ret) fun h=>?_)))))))
  simp at h; omega
 rw [if_pos ⟨hM,hf⟩,if_pos ⟨hM,hf⟩]
 have hQ:=newM_keeps (inputs:=inputs) hM
 have hev:(newM m inputs).events.length=0:=by simp [newM]
 have hfit:=h1.fit
 have hs0:∀ s:DMach,fuel≤0→runT m s fuel.toNat=s:=by
  intro s h
  have:fuel.toNat=0:=by omega
  rw [this]
  rfl
 generalize newM m inputs=s at h1 hQ hev
 obtain ⟨g,i,v,rfl,hg,hi,hv,ho⟩:=h1
 have hgo:∃ e2,Goes prog 13 (f13_0 (I fuel) (W (s.c 0)) (W (s.c 1)) (W (s.c 2)) (W (s.c 3)) (W (s.c 4)) (W (s.c 5)) (W (s.c 6)) (W (s.c 7)) (W (s.c 8)) (W (s.c 9)) (W (s.c 10)) (W (s.c 11)) (W (s.c 12)) (W (s.c 13)) (W (s.c 14)) (W (s.c 15)) (I s.done) (W s.value) g TV.hole TV.hole TV.hole TV.hole TV.hole TV.hole TV.hole TV.hole TV.hole TV.hole TV.hole TV.hole TV.hole TV.hole TV.hole TV.hole i v TV.hole TV.hole TV.hole y) (.tup [.agg e2,I 0])∧RMachO e2 (runT m s fuel.toNat):=by
  by_cases h0:0≤fuel
  ·have:=rMachLoop hM fuel.toNat q s y g i v hm' hg hi hv ho hQ (by omega)
   rw [Int.toNat_of_nonneg h0] at this
   exact this
  ·refine ⟨_,?_,by rw [hs0 s (by omega)]; exact ⟨g,i,v,rfl,hg,hi,hv,ho⟩⟩
   unfold f13_0
   refine Goes.tv rfl (Goes.ite rfl (fun h=>?_) fun _=>f13_1_J ?_)
   ·simp at h; omega
   ·unfold f13_1
    exact Goes.chk (machO_own2 ⟨g,i,v,rfl,hg,hi,hv,ho⟩) Goes.ret
 obtain ⟨e2,hgo,h2⟩:=hgo
 refine ⟨e2,?_,h2⟩
 refine Runs.of (f13_MR _ _ _) ?_
 unfold f13_M
 refine Goes.chk rfl (Goes.call hr1 (Goes.chk rfl (Goes.chk hfit (Goes.chk rfl (Goes.tv rfl (Goes.ite rfl (fun h=>nomatch h) fun _=>Goes.tv rfl (Goes.ite rfl (fun h=>?_) fun _=>Goes.chk hy.isSl (f13_0_J hgo))))))))
 simp at h; omega
end Go.Ab.U7
end
section
set_option linter.unusedVariables false
set_option linter.unusedSimpArgs false
set_option maxRecDepth 10000
namespace Go.Ab
section
variable {m:DMod} {s:DMach}
theorem stepT_done (h:¬ s.done=0):stepT m s=s:=by simp [stepT,h]
theorem runT_done (h:¬ s.done=0):∀ n,runT m s n=s
 | 0=>rfl
 | n + 1=>by simp [runT,h]
theorem runT_add:∀ (a b:Nat) (s:DMach),runT m s (a + b)=runT m (runT m s a) b
 | 0,b,s=>by simp [runT]
 | a + 1, b, s => by
  rw [show a + 1 + b=(a + b) + 1 by omega]
  by_cases h:s.done=0
  ·simp only [runT,h,if_true]
   exact runT_add a b _
  ·rw [runT_done h,runT_done h,runT_done h]
theorem runT_one:runT m s 1=stepT m s:=by
 by_cases h:s.done=0
 ·simp [runT,h]
 ·rw [runT_done h,stepT_done h]
theorem runT_succ {n:Nat}:runT m s (n + 1)=stepT m (runT m s n):=by rw [runT_add,runT_one]
end
end Go.Ab
end
section
set_option linter.unusedVariables false
set_option linter.unusedSimpArgs false
set_option maxRecDepth 10000
namespace Go.Ab
theorem byte_rem {p k:Int} (hp:0≤p∧p≤255) (hk:0 < k):∃ N:Nat,p.tmod k=(N:Int)∧(N:Int) < k∧(N:Int)≤p:=by
 rw [Int.tmod_eq_emod_of_nonneg hp.1]
 have h1:=Int.emod_nonneg p (show k≠0 by omega)
 have h2:=Int.emod_lt_of_pos p hk
 have h3:p % k≤p:=Int.emod_le hp.1
 exact ⟨(p % k).toNat,by omega,by omega,by omega⟩
where
 Int.emod_le {p k:Int} (hp:0≤p):p % k≤p:=by
  have:=Int.emod_add_mul_ediv p k
  rcases Int.lt_trichotomy k 0 with h | h | h
  ·have h1:=Int.emod_neg p k
   have h2:=Int.mul_ediv_self_le (x:=p) (k:=-k) (by omega)
   have h3:p % -k=p - -k * (p / -k):=by have:=Int.emod_add_mul_ediv p (-k); omega
   have h4:0≤p / -k:=Int.ediv_nonneg hp (by omega)
   have h5:0≤-k * (p / -k):=Int.mul_nonneg (by omega) h4
   rw [← Int.emod_neg]
   omega
  ·subst h; simp
  ·have h4:0≤p / k:=Int.ediv_nonneg hp (by omega)
   have h5:0≤k * (p / k):=Int.mul_nonneg (by omega) h4
   omega
theorem pconv_bi {a:Int} (h0:0≤a) (h:a≤255):pconv (.int .i64) (.lit (.int .u8 a))=some (I a):=by
 simp only [pconv]
 rw [IntKind.wrap_i64]
 congr 3
 omega
end Go.Ab
namespace Go.Ab.U7
open Go Go.Ab Go.Proofs
open Classical in
theorem run_own {q q':Option Bool} {e:List TV} {x:TV} {m:DMod} {l:List Int} (hm:RMod q e m) (hM:modP m) (hx:RWords q' x l) (hl:l.length≤4294967296) {n:Nat} (hn:n≤1048576):∃ e2,Runs prog 13 [.agg e,x,I (n:Int)] (.tup [.agg e2,I 0])∧RMachO e2 (runT m (newM m l) n):=by
 obtain ⟨e2,hr,h⟩:=rMachRun (fuel:=(n:Int)) hm hx hl
 have hc:modP m∧(n:Int)≤1048576:=⟨hM,by omega⟩
 rw [if_pos hc] at hr h
 exact ⟨e2,hr,by simpa using h⟩
theorem run_keeps {m:DMod} (hM:modP m) {s:DMach} (hQ:machQ m s):∀ n,machQ m (runT m s n)
 | 0=>hQ
 | n + 1=>by
  rw [runT_succ]
  exact step_keeps hM (run_keeps hM hQ n)
end Go.Ab.U7
end
section
set_option linter.unusedVariables false
set_option linter.unusedSimpArgs false
set_option maxRecDepth 10000
namespace Go.Ab
def goesOn (m:DMod) (f g:DFrame):Prop:=g.f=f.f∧(g.block=f.block∨∃ u,m.funcs[f.f.toNat]? = some u∧g.block ∈ nextAt u.blocks f.block.toNat)
def isNewF (m:DMod) (g:DFrame):Prop:=0≤g.f∧g.block=0∧∃ u,m.funcs[g.f.toNat]? = some u∧0 < u.blocks.length
def fromQ (m:DMod) (l l':List DFrame):Prop:=∀ g ∈ l',isNewF m g∨∃ f ∈ l,goesOn m f g
theorem goesOn.same (m:DMod) (f:DFrame):goesOn m f f:=⟨rfl,.inl rfl⟩
theorem fromQ.same (m:DMod) (l:List DFrame):fromQ m l l:=fun g hg=>.inr ⟨g,hg,.same m g⟩
theorem fromQ.sub {m:DMod} {l l':List DFrame} (h:∀ g ∈ l',g ∈ l):fromQ m l l':=fun g hg=>.inr ⟨g,h g hg,.same m g⟩
theorem fromQ.with_ {m:DMod} {l:List DFrame} {s:DMach} {f g:DFrame} (hs:∀ x ∈ s.stack,x ∈ l) (hf:f ∈ l) (hg:goesOn m f g):fromQ m l (withT s g).stack:=by
 intro x hx
 rcases List.mem_append.1 hx with hx | hx
 ·exact .inr ⟨x,hs x (List.mem_of_mem_take hx),.same m x⟩
 ·rw [List.mem_singleton] at hx
  subst hx
  exact .inr ⟨f,hf,hg⟩
theorem next_of {u:DFunc} {b:DBlock} {n:Nat} {g:Int} {l:Bool} (hb:u.blocks[n]? = some b) (hg:g ∈ nx b) (ht:goalAt u.blocks g l):g ∈ nextAt u.blocks n:=by
 unfold nextAt
 rw [hb]
 refine List.mem_filter.2 ⟨hg,?_⟩
 obtain ⟨h0,b',hb',_⟩:=ht
 have:=(List.getElem?_eq_some_iff.1 hb').1
 simp [thereB]
 omega
end Go.Ab
namespace Go.Ab.U7
open Go Go.Ab Go.Proofs
theorem top_mem {s:DMach} {f:DFrame} (h:topT s=some f):f ∈ s.stack:=List.mem_of_getElem? h
theorem called_from {m:DMod} {s:DMach} {n regs:Int} {places:List Int} {f:DFrame} (hM:modP m) (ht:topT s=some f) (ha:argsP m.funcs regs n places):fromQ m s.stack (calledT m s n places).stack:=by
 obtain ⟨h0,u,hu,hul,_⟩:=ha
 unfold calledT
 split
 ·exact .same m _
 ·rw [ht]
  intro g hg
  rcases List.mem_append.1 hg with hg | hg
  ·exact .inr ⟨g,hg,.same m g⟩
  ·rw [List.mem_singleton] at hg
   subst hg
   have hT:newT m n (wordsAt f.regs places)=some ⟨n,0,0,(wordsAt f.regs places).take u.regs.toNat ++ List.replicate (u.regs.toNat - (wordsAt f.regs places).length) 0,0⟩:=by simp [newT,h0,hu,wordsAt_len,hul]
   rw [hT]
   obtain ⟨b,hb,_⟩:=(mod_func hM hu).2.2.1
   exact .inl ⟨h0,rfl,u,hu,(List.getElem?_eq_some_iff.1 hb).1⟩
theorem land_goes {m:DMod} {f:DFrame} {w:Int} (hM:modP m) (hQ:frameQ m f) {b:DBlock} (hb:blockOf m f=some b) (h4:b.fin.kind=4):goesOn m f ((landT m f (padOf m f) w).getD f):=by
 obtain ⟨hf0,u,hu,_,hb0,b',hb',_⟩:=hQ
 have:b'=b:=by
  have:blockOf m f=some b':=by simp [blockOf,hu,hb']
  rw [hb] at this
  cases this
  rfl
 subst this
 have hp:padOf m f=b'.fin.pad:=by simp [padOf,hu,hb']
 have hG:=mod_pad hM hu hb' h4
 rw [hp]
 have hG':=hG
 obtain ⟨hp0,b2,hb2,hl⟩:=hG
 rw [landT_some hu hp0 hb2 hl]
 exact ⟨rfl,.inr ⟨u,hu,next_of hb' (by simp [nx,h4]) hG'⟩⟩
theorem lastAt_some {P:Nat→Prop}:∀ {n k:Nat},lastAt P n=some k→P k∧k < n:=by
 intro n
 induction n with
 | zero=>intro k h; cases h
 | succ n ih =>
  intro k h
  unfold lastAt at h
  split at h
  ·cases h; exact ⟨by assumption,by omega⟩
  ·have:=ih h
   exact ⟨this.1,by omega⟩
theorem thrown_from {m:DMod} {s:DMach} {w:Int} (hM:modP m) (hQ:machQ m s):fromQ m s.stack (thrownT m s w).stack:=by
 unfold thrownT
 split
 ·split
  ·exact .same m _
  ·rename_i k hk
   split
   ·exact .same m _
   ·rename_i f hf
    obtain ⟨⟨f',hf',hc⟩,hlt⟩:=lastAt_some hk
    rw [List.getElem?_take,if_pos hlt,hf] at hf'
    cases hf'
    obtain ⟨u,b,hu,hb,h4⟩:∃ u b,m.funcs[f.f.toNat]? = some u∧u.blocks[f.block.toNat]? = some b∧b.fin.kind=4:=by
     obtain ⟨u,b,_,hu,hb,_,h4,_⟩:=hc
     exact ⟨u,b,hu,hb,h4⟩
    have hbo:blockOf m f=some b:=by simp [blockOf,hu,hb]
    exact .with_ (fun x hx=>List.mem_of_mem_take hx) (List.mem_of_getElem? hf) (land_goes hM (hQ.st.1 k f hf) hbo h4)
 ·exact .sub fun g hg=>List.mem_of_mem_take hg
theorem answered_from {m:DMod} {s:DMach} {w:Int} (hM:modP m) (hQ:machQ m s):fromQ m s.stack (answeredT m s w).stack:=by
 unfold answeredT
 split
 ·exact .same m _
 ·rename_i f hf
  split
  ·exact fun g hg=>by cases hg
  ·rename_i h1
   obtain ⟨f2,hf2⟩:∃ f,s.stack[s.stack.length - 2 + 1]? = some f:=⟨_,List.getElem?_eq_getElem (by omega)⟩
   obtain ⟨u,b,hu,hb,hlink⟩:=hQ.st.2 _ f f2 hf hf2
   have hbo:blockOf m f=some b:=by simp [blockOf,hu,hb]
   rw [hbo]
   simp only
   split
   ·rename_i hat
    have h4:b.fin.kind=4:=by
     rcases hlink with ⟨_,h,_⟩ | ⟨h,_⟩
     ·exact h
     ·exact absurd hat h
    have hE:=(mod_end hM hu hb).2.2.2.2.1.1
    rw [h4] at hE
    refine .with_ (fun x hx=>List.mem_of_mem_take hx) (List.mem_of_getElem? hf) ⟨rfl,.inr ⟨u,hu,next_of hb ?_ (hE rfl)⟩⟩
    simp [nx,gl,h4]
   ·split
    ·exact .same m _
    ·exact .with_ (fun x hx=>List.mem_of_mem_take hx) (List.mem_of_getElem? hf) ⟨rfl,.inl rfl⟩
theorem ins_from {m:DMod} {s:DMach} {f:DFrame} {x:DIns} (hM:modP m) (ht:topT s=some f) (hI:insP m.funcs f.regs.length x):fromQ m s.stack (insT m s f x).stack:=by
 have hm:=top_mem ht
 have wi:∀ (s':DMach) (g:DFrame),s'.stack=s.stack→g.f=f.f→g.block=f.block→fromQ m s.stack (withT s' g).stack:=fun s' g h1 h2 h3 =>
  .with_ (fun x hx=>by rw [h1] at hx; exact hx) hm ⟨h2,.inl h3⟩
 unfold insT
 split
 ·rename_i h11
  have hc:=hI.2.2.2.2.2.1
  rw [h11] at hc
  exact called_from hM ht (hc rfl)
 split
 ·split
  ·rcases reckon_keeps (f:=f) (x:=x) with h | ⟨w,h⟩
   ·rw [h]; exact wi _ _ rfl rfl rfl
   ·rw [h]; exact wi _ _ rfl rfl rfl
  ·exact .same m _
 split
 ·split
  ·exact .same m _
  ·exact wi _ _ rfl rfl rfl
 split
 ·split
  ·exact .same m _
  ·exact wi _ _ rfl rfl rfl
 split
 ·exact wi _ _ rfl rfl rfl
 split
 ·exact .same m _
 ·exact wi _ _ rfl rfl rfl
theorem step_from {m:DMod} {s:DMach} (hM:modP m) (hQ:machQ m s):fromQ m s.stack (stepT m s).stack:=by
 unfold stepT
 split
 ·exact .same m _
 split
 ·exact .same m _
 ·rename_i f ht
  have hF:=hQ.st.1 _ f ht
  have hFc:=hF
  obtain ⟨hf0,u,hu,hLr,hb0,b',hb',ha0,ha1⟩:=hF
  split
  ·exact .same m _
  ·rename_i b hb
   have:b'=b:=by
    have:blockOf m f=some b':=by simp [blockOf,hu,hb']
    rw [hb] at this
    cases this
    rfl
   subst this
   have hE:=mod_end hM hu hb'
   split
   ·rename_i hat
    split
    ·exact answered_from hM hQ
    split
    ·rename_i h4
     have ha:=hE.2.2.2.1
     rw [h4] at ha
     exact called_from hM ht (ha.1 rfl)
    split
    ·exact thrown_from hM hQ
    split
    ·exact thrown_from hM hQ
    split
    ·rename_i h3
     have hG:=hE.2.2.2.2.2.1.1
     rw [h3.1] at hG
     exact .with_ (fun x hx=>hx) (top_mem ht) ⟨rfl,.inr ⟨u,hu,next_of hb' (by simp [nx,gl,h3.1]) (hG rfl)⟩⟩
    ·rename_i h1 h4 h5 h6 h3
     have hk:=usesE_of hE.1
     have hG:=hE.2.2.2.2.1.1
     have h23:b'.fin.kind=2∨b'.fin.kind=3:=by omega
     refine .with_ (fun x hx=>hx) (top_mem ht) ⟨rfl,.inr ⟨u,hu,next_of hb' (by rcases h23 with h | h <;> simp [nx,gl,h]) (hG ?_)⟩⟩
     rcases h23 with h | h <;> (rw [h]; rfl)
   ·split
    ·exact .same m _
    ·rename_i x hx
     have hI:=mod_ins hM hu hb' hx
     rw [← hLr] at hI
     exact ins_from hM ht hI
end Go.Ab.U7
end
section
set_option linter.unusedVariables false
set_option linter.unusedSimpArgs false
set_option maxRecDepth 10000
namespace Go.Ab
def standsQ (m:DMod) (l:List DFrame):Prop:=∀ f ∈ l,0≤f.f∧∃ u,m.funcs[f.f.toNat]? = some u∧Rc u.blocks (-1) f.block.toNat
theorem standsQ.from_ {m:DMod} {l l':List DFrame} (h:standsQ m l) (hf:fromQ m l l'):standsQ m l':=by
 intro g hg
 rcases hf g hg with ⟨h0,hb,u,hu,hl⟩ | ⟨f,hf,he,hor⟩
 ·exact ⟨h0,u,hu,by rw [hb]; exact .start (by omega) hl⟩
 ·obtain ⟨h0,u,hu,hr⟩:=h f hf
  refine ⟨by rw [he]; exact h0,u,by rw [he]; exact hu,?_⟩
  rcases hor with hb | ⟨u',hu',hgb⟩
  ·rw [hb]; exact hr
  ·rw [hu] at hu'
   cases hu'
   have:=nextAt_there hgb
   exact .next hr hgb (by omega)
end Go.Ab
namespace Go.Ab.U7
open Go Go.Ab Go.Proofs
theorem new_stands {m:DMod} {l:List Int} (hM:modP m):standsQ m (newM m l).stack:=by
 intro f hf
 have hQ:=newM_keeps (inputs:=l) hM
 have hfe:f=(newT m 0 []).getD noFrame:=by simpa [newM] using hf
 have h0:(newM m l).stack[0]? = some f:=by rw [hfe]; rfl
 obtain ⟨hf0,u,hu,_,hb0,b,hb,_⟩:=hQ.st.1 0 f h0
 have hb00:f.block=0:=by
  rw [hfe]
  unfold newT
  split
  ·cases m.funcs[(0:Int).toNat]? with
   | none=>rfl
   | some g =>
    simp only [Option.bind_some]
    split <;> rfl
  ·rfl
 refine ⟨hf0,u,hu,?_⟩
 rw [hb00] at hb ⊢
 exact .start (by omega) (List.getElem?_eq_some_iff.1 hb).1
theorem run_stands {m:DMod} {l:List Int} (hM:modP m):∀ n,standsQ m (runT m (newM m l) n).stack
 | 0=>new_stands hM
 | n + 1=>by
  rw [runT_succ]
  exact (run_stands hM n).from_ (step_from hM (run_keeps hM (newM_keeps hM) n))
theorem lReaches {e:List TV} {x:TV} {m:DMod} {l:List Int} {p:Int} (hm:RMod (some false) e m) (hx:RWords (some false) x l) (hp:0≤p∧p≤255) :
  Runs prog 9 [.agg e,x,.lit (.int .u8 p)] (B true):=by
 obtain ⟨b,hsm,hsb⟩:=rSmall hm hx
 have hm':=hm
 obtain ⟨y,rfl,hy⟩:=hm
 obtain ⟨N,hN,hN2,_⟩:=byte_rem (k:=200) hp (by omega)
 have hrem1:pbin (.int .u8) .rem (.lit (.int .u8 p)) (.lit (.int .u8 200))=some (.lit (.int .u8 (N:Int))):=by rw [← hN]; rfl
 have hcv1:pconv (.int .i64) (.lit (.int .u8 (N:Int)))=some (I (N:Int)):=pconv_bi (by omega) (by omega)
 refine Runs.of (f9_MR _ _ _) ?_
 unfold f9_M
 refine Goes.chk rfl (Goes.call rAwake7 (Goes.chk rfl (Goes.tv rfl (Goes.ite rfl (fun h=>nomatch h) fun _=>Goes.call hsm (Goes.chk rfl (Goes.tv rfl (Goes.ite rfl (fun _=>Goes.ret) fun h=>?_)))))))
 have hb:b=true:=by simpa using h
 obtain ⟨_,hl⟩:=hsb hb
 refine Goes.tv hrem1 (Goes.tv hcv1 ?_)
 by_cases hM:modP m
 rotate_left
 ·obtain ⟨e2,hq2,h2⟩:=rMachRun (fuel:=(N:Int)) hm' hx (by omega)
  rw [if_neg (fun h=>hM h.1)] at hq2 h2
  have hfit2:=h2.fit
  have h2w:=h2.weak
  obtain ⟨g,i,v,rfl,hg,hi,hv,ho⟩:=h2
  obtain ⟨g',i',v',e',hg',hi',hv',ho'⟩:=h2w
  cases e'
  have hs:=rMSame (RMach.frz' hg' hi' hv' ho') noMach_own.weak
  rw [tt_true rfl] at hs
  exact Goes.call hq2 (Goes.chk rfl (Goes.chk hfit2 (Goes.chk rfl (Goes.tv rfl (Goes.ite rfl (fun _=>Goes.call hs (Goes.chk rfl Goes.ret)) fun h=>nomatch h)))))
 obtain ⟨e2,hq2,h2⟩:=run_own (n:=N) hm' hM hx (by omega) (by omega)
 have hfit2:=h2.fit
 have hQ:=run_keeps hM (newM_keeps (inputs:=l) hM) N
 have hS:=run_stands (l:=l) hM N
 generalize runT m (newM m l) N=s at h2 hQ hS
 obtain ⟨g,i,v,rfl,hg,hi,hv,ho⟩:=h2
 have h32:=hQ.2.1
 have hlen:=RL.len (t:=47) hg
 refine Goes.call hq2 (Goes.chk rfl (Goes.chk hfit2 (Goes.chk rfl (Goes.tv rfl (Goes.ite rfl (fun h=>nomatch h) fun _=>?_)))))
 have loop:∀ (d k:Nat),k + d=s.stack.length→Goes prog 9 (f9_0 (I k) y (W (s.c 0)) (W (s.c 1)) (W (s.c 2)) (W (s.c 3)) (W (s.c 4)) (W (s.c 5)) (W (s.c 6)) (W (s.c 7)) (W (s.c 8)) (W (s.c 9)) (W (s.c 10)) (W (s.c 11)) (W (s.c 12)) (W (s.c 13)) (W (s.c 14)) (W (s.c 15)) (I s.done) (W s.value) g TV.hole TV.hole TV.hole TV.hole TV.hole TV.hole TV.hole TV.hole TV.hole TV.hole TV.hole TV.hole TV.hole TV.hole TV.hole TV.hole i v TV.hole TV.hole TV.hole) (B true):=by
  intro d
  induction d with
  | zero =>
   intro k hk
   have hk:k=s.stack.length:=by omega
   subst hk
   unfold f9_0
   exact Goes.tv hlen (Goes.tv rfl (Goes.ite asB_end (fun h=>nomatch h) fun _=>Goes.ret))
  | succ d ih =>
   intro k hk
   have hkl:k < s.stack.length:=by omega
   have ank:asNat (I (k:Nat))=some k:=asNat_nat (by omega)
   obtain ⟨f,hfe⟩:∃ f,f=s.stack[k]:=⟨_,rfl⟩
   have hsk:s.stack[k]? = some f:=by rw [hfe]; exact List.getElem?_eq_getElem hkl
   obtain ⟨hf0,u,hu,hr⟩:=hS f (List.mem_of_getElem? hsk)
   obtain ⟨_,u',hu',_,hb0,b',hb',_⟩:=hQ.st.1 k f hsk
   have hblk:=(mod_func hM hu).2.1
   obtain ⟨ef,hef,gr,rfl,hgr,hof⟩:=hg.pel hsk
   obtain ⟨eu,heu,hru⟩:=hy.idxI (k:=.i64) hf0 hu
   obtain ⟨yr,Mr,hyr,hrr,hF⟩:=r85 hru (by omega)
   obtain ⟨bs,rfl,hbs,_⟩:=hru
   have hMt:Mr[f.block.toNat]? = some true:=(hF.2 _).2 hr
   have hMl:=(List.getElem?_eq_some_iff.1 hMt).1
   obtain ⟨em,hem,hRm⟩:=hrr.pel hMt
   cases hRm
   unfold f9_0
   refine Goes.tv hlen (Goes.tv rfl (Goes.ite (asB_lt hkl) (fun _=>?_) fun h=>nomatch h))
   refine Goes.nat hg.slLen (Goes.nat ank (Goes.chk (sz_and hg.slSize hkl) (Goes.tvs hef (Goes.chk rfl (Goes.tvs heu (Goes.chk rfl (Goes.call hyr (Goes.chk (fit_slc hrr.isSl) ?_))))))))
   refine Goes.nat hg.slLen (Goes.nat ank (Goes.chk (sz_and hg.slSize hkl) (Goes.tvs hef (Goes.chk rfl ?_))))
   refine Goes.nat hrr.slLen (Goes.nat (asNat_pos hb0 hof.2.1) (Goes.chk (sz_and hrr.slSize hMl) (Goes.tvs hem (Goes.chk rfl (Goes.tv rfl (Goes.ite (v:=false) rfl (fun h=>nomatch h) fun _=>?_))))))
   exact Goes.tv (inc hkl (by omega)) (f9_0_J (ih (k + 1) (by omega)))
 exact f9_0_J (loop s.stack.length 0 (by omega))
end Go.Ab.U7
end
section
namespace Go.Ab
open Go.RowKit
set_option linter.unusedVariables false
theorem nth_eq {α:Type} (d:α):∀ (l:List α) (n:Nat),nth d l n=(l[n]?).getD d
 | [],n=>by simp [nth]
 | a :: l,0=>rfl
 | a :: l,n + 1=>by simp [nth,nth_eq d l n]
theorem setNth_eq {α:Type}:∀ (l:List α) (n:Nat) (b:α),setNth l n b=l.set n b
 | [],n,b=>by simp [setNth]
 | a :: l,0,b=>rfl
 | a :: l,n + 1,b=>by simp [setNth,setNth_eq l n b]
theorem nth_some {α:Type} {d:α} {l:List α} {n:Nat} {a:α} (h:l[n]? = some a):nth d l n=a:=by rw [nth_eq,h]; rfl
theorem beq_iff (a b:Nat):a.beq b=true ↔ a=b:=⟨Nat.eq_of_beq_eq_true,fun h=>h ▸ Nat.beq_refl a⟩
theorem memB_iff (n:Nat):∀ l:List Nat,memB n l=true ↔ n ∈ l
 | []=>by simp [memB]
 | a :: l => by
  cases h:a.beq n
  ·have:a≠n:=fun e=>by simp [e] at h
   simp only [memB,h,cond_false,memB_iff n l,List.mem_cons]
   constructor
   ·exact .inr
   ·rintro (e | e)
    ·exact absurd e.symm this
    ·exact e
  ·simp only [memB,h,cond_true,List.mem_cons,true_iff]
   exact .inl ((beq_iff a n).1 h).symm
theorem add_block (a:Addr) (k:Nat):(a.add k).block=a.block:=by unfold Addr.add; split <;> rfl
theorem add_add (a:Addr) (i j:Nat):(a.add i).add j=a.add (i + j):=by
 unfold Addr.add
 by_cases hi:i=0 <;> by_cases hj:j=0 <;> simp [hi,hj,Nat.add_assoc]
theorem add_lit (b o k:Nat):(⟨b,o,none⟩:Addr).add k=⟨b,o + k,none⟩:=by unfold Addr.add; split <;> simp_all
def spl {α:Type} (l:List α) (o:Nat) (ys:List α):List α:=l.take o ++ ys ++ l.drop (o + ys.length)
theorem spl_len {α:Type} {l ys:List α} {o:Nat} (h:o + ys.length≤l.length):(spl l o ys).length=l.length:=by
 simp only [spl,List.length_append,List.length_take,List.length_drop]
 omega
theorem spl_get {α:Type} {l ys:List α} {o:Nat} (h:o + ys.length≤l.length) (k:Nat):(spl l o ys)[k]? = if o≤k∧k < o + ys.length then ys[k - o]? else l[k]? := by
 have e1:(l.take o).length=o:=by simp; omega
 unfold spl
 by_cases h1:k < o
 ·rw [List.append_assoc,List.getElem?_append_left (by omega),List.getElem?_take,if_pos h1,if_neg (by omega)]
 ·by_cases h2:k < o + ys.length
  ·rw [List.append_assoc,List.getElem?_append_right (by omega),e1,List.getElem?_append_left (by omega),if_pos (by omega)]
  ·rw [List.getElem?_append_right (by simp; omega),List.getElem?_drop,if_neg (by omega)]
   congr 1
   simp
   omega
theorem setCells_eq {α:Type}:∀ (ps l:List α) (off:Nat),off + ps.length≤l.length→setCells l off ps=spl l off ps
 | [],l,off,h=>by simp [setCells,spl]
 | p :: ps, l, off, h => by
  have hlt:off < l.length:=by simp at h; omega
  simp only [setCells]
  rw [setNth_eq,setCells_eq ps (l.set off p) (off + 1) (by simp at h ⊢; omega)]
  apply List.ext_getElem?
  intro k
  rw [spl_get (by simp at h ⊢; omega),spl_get h]
  simp only [List.length_cons,List.getElem?_set]
  by_cases h1:k < off
  ·rw [if_neg (by omega),if_neg (by omega),if_neg (by omega)]
  ·by_cases h2:k=off
   ·subst h2
    rw [if_neg (by omega),if_pos (by omega)]
    simp [hlt]
   ·by_cases h3:k < off + (ps.length + 1)
    ·rw [if_pos (by omega),if_pos (by omega)]
     rw [show k - off=(k - (off + 1)) + 1 by omega,List.getElem?_cons_succ]
    ·rw [if_neg (by omega),if_neg (by omega),if_neg (by omega)]
theorem takeN_spec {α:Type}:∀ (l:List α) (o n:Nat) (r:List α),takeN l o n=some r→r.length=n∧(n=0∨o + n≤l.length)∧∀ j,j < n→r[j]? = l[o + j]?
 | l,o,0,r,h=>by cases l <;> simp [takeN] at h <;> subst h <;> simp
 | [],o,n + 1,r,h=>by simp [takeN] at h
 | a :: l, 0, n + 1, r, h => by
  simp only [takeN] at h
  cases h1:takeN l 0 n with
  | none=>simp [h1] at h
  | some r' =>
   simp only [h1,Option.some.injEq] at h
   subst h
   obtain ⟨i1,i2,i3⟩:=takeN_spec l 0 n r' h1
   refine ⟨by simp [i1],.inr (by simp; omega),fun j hj=>?_⟩
   cases j with
   | zero=>simp
   | succ j=>simpa using i3 j (by omega)
 | a :: l,o + 1,n + 1,r,h=>by
  simp only [takeN] at h
  obtain ⟨i1,i2,i3⟩:=takeN_spec l o (n + 1) r h
  refine ⟨i1,.inr (by rcases i2 with i2 | i2 <;> simp <;> omega),fun j hj=>?_⟩
  rw [i3 j hj,show o + 1 + j=(o + j) + 1 by omega,List.getElem?_cons_succ]
theorem flat_len {α:Type} {s:Nat}:∀ {xs:List (List α)},(∀ x ∈ xs,x.length=s)→xs.flatten.length=xs.length * s
 | [],_=>by simp
 | x :: xs,h=>by
  simp only [List.flatten_cons,List.length_append,List.length_cons,h x List.mem_cons_self,flat_len (fun y hy=>h y (List.mem_cons_of_mem _ hy)),Nat.add_mul]
  omega
theorem flat_get {α:Type} {s:Nat}:∀ {xs:List (List α)} {i j:Nat} {x:List α} {c:α},(∀ x ∈ xs,x.length=s)→xs[i]? = some x→x[j]? = some c→xs.flatten[i * s + j]? = some c
 | x :: xs,0,j,_,c,h,hi,hj=>by
  simp at hi
  subst hi
  rw [List.flatten_cons,List.getElem?_append_left (by simp; exact (List.getElem?_eq_some_iff.1 hj).1)]
  simpa using hj
 | x :: xs,i + 1,j,y,c,h,hi,hj=>by
  simp at hi
  have hx:=h x List.mem_cons_self
  rw [List.flatten_cons,List.getElem?_append_right (by rw [hx,Nat.add_mul]; omega),hx,show (i + 1) * s + j - s=i * s + j by rw [Nat.add_mul]; omega]
  exact flat_get (fun z hz=>h z (List.mem_cons_of_mem _ hz)) hi hj
theorem take_add {α:Type} {x l:List α} {s n:Nat} (h:x.length=s):(x ++ l).take (s + n)=x ++ l.take n:=by
 subst h
 exact List.take_length_add_append n
theorem drop_add {α:Type} {x l:List α} {s n:Nat} (h:x.length=s):(x ++ l).drop (s + n)=l.drop n:=by
 subst h
 exact List.drop_length_add_append n
theorem succ_mul' (n s:Nat):(n + 1) * s=s + n * s:=by rw [Nat.add_mul]; omega
theorem flat_take {α:Type} {s:Nat}:∀ {xs:List (List α)} (n:Nat),(∀ x ∈ xs,x.length=s)→(xs.take n).flatten=xs.flatten.take (n * s)
 | [],n,_=>by simp
 | x :: xs,0,_=>by simp
 | x :: xs,n + 1,h=>by
  have hx:=h x List.mem_cons_self
  rw [List.take_succ_cons,List.flatten_cons,List.flatten_cons,flat_take n (fun z hz=>h z (List.mem_cons_of_mem _ hz)),succ_mul',take_add hx]
theorem flat_drop {α:Type} {s:Nat}:∀ {xs:List (List α)} (n:Nat),(∀ x ∈ xs,x.length=s)→(xs.drop n).flatten=xs.flatten.drop (n * s)
 | [],n,_=>by simp
 | x :: xs,0,_=>by simp
 | x :: xs,n + 1,h=>by
  have hx:=h x List.mem_cons_self
  rw [List.drop_succ_cons,List.flatten_cons,flat_drop n (fun z hz=>h z (List.mem_cons_of_mem _ hz)),succ_mul',drop_add hx]
theorem flat_set {α:Type} {s:Nat}:∀ {xs:List (List α)} {i:Nat} {x y:List α},(∀ x ∈ xs,x.length=s)→xs[i]? = some x→y.length=s→(xs.set i y).flatten=spl xs.flatten (i * s) y
 | x :: xs,0,_,y,h,hi,hy=>by
  simp at hi
  subst hi
  have hx:=h x List.mem_cons_self
  simp only [List.set_cons_zero,List.flatten_cons,Nat.zero_mul,spl,List.take_zero,List.nil_append,Nat.zero_add,hy,List.drop_append,hx,Nat.sub_self,List.drop_zero]
  rw [List.drop_of_length_le (by omega),List.nil_append]
 | x :: xs,i + 1,z,y,h,hi,hy=>by
  simp at hi
  have hx:=h x List.mem_cons_self
  have ih:=flat_set (fun z hz=>h z (List.mem_cons_of_mem _ hz)) hi hy
  simp only [List.set_cons_succ,List.flatten_cons,ih,spl,succ_mul',take_add hx,hy]
  rw [show s + i * s + s=s + (i * s + s) by omega,drop_add hx]
  simp only [List.append_assoc]
theorem set_all {α:Type} {s:Nat} {xs:List (List α)} {i:Nat} {y:List α} (h:∀ x ∈ xs,x.length=s) (hy:y.length=s):∀ x ∈ xs.set i y,x.length=s:=by
 intro x hx
 rcases List.mem_or_eq_of_mem_set hx with h' | h'
 ·exact h x h'
 ·rw [h']; exact hy
theorem flat_spl {α:Type} {s:Nat} {xs:List (List α)} {i j:Nat} {x ys:List α} (h:∀ x ∈ xs,x.length=s) (hi:xs[i]? = some x) (hj:j + ys.length≤x.length) :
  (xs.set i (spl x j ys)).flatten=spl xs.flatten (i * s + j) ys∧i * s + j + ys.length≤xs.flatten.length:=by
 have hx:=h x (List.mem_of_getElem? hi)
 have hlt:i < xs.length:=(List.getElem?_eq_some_iff.1 hi).1
 have hle:i * s + s≤xs.flatten.length:=by
  rw [flat_len h]
  have:=Nat.mul_le_mul_right s (Nat.succ_le_of_lt hlt)
  rw [Nat.succ_mul] at this
  exact this
 refine ⟨?_,by omega⟩
 rw [flat_set h hi (by rw [spl_len hj,hx])]
 apply List.ext_getElem?
 intro k
 rw [spl_get (l:=xs.flatten) (ys:=spl x j ys) (by rw [spl_len hj]; omega),spl_get (l:=xs.flatten) (ys:=ys) (by omega),spl_len hj,hx]
 by_cases h1:i * s≤k∧k < i * s + s
 ·rw [if_pos h1,spl_get hj]
  by_cases h2:j≤k - i * s∧k - i * s < j + ys.length
  ·rw [if_pos h2,if_pos (by omega)]
   congr 1
   omega
  ·rw [if_neg h2,if_neg (by omega)]
   have hk:k - i * s < x.length:=by omega
   have:=flat_get h hi (List.getElem?_eq_getElem hk)
   rw [show i * s + (k - i * s)=k by omega] at this
   rw [this,List.getElem?_eq_getElem hk]
 ·rw [if_neg h1,if_neg (by omega)]
inductive Rep (w:World) (I:Nat→Prop):TV→Value→Prop
 | lit (v:Value):Rep w I (.lit v) v
 | hole (v:Value):Rep w I .hole v
 | buf {s:ByteArray} (e:TypeId) (h:s.size=0):Rep w I (.buf s e) nilV
 | sl {size : Nat} {xs : List (List TV)} {a : Addr} {cap : Nat} (cell : Nat → Value) (hI : 0 < xs.length → I a.block) (hc : xs.length ≤ cap) (hm : cap ≤ maxLen)
   (hl:∀ x ∈ xs,x.length=size) (hcell:∀ k,k < xs.length * size→w.cell? (a.add k)=some (cell k)) (h1:∀ k,k < xs.length * size→(cell k).oneCell'=true)
   (hr:∀ (i:Nat) (x:List TV),xs[i]? = some x→∀ (j:Nat) (c:TV),x[j]? = some c→Rep w I c (cell (i * size + j))):Rep w I (.sl false size xs) (.slice (some a) xs.length cap)
 | agg {cs : List TV} {vs : Array Value} (hl : vs.size = cs.length) (h1 : ∀ j, j < vs.size → (vs.getD j undef).oneCell' = true)
   (hr:∀ (j:Nat) (c:TV),cs[j]? = some c→Rep w I c (vs.getD j undef)):Rep w I (.agg cs) (.agg vs)
 | tup {cs:List TV} {vs:Array Value} (hl:vs.size=cs.length) (hr:∀ (j:Nat) (c:TV),cs[j]? = some c→Rep w I c (vs.getD j undef)):Rep w I (.tup cs) (.tuple vs)
theorem Rep.mv {w w':World} {I I':Nat→Prop} (hh:∀ b,I b→w'.heap[b]? = w.heap[b]?) (hI:∀ b,I b→I' b) {x:TV} {v:Value} (h:Rep w I x v):Rep w' I' x v:=by
 induction h with
 | lit v=>exact .lit v
 | hole v=>exact .hole v
 | buf e h=>exact .buf e h
 | sl cell i c m l hcell h1 _ ih =>
  exact .sl cell (fun h=>hI _ (i h)) c m l (fun k hk=>by rw [← hcell k hk]; exact World.cell?_of_block (by rw [add_block]; exact hh _ (i (Nat.pos_of_ne_zero (fun e=>by simp [e] at hk))))) h1 ih
 | agg hl h1 _ ih=>exact .agg hl h1 ih
 | tup hl _ ih=>exact .tup hl ih
structure Row (w:World) (a:Addr) (n cap size:Nat) (us:List Value) (vs:Array Value) (ty:TypeId):Prop where
 heap:w.heap[a.block]? = some (.cells vs ty (0,0))
 spot:a.spot=none
 le:n≤cap
 max:cap≤maxLen
 fit:a.off + cap * size≤vs.size
 len:us.length=n * size
 cells:∀ k,k < n * size→vs[a.off + k]? = us[k]?
 one:∀ u ∈ us,u.oneCell'=true
theorem Row.cell {w:World} {a:Addr} {n cap size:Nat} {us:List Value} {vs:Array Value} {ty:TypeId} (h:Row w a n cap size us vs ty) {k:Nat} {u:Value} (hk:us[k]? = some u):w.cell? (a.add k)=some u:=by
 have hlt:k < n * size:=by rw [← h.len]; exact (List.getElem?_eq_some_iff.1 hk).1
 have:a.add k=⟨a.block,a.off + k,none⟩:=by
  have:=h.spot
  obtain ⟨b,o,sp⟩:=a
  simp at this
  subst this
  exact add_lit b o k
 rw [this]
 simp only [World.cell?,h.heap]
 simp only [Option.isSome_none,Bool.false_eq_true,if_false]
 rw [h.cells k hlt,hk]
inductive RepO (w:World) (I:Nat→Prop):TV→Value→(Nat→Prop)→Prop
 | fr {x:TV} {v:Value} {S:Nat→Prop} (h:Rep w I x v):RepO w I x v S
 | sl {size : Nat} {xs : List (List TV)} {a : Addr} {cap : Nat} {S : Nat → Prop} (us : List Value) (vs : Array Value) (ty : TypeId) (F : Nat → Nat → Prop) (hS : S a.block)
   (row:Row w a xs.length cap size us vs ty) (hl:∀ x ∈ xs,x.length=size) (hr:∀ (k:Nat) (c:TV),xs.flatten[k]? = some c→RepO w I c (us.getD k undef) (F k))
   (hF:∀ k b,F k b→S b∧b≠a.block) (hd:∀ k k' b,F k b→F k' b→k=k'):RepO w I (.sl true size xs) (.slice (some a) xs.length cap) S
 | agg {cs : List TV} {vs : Array Value} {S : Nat → Prop} (F : Nat → Nat → Prop) (hl : vs.size = cs.length) (h1 : ∀ j, j < vs.size → (vs.getD j undef).oneCell' = true)
   (hr:∀ (j:Nat) (c:TV),cs[j]? = some c→RepO w I c (vs.getD j undef) (F j)) (hF:∀ j b,F j b→S b) (hd:∀ k k' b,F k b→F k' b→k=k'):RepO w I (.agg cs) (.agg vs) S
 | buf {s:ByteArray} {e:TypeId} {v:Value} {S:Nat→Prop} (h:w.ownsRowF 0 e 1 v s.size (Lib.strCells s)) (hS:∀ b,v.ownBlock=some b→S b):RepO w I (.buf s e) v S
 | tup {cs : List TV} {vs : Array Value} {S : Nat → Prop} (F : Nat → Nat → Prop) (hl : vs.size = cs.length)
   (hr:∀ (j:Nat) (c:TV),cs[j]? = some c→RepO w I c (vs.getD j undef) (F j)) (hF:∀ j b,F j b→S b) (hd:∀ k k' b,F k b→F k' b→k=k'):RepO w I (.tup cs) (.tuple vs) S
theorem _root_.Go.World.ownsRowF.moved {w w':World} {base:Nat} {e:TypeId} {size:Nat} {v:Value} {n:Nat} {xs:List Value} (h:w.ownsRowF base e size v n xs) (hh:∀ b,v.ownBlock=some b→w'.heap[b]? = w.heap[b]?):w'.ownsRowF base e size v n xs:=by
 refine ⟨h.1,?_⟩
 rcases h.2 with hn | ⟨g,cap,cur,fz,rfl,hb,hgg,rest⟩
 ·exact .inl hn
 ·exact .inr ⟨g,cap,cur,fz,rfl,hb,by rw [hh g rfl]; exact hgg,rest⟩
theorem RepO.mv {w w':World} {I I':Nat→Prop} (hI:∀ b,I b→w'.heap[b]? = w.heap[b]?) (hs:∀ b,I b→I' b) {x:TV} {v:Value} {S:Nat→Prop} (h:RepO w I x v S) :
  ∀ {S':Nat→Prop},(∀ b,S b→w'.heap[b]? = w.heap[b]?)→(∀ b,S b→S' b)→RepO w' I' x v S':=by
 induction h with
 | fr h=>intro S' _ _; exact .fr (h.mv hI hs)
 | @sl size xs a cap S us vs ty F hS row hl hr hF hd ih =>
  intro S' hh hSS
  exact .sl us vs ty F (hSS _ hS) ⟨by rw [hh _ hS]; exact row.heap,row.spot,row.le,row.max,row.fit,row.len,row.cells,row.one⟩ hl (fun k c hk=>ih k c hk (fun b hb=>hh b (hF k b hb).1) (fun b hb=>hb))
   (fun k b hb=>⟨hSS b (hF k b hb).1,(hF k b hb).2⟩) hd
 | @buf s e v S h hS =>
  intro S' hh hSS
  exact .buf (h.moved (fun b hb=>hh b (hS b hb))) (fun b hb=>hSS b (hS b hb))
 | @agg cs vs S F hl h1 hr hF hd ih =>
  intro S' hh hSS
  exact .agg F hl h1 (fun k c hk=>ih k c hk (fun b hb=>hh b (hF k b hb)) (fun b hb=>hb)) (fun k b hb=>hSS b (hF k b hb)) hd
 | @tup cs vs S F hl hr hF hd ih =>
  intro S' hh hSS
  exact .tup F hl (fun k c hk=>ih k c hk (fun b hb=>hh b (hF k b hb)) (fun b hb=>hb)) (fun k b hb=>hSS b (hF k b hb)) hd
theorem RepO.mono {w:World} {I:Nat→Prop} {x:TV} {v:Value} {S S':Nat→Prop} (h:RepO w I x v S) (hS:∀ b,S b→S' b):RepO w I x v S' :=
 h.mv (fun _ _=>rfl) (fun _ h=>h) (fun _ _=>rfl) hS
theorem rep_lit {w:World} {I:Nat→Prop} {v u:Value} (h:Rep w I (.lit v) u):u=v:=by cases h; rfl
theorem repO_lit {w:World} {I:Nat→Prop} {v u:Value} {S:Nat→Prop} (h:RepO w I (.lit v) u S):u=v:=by cases h with | fr h=>exact rep_lit h
theorem repO_frz {w:World} {I:Nat→Prop} {s:Nat} {xs:List (List TV)} {u:Value} {S:Nat→Prop} (h:RepO w I (.sl false s xs) u S):Rep w I (.sl false s xs) u:=by cases h with | fr h=>exact h
theorem repO_sl {w:World} {I:Nat→Prop} {o:Bool} {s:Nat} {xs:List (List TV)} {u:Value} {S:Nat→Prop} (h:RepO w I (.sl o s xs) u S):∃ a cap,u=.slice (some a) xs.length cap:=by
 cases h with
 | fr h=>cases h; exact ⟨_,_,rfl⟩
 | sl=>exact ⟨_,_,rfl⟩
theorem repO_isSl {w:World} {I:Nat→Prop} {x:TV} {u:Value} {S:Nat→Prop} (h:RepO w I x u S) (hx:x.isSl=true):∃ a n cap,u=.slice a n cap:=by
 cases x with
 | lit v =>
  have:=repO_lit h
  subst this
  cases u <;> simp [TV.isSl,isSlV] at hx ⊢
 | sl o s xs=>obtain ⟨a,cap,rfl⟩:=repO_sl h; exact ⟨_,_,_,rfl⟩
 | _=>simp [TV.isSl] at hx
theorem scV_one {v:Value} (h:scV v=true):v.oneCell'=true:=by cases v <;> first | rfl | simp [scV] at h
theorem repO_isSc {w:World} {I:Nat→Prop} {x:TV} {u:Value} {S:Nat→Prop} (h:RepO w I x u S) (hx:x.isSc=true):x=.lit u∧scV u=true:=by
 cases x with
 | lit v =>
  have:=repO_lit h
  subst this
  exact ⟨rfl,hx⟩
 | _=>simp [TV.isSc] at hx
theorem repO_lf {w:World} {I:Nat→Prop} {x:TV} {u:Value} {S:Nat→Prop} (h:RepO w I x u S):Rep w I x.lf u:=by
 cases x with
 | lit v=>have:=repO_lit h; subst this; exact .lit _
 | _=>exact .hole _
theorem frzL_eq:∀ l:List TV,frzL l=l.map frz
 | []=>rfl
 | x :: l=>by simp [frzL,frzL_eq l]
theorem frzLL_eq:∀ l:List (List TV),frzLL l=l.map fun x=>x.map frz
 | []=>rfl
 | x :: l=>by simp [frzLL,frzLL_eq l,frzL_eq]
theorem lfL_eq:∀ l:List TV,lfL l=l.map TV.lf
 | []=>rfl
 | x :: l=>by simp [lfL,lfL_eq l]
theorem lfLL_eq:∀ l:List (List TV),lfLL l=l.map fun x=>x.map TV.lf
 | []=>rfl
 | x :: l=>by simp [lfLL,lfLL_eq l,lfL_eq]
theorem Rep.frz {w:World} {I:Nat→Prop} {x:TV} {v:Value} (h:Rep w I x v):Rep w I (frz x) v:=by
 induction h with
 | lit v=>exact .lit v
 | hole v=>exact .hole v
 | buf e h=>exact .hole _
 | @sl size xs a cap cell hI hc hm hl hcell h1 _ ih =>
  simp only [Ab.frz,frzLL_eq]
  have hlen:(xs.map fun x=>x.map Ab.frz).length=xs.length:=by simp
  have key:Rep w I (.sl false size (xs.map fun x=>x.map Ab.frz)) (.slice (some a) (xs.map fun x=>x.map Ab.frz).length cap):=by
   refine .sl cell (by rw [hlen]; exact hI) (by rw [hlen]; exact hc) hm (fun x hx=>?_) (by rw [hlen]; exact hcell) (by rw [hlen]; exact h1) (fun i y hy j c hj=>?_)
   ·obtain ⟨y,hy,rfl⟩:=List.mem_map.1 hx
    simpa using hl y hy
   ·rw [List.getElem?_map] at hy
    cases hxi:xs[i]? with
    | none=>simp [hxi] at hy
    | some x =>
     simp only [hxi,Option.map_some,Option.some.injEq] at hy
     subst hy
     rw [List.getElem?_map] at hj
     cases hxj:x[j]? with
     | none=>simp [hxj] at hj
     | some c' =>
      simp only [hxj,Option.map_some,Option.some.injEq] at hj
      subst hj
      exact ih i x hxi j c' hxj
  rwa [hlen] at key
 | @agg cs vs hl h1 _ ih =>
  simp only [Ab.frz,frzL_eq]
  refine .agg (by simpa using hl) h1 (fun j c hj=>?_)
  rw [List.getElem?_map] at hj
  cases hxj:cs[j]? with
  | none=>simp [hxj] at hj
  | some c'=>simp only [hxj,Option.map_some,Option.some.injEq] at hj; subst hj; exact ih j c' hxj
 | @tup cs vs hl _ ih =>
  simp only [Ab.frz,frzL_eq]
  refine .tup (by simpa using hl) (fun j c hj=>?_)
  rw [List.getElem?_map] at hj
  cases hxj:cs[j]? with
  | none=>simp [hxj] at hj
  | some c'=>simp only [hxj,Option.map_some,Option.some.injEq] at hj; subst hj; exact ih j c' hxj
theorem RepO.frz {w:World} {I I':Nat→Prop} (hI:∀ b,I b→I' b) {x:TV} {v:Value} {S:Nat→Prop} (h:RepO w I x v S):(∀ b,S b→I' b)→Rep w I' (frz x) v:=by
 induction h with
 | fr h=>intro _; exact (h.mv (fun _ _=>rfl) hI).frz
 | buf _ _=>intro _; exact .hole _
 | @sl size xs a cap S us vs ty F hS row hl hr hF hd ih =>
  intro hSI
  simp only [Ab.frz,frzLL_eq]
  have hlen:(xs.map fun x=>x.map Ab.frz).length=xs.length:=by simp
  have key:Rep w I' (.sl false size (xs.map fun x=>x.map Ab.frz)) (.slice (some a) (xs.map fun x=>x.map Ab.frz).length cap):=by
   refine .sl (fun k=>us.getD k undef) (fun _=>hSI _ hS) (by rw [hlen]; exact row.le) row.max (fun x hx=>?_) (fun k hk=>?_) (fun k hk=>?_) (fun i y hy j c hj=>?_)
   ·obtain ⟨y,hy,rfl⟩:=List.mem_map.1 hx
    simpa using hl y hy
   ·rw [hlen] at hk
    have:k < us.length:=by rw [row.len]; exact hk
    exact row.cell (by simp [List.getElem?_eq_getElem this])
   ·rw [hlen] at hk
    have:k < us.length:=by rw [row.len]; exact hk
    simp only [List.getD_eq_getElem?_getD,List.getElem?_eq_getElem this,Option.getD_some]
    exact row.one _ (List.getElem_mem this)
   ·rw [List.getElem?_map] at hy
    cases hxi:xs[i]? with
    | none=>simp [hxi] at hy
    | some x =>
     simp only [hxi,Option.map_some,Option.some.injEq] at hy
     subst hy
     rw [List.getElem?_map] at hj
     cases hxj:x[j]? with
     | none=>simp [hxj] at hj
     | some c' =>
      simp only [hxj,Option.map_some,Option.some.injEq] at hj
      subst hj
      exact ih _ c' (flat_get hl hxi hxj) (fun b hb=>hSI b (hF _ b hb).1)
  rwa [hlen] at key
 | @agg cs vs S F hl h1 hr hF hd ih =>
  intro hSI
  simp only [Ab.frz,frzL_eq]
  refine .agg (by simpa using hl) h1 (fun j c hj=>?_)
  rw [List.getElem?_map] at hj
  cases hxj:cs[j]? with
  | none=>simp [hxj] at hj
  | some c'=>simp only [hxj,Option.map_some,Option.some.injEq] at hj; subst hj; exact ih j c' hxj (fun b hb=>hSI b (hF j b hb))
 | @tup cs vs S F hl hr hF hd ih =>
  intro hSI
  simp only [Ab.frz,frzL_eq]
  refine .tup (by simpa using hl) (fun j c hj=>?_)
  rw [List.getElem?_map] at hj
  cases hxj:cs[j]? with
  | none=>simp [hxj] at hj
  | some c'=>simp only [hxj,Option.map_some,Option.some.injEq] at hj; subst hj; exact ih j c' hxj (fun b hb=>hSI b (hF j b hb))
theorem isOwnL_mem:∀ {l:List TV},isOwnL l=true→∀ x ∈ l,isOwn x=true
 | [],_,x,hx=>by simp at hx
 | y :: l,h,x,hx=>by
  simp only [isOwnL,Bool.and_eq_true] at h
  rcases List.mem_cons.1 hx with rfl | hx
  ·exact h.1
  ·exact isOwnL_mem h.2 x hx
theorem isOwnLL_mem:∀ {l:List (List TV)},isOwnLL l=true→∀ x ∈ l,isOwnL x=true
 | [],_,x,hx=>by simp at hx
 | y :: l,h,x,hx=>by
  simp only [isOwnLL,Bool.and_eq_true] at h
  rcases List.mem_cons.1 hx with rfl | hx
  ·exact h.1
  ·exact isOwnLL_mem h.2 x hx
theorem Rep.own {w:World} {I I':Nat→Prop} {x:TV} {v:Value} (h:Rep w I x v):isOwn x=true→Rep w I' x v:=by
 induction h with
 | lit v=>intro _; exact .lit v
 | hole v=>intro _; exact .hole v
 | buf e h=>intro _; exact .buf e h
 | sl=>intro h; simp [isOwn] at h
 | @agg cs vs hl h1 _ ih=>intro h; simp only [isOwn] at h; exact .agg hl h1 (fun j c hj=>ih j c hj (isOwnL_mem h c (List.mem_of_getElem? hj)))
 | @tup cs vs hl _ ih=>intro h; simp only [isOwn] at h; exact .tup hl (fun j c hj=>ih j c hj (isOwnL_mem h c (List.mem_of_getElem? hj)))
theorem RepO.own {w:World} {I I':Nat→Prop} {x:TV} {v:Value} {S:Nat→Prop} (h:RepO w I x v S):isOwn x=true→RepO w I' x v S:=by
 induction h with
 | fr h=>intro ho; exact .fr (h.own ho)
 | buf h hS=>intro _; exact .buf h hS
 | @sl size xs a cap S us vs ty F hS row hl hr hF hd ih =>
  intro ho
  simp only [isOwn,Bool.true_and] at ho
  refine .sl us vs ty F hS row hl (fun k c hk=>ih k c hk ?_) hF hd
  obtain ⟨x,hx,hc⟩:=List.mem_flatten.1 (List.mem_of_getElem? hk)
  exact isOwnL_mem (isOwnLL_mem ho x hx) c hc
 | @agg cs vs S F hl h1 hr hF hd ih=>intro ho; simp only [isOwn] at ho; exact .agg F hl h1 (fun j c hj=>ih j c hj (isOwnL_mem ho c (List.mem_of_getElem? hj))) hF hd
 | @tup cs vs S F hl hr hF hd ih=>intro ho; simp only [isOwn] at ho; exact .tup F hl (fun j c hj=>ih j c hj (isOwnL_mem ho c (List.mem_of_getElem? hj))) hF hd
end Go.Ab
end
section
namespace Go.Ab
open Go.RowKit
set_option linter.unusedVariables false
def TV.nd (x:TV):Option (Nat × Nat):=match x with | .sl _ s xs=>some (s,xs.length) | _=>none
def Node (w:World):Way→TV→Value→Value→Option (Nat × Nat)→Prop
 | [],x,u,v,nd=>v=u∧nd=x.nd
 | (k,j) :: p,x,u,v,nd=>∃ o s xs a n cap e y u',x=.sl o s xs∧u=.slice (some a) n cap∧xs[k]? = some e∧e[j]? = some y∧w.cell? (a.add (k * s + j))=some u'∧Node w p y u' v nd
section
variable {w w':World} {I I':Nat→Prop} {x y:TV} {u v:Value} {S:Nat→Prop}
theorem getD_some {l:List Value} {k:Nat} {u:Value} (h:l[k]? = some u):l.getD k undef=u:=by simp [h]
theorem RepO.child {o:Bool} {s:Nat} {xs:List (List TV)} (h:RepO w I (.sl o s xs) u S) {k j:Nat} {e:List TV} {y:TV} (hk:xs[k]? = some e) (hj:e[j]? = some y) :
  ∃ a cap u' S',u=.slice (some a) xs.length cap∧w.cell? (a.add (k * s + j))=some u'∧u'.oneCell'=true∧RepO w I y u' S'∧(∀ b,S' b→S b)∧(S a.block∨I a.block)∧e.length=s:=by
 have hlt:k < xs.length:=(List.getElem?_eq_some_iff.1 hk).1
 cases h with
 | fr h =>
  cases h with
  | @sl _ _ a cap cell hI hc hm hl hcell h1 hr =>
   have hel:=hl e (List.mem_of_getElem? hk)
   have hf:k * s + j < xs.length * s:=by
    have hj':=(List.getElem?_eq_some_iff.1 hj).1
    have:=Nat.mul_le_mul_right s (Nat.succ_le_of_lt hlt)
    rw [Nat.succ_mul] at this
    omega
   exact ⟨a,cap,_,fun _=>False,rfl,hcell _ hf,h1 _ hf,.fr (hr k e hk j y hj),fun _ h=>h.elim,.inr (hI (by omega)),hel⟩
 | @sl _ _ a cap S us vs ty F hS row hl hr hF hd =>
  have hel:=hl e (List.mem_of_getElem? hk)
  have hfg:=flat_get hl hk hj
  have hlt2:k * s + j < us.length:=by
   rw [row.len,← flat_len hl]
   exact (List.getElem?_eq_some_iff.1 hfg).1
  have hu:=List.getElem?_eq_getElem hlt2
  refine ⟨a,cap,us[k * s + j],F (k * s + j),rfl,row.cell hu,row.one _ (List.getElem_mem hlt2),?_,fun b hb=>(hF _ b hb).1,.inl hS,hel⟩
  have:=hr _ _ hfg
  rwa [getD_some hu] at this
theorem Node.mv:∀ {p:Way} {x:TV} {u v:Value} {nd:Option (Nat × Nat)} {S:Nat→Prop},RepO w I x u S→(∀ b,I b→w'.heap[b]? = w.heap[b]?)→(∀ b,S b→w'.heap[b]? = w.heap[b]?)→Node w p x u v nd→Node w' p x u v nd
 | [],x,u,v,nd,S,_,_,_,h=>h
 | (k,j) :: p,x,u,v,nd,S,hr,hI,hS,⟨o,s,xs,a,n,cap,e,y,u',hx,hu,he,hy,hc,h⟩=>by
  subst hx
  obtain ⟨a',cap',u2,S',h1,h2,h3,h4,h5,h6,h7⟩:=hr.child he hy
  rw [hu] at h1
  cases h1
  rw [hc] at h2
  cases h2
  refine ⟨o,s,xs,a,_,_,e,y,u',rfl,hu,he,hy,?_,Node.mv h4 hI (fun b hb=>hS b (h5 b hb)) h⟩
  rw [← hc]
  refine World.cell?_of_block ?_
  rw [add_block]
  rcases h6 with h6 | h6
  ·exact hS _ h6
  ·exact hI _ h6
theorem RepO.get:∀ {p:Way} {x y:TV} {u:Value} {S:Nat→Prop},RepO w I x u S→getP p x=some y→∃ v S',Node w p x u v y.nd∧RepO w I y v S'∧(∀ b,S' b→S b)∧(p≠[]→v.oneCell'=true)
 | [],x,y,u,S,hr,h=>by
  simp only [getP,Option.some.injEq] at h
  subst h
  exact ⟨u,S,⟨rfl,rfl⟩,hr,fun _ h=>h,fun h=>absurd rfl h⟩
 | (k, j) :: p, x, y, u, S, hr, h => by
  cases x with
  | sl o s xs =>
   simp only [getP] at h
   cases he:xs[k]? with
   | none=>simp [he] at h
   | some e =>
    simp only [he] at h
    cases hz:e[j]? with
    | none=>simp [hz] at h
    | some z =>
     simp only [hz] at h
     obtain ⟨a,cap,u',S1,h1,h2,h3,h4,h5,h6,h7⟩:=hr.child he hz
     obtain ⟨v,S2,n1,n2,n3,n4⟩:=RepO.get h4 h
     refine ⟨v,S2,⟨o,s,xs,a,_,cap,e,z,u',rfl,h1,he,hz,h2,n1⟩,n2,fun b hb=>h5 b (n3 b hb),fun _=>?_⟩
     cases p with
     | nil=>rw [n1.1]; exact h3
     | cons=>exact n4 (by simp)
  | _=>simp [getP] at h
theorem Node.unique:∀ {p:Way} {x:TV} {u v v':Value} {nd nd':Option (Nat × Nat)},Node w p x u v nd→Node w p x u v' nd'→v=v'∧nd=nd'
 | [],x,u,v,v',nd,nd',h,h'=>⟨h.1.trans h'.1.symm,h.2.trans h'.2.symm⟩
 | (k,j) :: p,x,u,v,v',nd,nd',⟨o,s,xs,a,n,cap,e,y,u',hx,hu,he,hy,hc,h⟩,⟨o2,s2,xs2,a2,n2,cap2,e2,y2,u2,hx2,hu2,he2,hy2,hc2,h2⟩=>by
  subst hx
  cases hx2
  subst hu
  cases hu2
  rw [he] at he2
  cases he2
  rw [hy] at hy2
  cases hy2
  rw [hc] at hc2
  cases hc2
  exact Node.unique h h2
theorem RepO.sub : ∀ {p : Way} {x y : TV} {u : Value} {S : Nat → Prop}, RepO w I x u S → getP p x = some y →
  ∃ v Sy, RepO w I y v Sy ∧ (∀ b, Sy b → S b) ∧ Node w p x u v y.nd ∧ (p ≠ [] → v.oneCell' = true) ∧
   ∀ (w':World) (I':Nat→Prop) (y' x':TV) (S':Nat→Prop),setP p x y'=some x'→(∀ b,I b→w'.heap[b]? = w.heap[b]?)→(∀ b,I b→I' b)→(∀ b,S b→¬ Sy b→w'.heap[b]? = w.heap[b]?) →
    RepO w' I' y' v S'→(∀ b,S' b→S b→Sy b)→RepO w' I' x' u (fun b=>(S b∧¬ Sy b)∨S' b) ∧
    ∀ (q:Way) (v':Value) (nd:Option (Nat × Nat)),(∀ q',q=p ++ q'→Node w q' y v v' nd→Node w' q' y' v v' nd)→Node w q x u v' nd→Node w' q x' u v' nd
 | [],x,y,u,S,hr,h=>by
  simp only [Ab.getP,Option.some.injEq] at h
  subst h
  refine ⟨u,S,hr,fun _ h=>h,⟨rfl,rfl⟩,fun h=>absurd rfl h,?_⟩
  intro w' I' y' x' S' hs hI hII hh hr' hd
  simp only [setP,Option.some.injEq] at hs
  subst hs
  exact ⟨hr'.mono (fun b hb=>.inr hb),fun q v' nd hq hn=>hq q rfl hn⟩
 | (k, j) :: p, x, y, u, S, hr, h => by
  cases x with
  | sl o s xs =>
   simp only [Ab.getP] at h
   cases he:xs[k]? with
   | none=>simp [he] at h
   | some e =>
    simp only [he] at h
    cases hz:e[j]? with
    | none=>simp [hz] at h
    | some z =>
     simp only [hz] at h
     cases o with
     | false =>
      obtain ⟨v,S',n1,n2,n3,n4⟩:=RepO.get (p:=(k,j) :: p) (y:=y) hr (by simp only [Ab.getP,he,hz,h])
      refine ⟨v,S',n2,n3,n1,n4,?_⟩
      intro w' I' y' x' S2 hs
      simp [setP] at hs
     | true =>
      cases hr with
      | fr h=>cases h
      | @sl _ _ a cap S us vs ty F hS row hl hr hF hd =>
       have hel:=hl e (List.mem_of_getElem? he)
       have hjl:j < e.length:=(List.getElem?_eq_some_iff.1 hz).1
       have hfg:=flat_get hl he hz
       have hlt2:k * s + j < us.length:=by
        rw [row.len,← flat_len hl]
        exact (List.getElem?_eq_some_iff.1 hfg).1
       have hu:=List.getElem?_eq_getElem hlt2
       have hrz:=hr _ _ hfg
       rw [getD_some hu] at hrz
       obtain ⟨v,Sy,m1,m2,m3,m4,m5⟩:=RepO.sub hrz h
       have hSyF:∀ b,Sy b→F (k * s + j) b:=m2
       refine ⟨v,Sy,m1,fun b hb=>(hF _ b (m2 b hb)).1,⟨true,s,xs,a,_,cap,e,z,us[k * s + j],rfl,rfl,he,hz,row.cell hu,m3⟩,fun _=>?_,?_⟩
       ·cases p with
        | nil=>rw [m3.1]; exact row.one _ (List.getElem_mem hlt2)
        | cons=>exact m4 (by simp)
       intro w' I' y' x' S' hs hI hII hh hr' hdis
       simp only [setP,he,hz] at hs
       cases hz':setP p z y' with
       | none=>simp [hz'] at hs
       | some z' =>
        simp only [hz',Option.some.injEq,setNth_eq] at hs
        subst hs
        have hablk:¬ Sy a.block:=fun hb=>(hF _ _ (m2 _ hb)).2 rfl
        obtain ⟨r1,r2⟩:=m5 w' I' y' z' S' hz' hI hII (fun b hb hn=>hh b (hF _ b hb).1 hn) hr' (fun b hb hb2=>hdis b hb (hF _ b hb2).1)
        have hset:e.set j z'=spl e j [z']:=by
         apply List.ext_getElem?
         intro m
         rw [spl_get (by simp; omega),List.getElem?_set]
         by_cases hjm:j=m
         ·subst hjm; simp [hjl]
         ·rw [if_neg hjm,if_neg (by simp; omega)]
        obtain ⟨f1,f2⟩:=flat_spl (ys:=[z']) hl he (by simp; omega:j + [z'].length≤e.length)
        have hlen:(xs.set k (e.set j z')).length=xs.length:=by simp
        have hrow:Row w' a (xs.set k (e.set j z')).length cap s us vs ty:=by
         rw [hlen]
         exact ⟨by rw [hh _ hS hablk]; exact row.heap,row.spot,row.le,row.max,row.fit,row.len,row.cells,row.one⟩
        have hother:∀ m c,m≠k * s + j→xs.flatten[m]? = some c→RepO w' I' c (us.getD m undef) (F m):=fun m c hm hc =>
         (hr m c hc).mv hI hII (fun b hb=>hh b (hF m b hb).1 (fun hs=>hm (hd m _ b hb (m2 b hs)))) (fun _ h=>h)
        constructor
        ·have key:RepO w' I' (.sl true s (xs.set k (e.set j z'))) (.slice (some a) (xs.set k (e.set j z')).length cap) (fun b=>(S b∧¬ Sy b)∨S' b):=by
          refine .sl us vs ty (fun m b=>if m=k * s + j then (F (k * s + j) b∧¬ Sy b)∨S' b else F m b) (.inl ⟨hS,hablk⟩) hrow (set_all hl (by simp [hel])) (fun m c hc=>?_) (fun m b hb=>?_) (fun m m' b hb hb'=>?_)
          ·rw [hset,f1,spl_get f2] at hc
           by_cases hm:m=k * s + j
           ·subst hm
            simp only [List.length_singleton,Nat.sub_self] at hc
            rw [if_pos (by omega)] at hc
            simp only [List.getElem?_cons_zero,Option.some.injEq] at hc
            subst hc
            simp only [if_true]
            rw [getD_some hu]
            exact r1
           ·rw [if_neg (by simp only [List.length_singleton]; omega)] at hc
            simp only [hm,if_false]
            exact hother m c hm hc
          ·by_cases hm:m=k * s + j
           ·subst hm
            simp only [if_true] at hb
            rcases hb with ⟨h1,h2⟩ | h1
            ·exact ⟨.inl ⟨(hF _ b h1).1,h2⟩,(hF _ b h1).2⟩
            ·exact ⟨.inr h1,fun e=>by subst e; exact hablk (hdis _ h1 hS)⟩
           ·simp only [hm,if_false] at hb
            exact ⟨.inl ⟨(hF _ b hb).1,fun hs=>hm (hd _ _ b hb (m2 b hs))⟩,(hF _ b hb).2⟩
          ·by_cases hm:m=k * s + j <;> by_cases hm':m'=k * s + j
           ·rw [hm,hm']
           ·simp only [hm,hm',if_true,if_false] at hb hb'
            rcases hb with ⟨h1,h2⟩ | h1
            ·exact hm ▸ hd _ _ b h1 hb'
            ·exact hm ▸ hd _ _ b (m2 b (hdis b h1 (hF _ b hb').1)) hb'
           ·simp only [hm,hm',if_true,if_false] at hb hb'
            rcases hb' with ⟨h1,h2⟩ | h1
            ·exact hm' ▸ hd _ _ b hb h1
            ·exact hm' ▸ hd _ _ b hb (m2 b (hdis b h1 (hF _ b hb).1))
           ·simp only [hm,hm',if_false] at hb hb'
            exact hd _ _ b hb hb'
         rwa [hlen] at key
        ·intro q v' nd hq hn
         cases q with
         | nil =>
          obtain ⟨e1,e2⟩:=hn
          exact ⟨e1,by rw [e2]; simp [TV.nd]⟩
         | cons kj q =>
          obtain ⟨k1,j1⟩:=kj
          obtain ⟨o2,s2,xs2,a2,n2,cap2,e2,y2,u2,hx2,hu2,he2,hy2,hc2,hn2⟩:=hn
          cases hx2
          cases hu2
          have hblk:∀ m,w'.cell? (a.add m)=w.cell? (a.add m):=fun m=>World.cell?_of_block (by rw [add_block]; exact hh _ hS hablk)
          by_cases hk1:k1=k
          ·subst hk1
           rw [he] at he2
           cases he2
           have hk2:k1 < xs.length:=(List.getElem?_eq_some_iff.1 he).1
           by_cases hj1:j1=j
           ·subst hj1
            rw [hz] at hy2
            cases hy2
            have:u2=us[k1 * s + j1]:=by rw [row.cell hu] at hc2; exact (Option.some.inj hc2).symm
            subst this
            refine ⟨true,s,_,a,_,cap,e.set j1 z',z',us[k1 * s + j1],rfl,rfl,by rw [List.getElem?_set_self hk2],by rw [List.getElem?_set_self hjl],by rw [hblk]; exact hc2,?_⟩
            exact r2 q v' nd (fun q' hq'=>hq q' (by rw [hq']; rfl)) hn2
           ·refine ⟨true,s,_,a,_,cap,e.set j z',y2,u2,rfl,rfl,by rw [List.getElem?_set_self hk2],by rw [List.getElem?_set_ne (fun h=>hj1 h.symm)]; exact hy2,by rw [hblk]; exact hc2,?_⟩
            have hfg2:=flat_get hl he hy2
            have hm:k1 * s + j1≠k1 * s + j:=by omega
            have hr2:=hr _ _ hfg2
            have hlt3:k1 * s + j1 < us.length:=by rw [row.len,← flat_len hl]; exact (List.getElem?_eq_some_iff.1 hfg2).1
            rw [getD_some (List.getElem?_eq_getElem hlt3)] at hr2
            have:u2=us[k1 * s + j1]:=by rw [row.cell (List.getElem?_eq_getElem hlt3)] at hc2; exact (Option.some.inj hc2).symm
            subst this
            exact Node.mv hr2 hI (fun b hb=>hh b (hF _ b hb).1 (fun hs=>hm (hd _ _ b hb (m2 b hs)))) hn2
          ·refine ⟨true,s,_,a,_,cap,e2,y2,u2,rfl,rfl,by rw [List.getElem?_set_ne (fun h=>hk1 h.symm)]; exact he2,hy2,by rw [hblk]; exact hc2,?_⟩
           have hfg2:=flat_get hl he2 hy2
           have hel2:=hl e2 (List.mem_of_getElem? he2)
           have hj2:j1 < e2.length:=(List.getElem?_eq_some_iff.1 hy2).1
           have hm:k1 * s + j1≠k * s + j:=by
            intro heq
            rcases Nat.lt_or_gt_of_ne hk1 with h' | h'
            ·have:=Nat.mul_le_mul_right s (Nat.succ_le_of_lt h')
             rw [Nat.succ_mul] at this
             omega
            ·have:=Nat.mul_le_mul_right s (Nat.succ_le_of_lt h')
             rw [Nat.succ_mul] at this
             omega
           have hr2:=hr _ _ hfg2
           have hlt3:k1 * s + j1 < us.length:=by rw [row.len,← flat_len hl]; exact (List.getElem?_eq_some_iff.1 hfg2).1
           rw [getD_some (List.getElem?_eq_getElem hlt3)] at hr2
           have:u2=us[k1 * s + j1]:=by rw [row.cell (List.getElem?_eq_getElem hlt3)] at hc2; exact (Option.some.inj hc2).symm
           subst this
           exact Node.mv hr2 hI (fun b hb=>hh b (hF _ b hb).1 (fun hs=>hm (hd _ _ b hb (m2 b hs)))) hn2
  | _=>simp [Ab.getP] at h
end
end Go.Ab
end

import Derived.Test.YtaokcbfenabbgaaDoorHS13F194
import Derived.Test.YtaokcbfenabbgaaDoorHM2
import Derived.Test.YtaokcbfenabbgaaDoorHS13F27
import Derived.Test.YtaokcbfenabbgaaDoorHS13F193
import Derived.Test.YtaokcbfenabbgaaDoorHF1
set_option linter.all false
section
set_option maxRecDepth 20000
namespace Go.Ab
theorem jb {l:List Int} (h:∀ n,n ∈ l->0<=n/\n<=65535) (i:Nat):0<=l.getD i 0/\l.getD i 0<=65535:=by
 rw [DH]
 cases hi:l[i]? with
 | none=>simp
 | some a=>exact h a (DC hi)
theorem mkI_ok {k:Int} (hk:0<=k/\k<=13) {l:List Int} (h:∀ n,n ∈ l->0<=n/\n<=65535):(mkI k l).ok:=by
 have g0:=jb h 0
 have g1:=jb h 1
 have g2:=jb h 2
 unfold mkI DIns.ok inI inW
 repeat' split
 all_goals (dsimp only; refine ⟨⟨?_,?_⟩,⟨?_,?_⟩,⟨?_,?_⟩,⟨?_,?_⟩,⟨?_,?_⟩,⟨?_,?_⟩⟩ <;> omega)
theorem mkE_ok {k:Int} (hk:0<=k/\k<=6) {l:List Int} (h:∀ n,n ∈ l->0<=n/\n<=65535):(mkE k l).ok:=by
 have g0:=jb h 0
 have g1:=jb h 1
 have g2:=jb h 2
 have g3:=jb h 3
 unfold mkE DEnd.ok inI
 repeat' split
 all_goals (dsimp only; refine ⟨⟨?_,?_⟩,⟨?_,?_⟩,⟨?_,?_⟩,⟨?_,?_⟩,⟨?_,?_⟩,⟨?_,?_⟩,⟨?_,?_⟩⟩ <;> omega)
theorem CM (ts:List (List UInt8)) (j:Nat):(if j < ts.length then puV (ts.getD j []) else 0)=(ts.map puV).getD j 0:=by
 split
 ·rename_i h
  rw [DH,DH,Dz,Du h]
  rfl
 ·rename_i h
  rw [DH,DF (by rw [List.length_map]; omega)]
  rfl
end Go.Ab
namespace Go.Ab.S13
open Go Go.Ab Go.Proofs
theorem rInsOf {q:Option Bool} {ws:TV} {ts:List (List UInt8)} (hx:RStrs q ws ts) (hl:ts.length<=1000000) (hs:∀ t,t ∈ ts->t.length<=4000000000) {k:Int} (hk:0<=k/\k<=13) :
  ∃ e,aC prog 15 [I k,ws] (.agg e)/\RIns (some true) e (mkI k (ts.map puV)):=by
 have hok:(mkI k (ts.map puV)).ok:=mkI_ok hk fun n hn=>by
  obtain ⟨t,_,rfl⟩:=List.mem_map.1 hn
  exact c8 t
 obtain ⟨w0,g0,p0⟩:=lI0 hx hl hs (op:=k)
 obtain ⟨w2,g2,p2⟩:=lI2 hx hl hs (op:=k)
 obtain ⟨w4,g4,p4⟩:=lI4 hx hl hs (op:=k)
 obtain ⟨w5,g5,p5⟩:=lI5 hx hl hs (op:=k)
 obtain ⟨w6,g6,p6⟩:=lI6 hx hl hs (op:=k)
 obtain ⟨w7,g7,p7⟩:=lI7 hx hl hs (op:=k)
 obtain ⟨w8,g8,p8⟩:=lI8 hx hl hs (op:=k)
 simp only [xJ,CM] at p0 p2 p4 p5 p6 p7 p8
 rcases (by omega:k=0\/k=1\/k=2\/k=3\/k=4\/k=5\/k=6\/k=7\/k=8\/k=9\/k=10\/k=11\/k=12\/k=13) with rfl | rfl | rfl | rfl | rfl | rfl | rfl | rfl | rfl | rfl | rfl | rfl | rfl | rfl
 ·have hr:aa prog 15 (f15_M (I 0) ws) (.agg [I 0,I 0,I 0,I 0,W 0,I 0,.lit aj]):=by
   unfold f15_M
   refine aa.chk rfl ?_
   refine aa.tv rfl (aa.ite (v:=false) rfl nofun fun _=>?_)
   refine aa.tv rfl (aa.ite (v:=false) rfl nofun fun _=>?_)
   refine aa.tv rfl (f15_1_J ?_)
   unfold f15_1
   refine aa.ite (v:=false) rfl nofun fun _=>?_
   refine aa.tv rfl (aa.ite (v:=false) rfl nofun fun _=>?_)
   refine aa.tv rfl (aa.ite (v:=false) rfl nofun fun _=>?_)
   refine aa.tv rfl (aa.ite (v:=false) rfl nofun fun _=>?_)
   refine aa.tv rfl (aa.ite (v:=false) rfl nofun fun _=>?_)
   refine aa.tv rfl (aa.ite (v:=false) rfl nofun fun _=>?_)
   refine aa.tv rfl (f15_3_J ?_)
   unfold f15_3
   refine aa.ite (v:=false) rfl nofun fun _=>?_
   refine aa.tv rfl (aa.ite (v:=false) rfl nofun fun _=>?_)
   refine aa.tv rfl (aa.ite (v:=false) rfl nofun fun _=>?_)
   refine aa.tv rfl (aa.ite (v:=false) rfl nofun fun _=>?_)
   refine aa.tv rfl (aa.ite (v:=false) rfl nofun fun _=>?_)
   exact aa.chk rfl aa.ret
  exact ⟨_,aC.of (f15_MR _ _) hr,_,rfl,RL.nil,hok⟩
 ·have hr:aa prog 15 (f15_M (I 1) ws) (.agg [I 1,I ((ts.map puV).getD 0 0),I 0,I 0,W ((ts.map puV).getD 1 0),I 0,.lit aj]):=by
   unfold f15_M
   refine aa.chk rfl ?_
   refine aa.tv rfl (aa.ite (v:=true) rfl (fun _=>?_) nofun)
   exact aa.tv hx.len (aa.chk rfl (f15_0_J p0))
  exact ⟨_,aC.of (f15_MR _ _) hr,_,rfl,RL.nil,hok⟩
 ·have hr:aa prog 15 (f15_M (I 2) ws) (.agg [I 2,I ((ts.map puV).getD 0 0),I ((ts.map puV).getD 1 0),I 0,W 0,I 0,.lit aj]):=by
   unfold f15_M
   refine aa.chk rfl ?_
   refine aa.tv rfl (aa.ite (v:=false) rfl nofun fun _=>?_)
   refine aa.tv rfl (aa.ite (v:=true) rfl (fun _=>?_) nofun)
   refine f15_1_J ?_
   unfold f15_1
   refine aa.ite (v:=true) rfl (fun _=>?_) nofun
   exact aa.tv hx.len (aa.chk rfl (f15_2_J p2))
  exact ⟨_,aC.of (f15_MR _ _) hr,_,rfl,RL.nil,hok⟩
 ·have hr:aa prog 15 (f15_M (I 3) ws) (.agg [I 3,I ((ts.map puV).getD 0 0),I ((ts.map puV).getD 1 0),I ((ts.map puV).getD 2 0),W 0,I 0,.lit aj]):=by
   unfold f15_M
   refine aa.chk rfl ?_
   refine aa.tv rfl (aa.ite (v:=false) rfl nofun fun _=>?_)
   refine aa.tv rfl (aa.ite (v:=false) rfl nofun fun _=>?_)
   refine aa.tv rfl (f15_1_J ?_)
   unfold f15_1
   refine aa.ite (v:=false) rfl nofun fun _=>?_
   refine aa.tv rfl (aa.ite (v:=true) rfl (fun _=>?_) nofun)
   refine f15_3_J ?_
   unfold f15_3
   refine aa.ite (v:=true) rfl (fun _=>?_) nofun
   exact aa.tv hx.len (aa.chk rfl (f15_4_J p4))
  exact ⟨_,aC.of (f15_MR _ _) hr,_,rfl,RL.nil,hok⟩
 ·have hr:aa prog 15 (f15_M (I 4) ws) (.agg [I 4,I ((ts.map puV).getD 0 0),I ((ts.map puV).getD 1 0),I ((ts.map puV).getD 2 0),W 0,I 0,.lit aj]):=by
   unfold f15_M
   refine aa.chk rfl ?_
   refine aa.tv rfl (aa.ite (v:=false) rfl nofun fun _=>?_)
   refine aa.tv rfl (aa.ite (v:=false) rfl nofun fun _=>?_)
   refine aa.tv rfl (f15_1_J ?_)
   unfold f15_1
   refine aa.ite (v:=false) rfl nofun fun _=>?_
   refine aa.tv rfl (aa.ite (v:=false) rfl nofun fun _=>?_)
   refine aa.tv rfl (aa.ite (v:=true) rfl (fun _=>?_) nofun)
   refine f15_3_J ?_
   unfold f15_3
   refine aa.ite (v:=true) rfl (fun _=>?_) nofun
   exact aa.tv hx.len (aa.chk rfl (f15_4_J p4))
  exact ⟨_,aC.of (f15_MR _ _) hr,_,rfl,RL.nil,hok⟩
 ·have hr:aa prog 15 (f15_M (I 5) ws) (.agg [I 5,I ((ts.map puV).getD 0 0),I ((ts.map puV).getD 1 0),I ((ts.map puV).getD 2 0),W 0,I 0,.lit aj]):=by
   unfold f15_M
   refine aa.chk rfl ?_
   refine aa.tv rfl (aa.ite (v:=false) rfl nofun fun _=>?_)
   refine aa.tv rfl (aa.ite (v:=false) rfl nofun fun _=>?_)
   refine aa.tv rfl (f15_1_J ?_)
   unfold f15_1
   refine aa.ite (v:=false) rfl nofun fun _=>?_
   refine aa.tv rfl (aa.ite (v:=false) rfl nofun fun _=>?_)
   refine aa.tv rfl (aa.ite (v:=false) rfl nofun fun _=>?_)
   refine aa.tv rfl (aa.ite (v:=true) rfl (fun _=>?_) nofun)
   refine f15_3_J ?_
   unfold f15_3
   refine aa.ite (v:=true) rfl (fun _=>?_) nofun
   exact aa.tv hx.len (aa.chk rfl (f15_4_J p4))
  exact ⟨_,aC.of (f15_MR _ _) hr,_,rfl,RL.nil,hok⟩
 ·have hr:aa prog 15 (f15_M (I 6) ws) (.agg [I 6,I ((ts.map puV).getD 0 0),I ((ts.map puV).getD 1 0),I ((ts.map puV).getD 2 0),W 0,I 0,.lit aj]):=by
   unfold f15_M
   refine aa.chk rfl ?_
   refine aa.tv rfl (aa.ite (v:=false) rfl nofun fun _=>?_)
   refine aa.tv rfl (aa.ite (v:=false) rfl nofun fun _=>?_)
   refine aa.tv rfl (f15_1_J ?_)
   unfold f15_1
   refine aa.ite (v:=false) rfl nofun fun _=>?_
   refine aa.tv rfl (aa.ite (v:=false) rfl nofun fun _=>?_)
   refine aa.tv rfl (aa.ite (v:=false) rfl nofun fun _=>?_)
   refine aa.tv rfl (aa.ite (v:=false) rfl nofun fun _=>?_)
   refine aa.tv rfl (aa.ite (v:=true) rfl (fun _=>?_) nofun)
   refine f15_3_J ?_
   unfold f15_3
   refine aa.ite (v:=true) rfl (fun _=>?_) nofun
   exact aa.tv hx.len (aa.chk rfl (f15_4_J p4))
  exact ⟨_,aC.of (f15_MR _ _) hr,_,rfl,RL.nil,hok⟩
 ·have hr:aa prog 15 (f15_M (I 7) ws) (.agg [I 7,I ((ts.map puV).getD 0 0),I ((ts.map puV).getD 1 0),I ((ts.map puV).getD 2 0),W 0,I 0,.lit aj]):=by
   unfold f15_M
   refine aa.chk rfl ?_
   refine aa.tv rfl (aa.ite (v:=false) rfl nofun fun _=>?_)
   refine aa.tv rfl (aa.ite (v:=false) rfl nofun fun _=>?_)
   refine aa.tv rfl (f15_1_J ?_)
   unfold f15_1
   refine aa.ite (v:=false) rfl nofun fun _=>?_
   refine aa.tv rfl (aa.ite (v:=false) rfl nofun fun _=>?_)
   refine aa.tv rfl (aa.ite (v:=false) rfl nofun fun _=>?_)
   refine aa.tv rfl (aa.ite (v:=false) rfl nofun fun _=>?_)
   refine aa.tv rfl (aa.ite (v:=false) rfl nofun fun _=>?_)
   refine aa.tv rfl (aa.ite (v:=true) rfl (fun _=>?_) nofun)
   refine f15_3_J ?_
   unfold f15_3
   refine aa.ite (v:=true) rfl (fun _=>?_) nofun
   exact aa.tv hx.len (aa.chk rfl (f15_4_J p4))
  exact ⟨_,aC.of (f15_MR _ _) hr,_,rfl,RL.nil,hok⟩
 ·have hr:aa prog 15 (f15_M (I 8) ws) (.agg [I 8,I ((ts.map puV).getD 0 0),I ((ts.map puV).getD 1 0),I ((ts.map puV).getD 2 0),W 0,I 0,.lit aj]):=by
   unfold f15_M
   refine aa.chk rfl ?_
   refine aa.tv rfl (aa.ite (v:=false) rfl nofun fun _=>?_)
   refine aa.tv rfl (aa.ite (v:=false) rfl nofun fun _=>?_)
   refine aa.tv rfl (f15_1_J ?_)
   unfold f15_1
   refine aa.ite (v:=false) rfl nofun fun _=>?_
   refine aa.tv rfl (aa.ite (v:=false) rfl nofun fun _=>?_)
   refine aa.tv rfl (aa.ite (v:=false) rfl nofun fun _=>?_)
   refine aa.tv rfl (aa.ite (v:=false) rfl nofun fun _=>?_)
   refine aa.tv rfl (aa.ite (v:=false) rfl nofun fun _=>?_)
   refine aa.tv rfl (aa.ite (v:=false) rfl nofun fun _=>?_)
   refine aa.tv rfl (f15_3_J ?_)
   unfold f15_3
   refine aa.ite (v:=true) rfl (fun _=>?_) nofun
   exact aa.tv hx.len (aa.chk rfl (f15_4_J p4))
  exact ⟨_,aC.of (f15_MR _ _) hr,_,rfl,RL.nil,hok⟩
 ·have hr:aa prog 15 (f15_M (I 9) ws) (.agg [I 9,I ((ts.map puV).getD 0 0),I ((ts.map puV).getD 1 0),I 0,W 0,I 0,.lit aj]):=by
   unfold f15_M
   refine aa.chk rfl ?_
   refine aa.tv rfl (aa.ite (v:=false) rfl nofun fun _=>?_)
   refine aa.tv rfl (aa.ite (v:=false) rfl nofun fun _=>?_)
   refine aa.tv rfl (f15_1_J ?_)
   unfold f15_1
   refine aa.ite (v:=true) rfl (fun _=>?_) nofun
   exact aa.tv hx.len (aa.chk rfl (f15_2_J p2))
  exact ⟨_,aC.of (f15_MR _ _) hr,_,rfl,RL.nil,hok⟩
 ·have hr:aa prog 15 (f15_M (I 10) ws) (.agg [I 10,I 0,I ((ts.map puV).getD 0 0),I ((ts.map puV).getD 1 0),W 0,I 0,.lit aj]):=by
   unfold f15_M
   refine aa.chk rfl ?_
   refine aa.tv rfl (aa.ite (v:=false) rfl nofun fun _=>?_)
   refine aa.tv rfl (aa.ite (v:=false) rfl nofun fun _=>?_)
   refine aa.tv rfl (f15_1_J ?_)
   unfold f15_1
   refine aa.ite (v:=false) rfl nofun fun _=>?_
   refine aa.tv rfl (aa.ite (v:=false) rfl nofun fun _=>?_)
   refine aa.tv rfl (aa.ite (v:=false) rfl nofun fun _=>?_)
   refine aa.tv rfl (aa.ite (v:=false) rfl nofun fun _=>?_)
   refine aa.tv rfl (aa.ite (v:=false) rfl nofun fun _=>?_)
   refine aa.tv rfl (aa.ite (v:=false) rfl nofun fun _=>?_)
   refine aa.tv rfl (f15_3_J ?_)
   unfold f15_3
   refine aa.ite (v:=false) rfl nofun fun _=>?_
   refine aa.tv rfl (aa.ite (v:=true) rfl (fun _=>?_) nofun)
   exact aa.tv hx.len (aa.chk rfl (f15_5_J p5))
  exact ⟨_,aC.of (f15_MR _ _) hr,_,rfl,RL.nil,hok⟩
 ·have hr:aa prog 15 (f15_M (I 11) ws) (.agg [I 11,I ((ts.map puV).getD 0 0),I 0,I 0,W 0,I ((ts.map puV).getD 1 0),w6]):=by
   unfold f15_M
   refine aa.chk rfl ?_
   refine aa.tv rfl (aa.ite (v:=false) rfl nofun fun _=>?_)
   refine aa.tv rfl (aa.ite (v:=false) rfl nofun fun _=>?_)
   refine aa.tv rfl (f15_1_J ?_)
   unfold f15_1
   refine aa.ite (v:=false) rfl nofun fun _=>?_
   refine aa.tv rfl (aa.ite (v:=false) rfl nofun fun _=>?_)
   refine aa.tv rfl (aa.ite (v:=false) rfl nofun fun _=>?_)
   refine aa.tv rfl (aa.ite (v:=false) rfl nofun fun _=>?_)
   refine aa.tv rfl (aa.ite (v:=false) rfl nofun fun _=>?_)
   refine aa.tv rfl (aa.ite (v:=false) rfl nofun fun _=>?_)
   refine aa.tv rfl (f15_3_J ?_)
   unfold f15_3
   refine aa.ite (v:=false) rfl nofun fun _=>?_
   refine aa.tv rfl (aa.ite (v:=false) rfl nofun fun _=>?_)
   refine aa.tv rfl (aa.ite (v:=true) rfl (fun _=>?_) nofun)
   exact aa.tv hx.len (aa.chk rfl (f15_6_J p6))
  exact ⟨_,aC.of (f15_MR _ _) hr,_,rfl,(by show RInts _ w6 ((ts.map puV).drop 2); rw [<- List.map_drop]; exact g6),hok⟩
 ·have hr:aa prog 15 (f15_M (I 12) ws) (.agg [I 12,I 0,I ((ts.map puV).getD 0 0),I 0,W 0,I 0,.lit aj]):=by
   unfold f15_M
   refine aa.chk rfl ?_
   refine aa.tv rfl (aa.ite (v:=false) rfl nofun fun _=>?_)
   refine aa.tv rfl (aa.ite (v:=false) rfl nofun fun _=>?_)
   refine aa.tv rfl (f15_1_J ?_)
   unfold f15_1
   refine aa.ite (v:=false) rfl nofun fun _=>?_
   refine aa.tv rfl (aa.ite (v:=false) rfl nofun fun _=>?_)
   refine aa.tv rfl (aa.ite (v:=false) rfl nofun fun _=>?_)
   refine aa.tv rfl (aa.ite (v:=false) rfl nofun fun _=>?_)
   refine aa.tv rfl (aa.ite (v:=false) rfl nofun fun _=>?_)
   refine aa.tv rfl (aa.ite (v:=false) rfl nofun fun _=>?_)
   refine aa.tv rfl (f15_3_J ?_)
   unfold f15_3
   refine aa.ite (v:=false) rfl nofun fun _=>?_
   refine aa.tv rfl (aa.ite (v:=false) rfl nofun fun _=>?_)
   refine aa.tv rfl (aa.ite (v:=false) rfl nofun fun _=>?_)
   refine aa.tv rfl (aa.ite (v:=true) rfl (fun _=>?_) nofun)
   exact aa.tv hx.len (aa.chk rfl (f15_7_J p7))
  exact ⟨_,aC.of (f15_MR _ _) hr,_,rfl,RL.nil,hok⟩
 ·have hr:aa prog 15 (f15_M (I 13) ws) (.agg [I 13,I ((ts.map puV).getD 0 0),I 0,I 0,W 0,I 0,.lit aj]):=by
   unfold f15_M
   refine aa.chk rfl ?_
   refine aa.tv rfl (aa.ite (v:=false) rfl nofun fun _=>?_)
   refine aa.tv rfl (aa.ite (v:=false) rfl nofun fun _=>?_)
   refine aa.tv rfl (f15_1_J ?_)
   unfold f15_1
   refine aa.ite (v:=false) rfl nofun fun _=>?_
   refine aa.tv rfl (aa.ite (v:=false) rfl nofun fun _=>?_)
   refine aa.tv rfl (aa.ite (v:=false) rfl nofun fun _=>?_)
   refine aa.tv rfl (aa.ite (v:=false) rfl nofun fun _=>?_)
   refine aa.tv rfl (aa.ite (v:=false) rfl nofun fun _=>?_)
   refine aa.tv rfl (aa.ite (v:=false) rfl nofun fun _=>?_)
   refine aa.tv rfl (f15_3_J ?_)
   unfold f15_3
   refine aa.ite (v:=false) rfl nofun fun _=>?_
   refine aa.tv rfl (aa.ite (v:=false) rfl nofun fun _=>?_)
   refine aa.tv rfl (aa.ite (v:=false) rfl nofun fun _=>?_)
   refine aa.tv rfl (aa.ite (v:=false) rfl nofun fun _=>?_)
   refine aa.tv rfl (aa.ite (v:=true) rfl (fun _=>?_) nofun)
   exact aa.tv hx.len (aa.chk rfl (f15_8_J p8))
  exact ⟨_,aC.of (f15_MR _ _) hr,_,rfl,RL.nil,hok⟩
theorem rEndOf {q:Option Bool} {ws:TV} {ts:List (List UInt8)} (hx:RStrs q ws ts) (hl:ts.length<=1000000) (hs:∀ t,t ∈ ts->t.length<=4000000000) {k:Int} (hk:0<=k/\k<=6) :
  ∃ e,aC prog 17 [I k,ws] (.agg e)/\REnd (some true) e (mkE k (ts.map puV)):=by
 have hok:(mkE k (ts.map puV)).ok:=mkE_ok hk fun n hn=>by
  obtain ⟨t,_,rfl⟩:=List.mem_map.1 hn
  exact c8 t
 obtain ⟨w1,g1,p1⟩:=lE1 hx hl hs (op:=k)
 obtain ⟨w2,g2,p2⟩:=lE2 hx hl hs (op:=k)
 obtain ⟨w3,g3,p3⟩:=lE3 hx hl hs (op:=k)
 obtain ⟨w4,g4,p4⟩:=lE4 hx hl hs (op:=k)
 simp only [xJ] at p1 p2 p3 p4
 rcases (by omega:k=0\/k=1\/k=2\/k=3\/k=4\/k=5\/k=6) with rfl | rfl | rfl | rfl | rfl | rfl | rfl
 ·have hr:aa prog 17 (f17_M (I 0) ws) (.agg [I 0,I 0,I 0,I 0,.lit aj,I 0,I 0,I 0]):=by
   unfold f17_M
   refine aa.chk rfl ?_
   refine aa.tv rfl (aa.ite (v:=false) rfl nofun fun _=>?_)
   refine aa.tv rfl (f17_0_J ?_)
   unfold f17_0
   refine aa.ite (v:=false) rfl nofun fun _=>?_
   refine aa.tv rfl (aa.ite (v:=false) rfl nofun fun _=>?_)
   refine aa.tv rfl (aa.ite (v:=false) rfl nofun fun _=>?_)
   refine aa.tv rfl (aa.ite (v:=false) rfl nofun fun _=>?_)
   exact aa.chk rfl aa.ret
  exact ⟨_,aC.of (f17_MR _ _) hr,_,rfl,RL.nil,hok⟩
 ·have hr:aa prog 17 (f17_M (I 1) ws) (.agg [I 1,I ((ts.map puV).getD 0 0),I 0,I 0,.lit aj,I 0,I 0,I 0]):=by
   unfold f17_M
   refine aa.chk rfl ?_
   refine aa.tv rfl (aa.ite (v:=true) rfl (fun _=>?_) nofun)
   refine f17_0_J ?_
   unfold f17_0
   refine aa.ite (v:=true) rfl (fun _=>?_) nofun
   exact aa.tv hx.len (aa.chk rfl (f17_1_J p1))
  exact ⟨_,aC.of (f17_MR _ _) hr,_,rfl,RL.nil,hok⟩
 ·have hr:aa prog 17 (f17_M (I 2) ws) (.agg [I 2,I 0,I 0,I 0,.lit aj,I ((ts.map puV).getD 0 0),I 0,I 0]):=by
   unfold f17_M
   refine aa.chk rfl ?_
   refine aa.tv rfl (aa.ite (v:=false) rfl nofun fun _=>?_)
   refine aa.tv rfl (f17_0_J ?_)
   unfold f17_0
   refine aa.ite (v:=false) rfl nofun fun _=>?_
   refine aa.tv rfl (aa.ite (v:=true) rfl (fun _=>?_) nofun)
   exact aa.tv hx.len (aa.chk rfl (f17_2_J p2))
  exact ⟨_,aC.of (f17_MR _ _) hr,_,rfl,RL.nil,hok⟩
 ·have hr:aa prog 17 (f17_M (I 3) ws) (.agg [I 3,I ((ts.map puV).getD 0 0),I 0,I 0,.lit aj,I ((ts.map puV).getD 1 0),I ((ts.map puV).getD 2 0),I 0]):=by
   unfold f17_M
   refine aa.chk rfl ?_
   refine aa.tv rfl (aa.ite (v:=false) rfl nofun fun _=>?_)
   refine aa.tv rfl (f17_0_J ?_)
   unfold f17_0
   refine aa.ite (v:=false) rfl nofun fun _=>?_
   refine aa.tv rfl (aa.ite (v:=false) rfl nofun fun _=>?_)
   refine aa.tv rfl (aa.ite (v:=true) rfl (fun _=>?_) nofun)
   exact aa.tv hx.len (aa.chk rfl (f17_3_J p3))
  exact ⟨_,aC.of (f17_MR _ _) hr,_,rfl,RL.nil,hok⟩
 ·have hr:aa prog 17 (f17_M (I 4) ws) (.agg [I 4,I 0,I ((ts.map puV).getD 0 0),I ((ts.map puV).getD 1 0),w4,I ((ts.map puV).getD 2 0),I 0,I ((ts.map puV).getD 3 0)]):=by
   unfold f17_M
   refine aa.chk rfl ?_
   refine aa.tv rfl (aa.ite (v:=false) rfl nofun fun _=>?_)
   refine aa.tv rfl (f17_0_J ?_)
   unfold f17_0
   refine aa.ite (v:=false) rfl nofun fun _=>?_
   refine aa.tv rfl (aa.ite (v:=false) rfl nofun fun _=>?_)
   refine aa.tv rfl (aa.ite (v:=false) rfl nofun fun _=>?_)
   refine aa.tv rfl (aa.ite (v:=true) rfl (fun _=>?_) nofun)
   exact aa.tv hx.len (aa.chk rfl (f17_4_J p4))
  exact ⟨_,aC.of (f17_MR _ _) hr,_,rfl,(by show RInts _ w4 ((ts.map puV).drop 4); rw [<- List.map_drop]; exact g4),hok⟩
 ·have hr:aa prog 17 (f17_M (I 5) ws) (.agg [I 5,I ((ts.map puV).getD 0 0),I 0,I 0,.lit aj,I 0,I 0,I 0]):=by
   unfold f17_M
   refine aa.chk rfl ?_
   refine aa.tv rfl (aa.ite (v:=false) rfl nofun fun _=>?_)
   refine aa.tv rfl (f17_0_J ?_)
   unfold f17_0
   refine aa.ite (v:=true) rfl (fun _=>?_) nofun
   exact aa.tv hx.len (aa.chk rfl (f17_1_J p1))
  exact ⟨_,aC.of (f17_MR _ _) hr,_,rfl,RL.nil,hok⟩
 ·have hr:aa prog 17 (f17_M (I 6) ws) (.agg [I 6,I 0,I 0,I 0,.lit aj,I 0,I 0,I 0]):=by
   unfold f17_M
   refine aa.chk rfl ?_
   refine aa.tv rfl (aa.ite (v:=false) rfl nofun fun _=>?_)
   refine aa.tv rfl (f17_0_J ?_)
   unfold f17_0
   refine aa.ite (v:=false) rfl nofun fun _=>?_
   refine aa.tv rfl (aa.ite (v:=false) rfl nofun fun _=>?_)
   refine aa.tv rfl (aa.ite (v:=false) rfl nofun fun _=>?_)
   refine aa.tv rfl (aa.ite (v:=false) rfl nofun fun _=>?_)
   exact aa.chk rfl aa.ret
  exact ⟨_,aC.of (f17_MR _ _) hr,_,rfl,RL.nil,hok⟩
end Go.Ab.S13
end
section
set_option maxRecDepth 100000
namespace Go.Ab
theorem RL.xF {α:Type} {q:Option Bool} {s:Nat} {R:List TV->α->Prop} {y:TV} {l:List α} (hy:RL q s R y l) {k:Nat} (hk:k<=l.length):∃ y',gC k (l.length - k) y=some y'/\RL q s R y' (l.drop k):=by
 rcases hy with ⟨rfl,rfl⟩ | ⟨o,xs,rfl,hq,h,hb⟩
 ·have:k=0:=by simpa using hk
  subst this
  exact ⟨.lit aj,rfl,by simpa using RL.nil⟩
 ·have hxl:=h.length
  refine ⟨.sl o s ((xs.drop k).take (l.length - k)),?_,.sl hq ?_ (by simp; omega)⟩
  ·simp [gC]; omega
  ·have:=(h.drop k).take (l.length - k)
   rwa [List.take_of_length_le (l:=l.drop k) (by simp)] at this
end Go.Ab
namespace Go.Ab.S13
open Go Go.Ab Go.Proofs
end Go.Ab.S13
end
section
set_option maxRecDepth 20000
namespace Go.Ab
open Go.Ab.S13
theorem rl:∀ (k:Nat) (s t:List UInt8),t ∈ Lib.splitK [32] 0 k s->t.length<=s.length
 | 0,s,t,h=>by
  rw [Lib.splitK,List.mem_singleton] at h
  rw [h]; exact Nat.le_refl _
 | k + 1, s, t, h => by
  rw [Lib.splitK] at h
  split at h
  ·rw [List.mem_singleton] at h
   rw [h]; exact Nat.le_refl _
  ·rcases List.mem_cons.1 h with rfl | h
   ·rw [List.length_take]; omega
   ·have:=rl k _ t h
    rw [List.length_drop] at this
    omega
theorem lB {s t:List UInt8} (h:t ∈ jm s):t.length<=s.length:=by
 rw [nu] at h
 exact rl _ _ _ h
theorem qy {s w:List UInt8} {ts:List (List UInt8)} (hw:jm s=w :: ts):∀ (w':List UInt8) (ts':List (List UInt8)),plain w'->(∀ t,t ∈ ts'->plain t)->ts'.length<=13->s=dT w' ts'->w=w'/\ts=ts':=by
 intro w' ts' h1 h2 h3 h4
 subst h4
 rw [w9 h1 h2 h3] at hw
 cases hw
 exact ⟨rfl,rfl⟩
theorem jt (a b:List UInt8):pbin .str .neq (Sb a) (Sb b)=some (B (!decide (a=b))):=by
 by_cases h:a=b
 ·subst h; simp [pbin,kf]
 ·simp [pbin,kf,h]
theorem pM (n:Nat):pbin (.int .i64) .gtr (I (n:Int)) (I 8)=some (B (decide (8 < n))):=by
 by_cases h:8 < n
 ·simp [pbin,ja,h]; omega
 ·simp [pbin,ja,h]; omega
end Go.Ab
namespace Go.Ab.S13
open Go Go.Ab Go.Proofs
theorem rIns {s:List UInt8} (hs:s.length<=4000000000):∃ e,aC prog 5 [Sb s] (.tup [.agg e,B (kT s).isSome])/\RIns (some true) e ((kT s).getD ⟨0,0,0,0,0,0,[]⟩):=by
 obtain ⟨v0,h0,hv⟩:=xk hs
 obtain ⟨w,ts,hw,hl⟩:=jZ s
 rw [hw] at hv
 have hmem:∀ t,t ∈ ts->t.length<=4000000000:=fun t ht=>Nat.le_trans (lB (s:=s) (by rw [hw]; exact DB _ ht)) hs
 have hk:0<=opN w/\opN w<=13:=by
  rcases ul w with h | ⟨h,_⟩ <;> omega
 obtain ⟨e3,he3,hr3⟩:=RL.pel hv (i:=0) rfl
 have hr3:e3=[Sb w]:=hr3
 subst hr3
 obtain ⟨y,hy1,hy2⟩:=RL.xF hv (k:=1) (by simp)
 have hyf:RStrs (some false) (Ab.frz y) ts:=hy2.frz fun _ _ h=>by rw [show _=_ from h]; rfl
 obtain ⟨e,hi,ei⟩:=rInsOf hyf (by omega) hmem hk
 have heq:=fun x=>BJ (s:=s) (w:=w) (ts:=ts) (pu:=puV) c8 (fun n h1 h2=>qP h1 h2) (qy hw) (x:=x)
 obtain ⟨x,hx⟩:∃ x,x=mkI (opN w) (ts.map puV):=⟨_,rfl⟩
 rw [<- hx] at ei heq
 have hargs:x.args.length<=20:=by
  rw [hx]
  unfold mkI
  repeat' split
  all_goals (simp only [List.length_nil,List.length_drop,List.length_map]; omega)
 have hsz:(Bool.and (slSize v0 1) (Nat.blt 0 (w :: ts).length))=true:=by rw [RL.slSize hv]; simp
 have hsz2:(Bool.and (Bool.and (slSize v0 1) (Nat.ble 1 (w :: ts).length)) (Nat.ble (w :: ts).length (w :: ts).length))=true:=by rw [RL.slSize hv]; simp
 have hfit:ab zSl [v0] 0=true:=by simp [ab,zSl,aF,RL.isSl hv]
 obtain ⟨g,rfl,hg,hok⟩:=ei
 have hfit2:(Bool.and (TV.isAgg (.agg [I x.op,I x.dst,I x.a,I x.b,W x.k,I x.f,g]) 7) (ab ug (TV.cellsL true (.agg [I x.op,I x.dst,I x.a,I x.b,W x.k,I x.f,g])) 0))=true:=by simp [TV.isAgg,TV.cellsL,ab,ug,aF,hg.isSl,TV.isSc,scV]
 have none_of:¬ (x.op≠0/\x.args.length<=8/\pe x=s)->kT s=none:=fun h=>by
  cases hq:kT s with
  | none=>rfl
  | some z =>
   obtain ⟨h1,h2⟩:=(heq z).2 hq
   subst h1
   exact absurd h2 h
 have some_of:x.op≠0->x.args.length<=8->pe x=s->kT s=some x:=fun h1 h2 h3=>(heq x).1 ⟨rfl,h1,h2,h3⟩
 suffices H:∃ e,aa prog 5 (f5_M (Sb s)) (.tup [.agg e,B (kT s).isSome])/\RIns (some true) e ((kT s).getD ⟨0,0,0,0,0,0,[]⟩) by
  obtain ⟨e,h1,h2⟩:=H
  exact ⟨e,aC.of (f5_MR _) h1,h2⟩
 have zero:RIns (some true) [I 0,I 0,I 0,I 0,W 0,I 0,.lit aj] ⟨0,0,0,0,0,0,[]⟩:=⟨_,rfl,RL.nil,by unfold DIns.ok inI inW; decide⟩
 unfold f5_M
 have start:∀ {r:TV} {K:TV->Prg TV},aa prog 5 (K (B (decide (x.op=0)))) r->aa prog 5 (Prg.tv (pbin (Kd.int IntKind.i64) BinOp.eql (TV.cell (.agg [I x.op,I x.dst,I x.a,I x.b,W x.k,I x.f,g]) 0) (TV.lit (Value.int IntKind.i64 (0:Int)))) K) r:=fun h=>aa.tv (iEq _ _) h
 by_cases h1:x.op=0
 ·rw [none_of fun h=>h.1 h1]
  refine ⟨_,aa.call h0 (aa.chk hfit (aa.nat hv.slLen (aa.nat (v:=0) rfl (aa.chk hsz (aa.tvs he3 (aa.chk rfl (aa.call (xI w) (aa.chk rfl (aa.nat hv.slLen (aa.nat (v:=1) rfl (aa.chk hsz2 (aa.tv hy1 (aa.call hi (aa.chk hfit2 (start (aa.ite (v:=true) (by simp [asBool,h1]) (fun _=>aa.ret) nofun)))))))))))))))),zero⟩
 by_cases h2:x.args.length<=8
 case neg =>
  rw [none_of fun h=>h2 h.2.1]
  refine ⟨_,aa.call h0 (aa.chk hfit (aa.nat hv.slLen (aa.nat (v:=0) rfl (aa.chk hsz (aa.tvs he3 (aa.chk rfl (aa.call (xI w) (aa.chk rfl (aa.nat hv.slLen (aa.nat (v:=1) rfl (aa.chk hsz2 (aa.tv hy1 (aa.call hi (aa.chk hfit2 (start (aa.ite (v:=false) (by simp [asBool,h1]) nofun fun _=>aa.tv hg.len (aa.tv (pM _) (aa.ite (v:=true) (by simp [asBool]; omega) (fun _=>aa.ret) nofun)))))))))))))))))),zero⟩
 have hshow:=qk (q:=some false) (e:=[I x.op,I x.dst,I x.a,I x.b,W x.k,I x.f,Ab.frz g]) ⟨_,rfl,hg.frz fun _ _ h=>h.frz,hok⟩ hargs
 by_cases h3:pe x=s
 ·rw [some_of h1 h2 h3]
  refine ⟨_,aa.call h0 (aa.chk hfit (aa.nat hv.slLen (aa.nat (v:=0) rfl (aa.chk hsz (aa.tvs he3 (aa.chk rfl (aa.call (xI w) (aa.chk rfl (aa.nat hv.slLen (aa.nat (v:=1) rfl (aa.chk hsz2 (aa.tv hy1 (aa.call hi (aa.chk hfit2 (start (aa.ite (v:=false) (by simp [asBool,h1]) nofun fun _=>aa.tv hg.len (aa.tv (pM _) (aa.ite (v:=false) (by simp [asBool]; omega) nofun fun _=>aa.call hshow (aa.chk rfl (aa.tv (jt _ _) (aa.ite (v:=false) (by simp [asBool,h3]) nofun fun _=>aa.ret))))))))))))))))))))),⟨g,rfl,hg,hok⟩⟩
 ·rw [none_of fun h=>h3 h.2.2]
  refine ⟨_,aa.call h0 (aa.chk hfit (aa.nat hv.slLen (aa.nat (v:=0) rfl (aa.chk hsz (aa.tvs he3 (aa.chk rfl (aa.call (xI w) (aa.chk rfl (aa.nat hv.slLen (aa.nat (v:=1) rfl (aa.chk hsz2 (aa.tv hy1 (aa.call hi (aa.chk hfit2 (start (aa.ite (v:=false) (by simp [asBool,h1]) nofun fun _=>aa.tv hg.len (aa.tv (pM _) (aa.ite (v:=false) (by simp [asBool]; omega) nofun fun _=>aa.call hshow (aa.chk rfl (aa.tv (jt _ _) (aa.ite (v:=true) (by simp [asBool,h3]) (fun _=>aa.ret) nofun))))))))))))))))))))),zero⟩
theorem rEnd {s:List UInt8} (hs:s.length<=4000000000):∃ e,aC prog 6 [Sb s] (.tup [.agg e,B (jL s).isSome])/\REnd (some true) e ((jL s).getD ⟨0,0,0,0,[],0,0,0⟩):=by
 obtain ⟨v0,h0,hv⟩:=xk hs
 obtain ⟨w,ts,hw,hl⟩:=jZ s
 rw [hw] at hv
 have hmem:∀ t,t ∈ ts->t.length<=4000000000:=fun t ht=>Nat.le_trans (lB (s:=s) (by rw [hw]; exact DB _ ht)) hs
 have hk:0<=kN w/\kN w<=6:=by
  rcases A6 w with h | ⟨h,_⟩ <;> omega
 obtain ⟨e3,he3,hr3⟩:=RL.pel hv (i:=0) rfl
 have hr3:e3=[Sb w]:=hr3
 subst hr3
 obtain ⟨y,hy1,hy2⟩:=RL.xF hv (k:=1) (by simp)
 have hyf:RStrs (some false) (Ab.frz y) ts:=hy2.frz fun _ _ h=>by rw [show _=_ from h]; rfl
 obtain ⟨e,hi,ei⟩:=rEndOf hyf (by omega) hmem hk
 have heq:=fun x=>B6 (s:=s) (w:=w) (ts:=ts) (pu:=puV) c8 (fun n h1 h2=>qP h1 h2) (qy hw) (x:=x)
 obtain ⟨x,hx⟩:∃ x,x=mkE (kN w) (ts.map puV):=⟨_,rfl⟩
 rw [<- hx] at ei heq
 have hargs:x.args.length<=20:=by
  rw [hx]
  unfold mkE
  repeat' split
  all_goals (simp only [List.length_nil,List.length_drop,List.length_map]; omega)
 have hsz:(Bool.and (slSize v0 1) (Nat.blt 0 (w :: ts).length))=true:=by rw [RL.slSize hv]; simp
 have hsz2:(Bool.and (Bool.and (slSize v0 1) (Nat.ble 1 (w :: ts).length)) (Nat.ble (w :: ts).length (w :: ts).length))=true:=by rw [RL.slSize hv]; simp
 have hfit:ab zSl [v0] 0=true:=by simp [ab,zSl,aF,RL.isSl hv]
 obtain ⟨g,rfl,hg,hok⟩:=ei
 have hfit2:(Bool.and (TV.isAgg (.agg [I x.kind,I x.a,I x.dst,I x.f,g,I x.to,I x.els,I x.pad]) 8) (ab t9 (TV.cellsL true (.agg [I x.kind,I x.a,I x.dst,I x.f,g,I x.to,I x.els,I x.pad])) 0))=true:=by simp [TV.isAgg,TV.cellsL,ab,t9,aF,hg.isSl,TV.isSc,scV]
 have none_of:¬ (x.kind≠0/\x.args.length<=8/\pd x=s)->jL s=none:=fun h=>by
  cases hq:jL s with
  | none=>rfl
  | some z =>
   obtain ⟨h1,h2⟩:=(heq z).2 hq
   subst h1
   exact absurd h2 h
 have some_of:x.kind≠0->x.args.length<=8->pd x=s->jL s=some x:=fun h1 h2 h3=>(heq x).1 ⟨rfl,h1,h2,h3⟩
 suffices H:∃ e,aa prog 6 (f6_M (Sb s)) (.tup [.agg e,B (jL s).isSome])/\REnd (some true) e ((jL s).getD ⟨0,0,0,0,[],0,0,0⟩) by
  obtain ⟨e,h1,h2⟩:=H
  exact ⟨e,aC.of (f6_MR _) h1,h2⟩
 have zero:REnd (some true) [I 0,I 0,I 0,I 0,.lit aj,I 0,I 0,I 0] ⟨0,0,0,0,[],0,0,0⟩:=⟨_,rfl,RL.nil,by unfold DEnd.ok inI; decide⟩
 unfold f6_M
 have start:∀ {r:TV} {K:TV->Prg TV},aa prog 6 (K (B (decide (x.kind=0)))) r->aa prog 6 (Prg.tv (pbin (Kd.int IntKind.i64) BinOp.eql (TV.cell (.agg [I x.kind,I x.a,I x.dst,I x.f,g,I x.to,I x.els,I x.pad]) 0) (TV.lit (Value.int IntKind.i64 (0:Int)))) K) r:=fun h=>aa.tv (iEq _ _) h
 by_cases h1:x.kind=0
 ·rw [none_of fun h=>h.1 h1]
  refine ⟨_,aa.call h0 (aa.chk hfit (aa.nat hv.slLen (aa.nat (v:=0) rfl (aa.chk hsz (aa.tvs he3 (aa.chk rfl (aa.call (pl w) (aa.chk rfl (aa.nat hv.slLen (aa.nat (v:=1) rfl (aa.chk hsz2 (aa.tv hy1 (aa.call hi (aa.chk hfit2 (start (aa.ite (v:=true) (by simp [asBool,h1]) (fun _=>aa.ret) nofun)))))))))))))))),zero⟩
 by_cases h2:x.args.length<=8
 case neg =>
  rw [none_of fun h=>h2 h.2.1]
  refine ⟨_,aa.call h0 (aa.chk hfit (aa.nat hv.slLen (aa.nat (v:=0) rfl (aa.chk hsz (aa.tvs he3 (aa.chk rfl (aa.call (pl w) (aa.chk rfl (aa.nat hv.slLen (aa.nat (v:=1) rfl (aa.chk hsz2 (aa.tv hy1 (aa.call hi (aa.chk hfit2 (start (aa.ite (v:=false) (by simp [asBool,h1]) nofun fun _=>aa.tv hg.len (aa.tv (pM _) (aa.ite (v:=true) (by simp [asBool]; omega) (fun _=>aa.ret) nofun)))))))))))))))))),zero⟩
 have hshow:=rQ (q:=some false) (e:=[I x.kind,I x.a,I x.dst,I x.f,Ab.frz g,I x.to,I x.els,I x.pad]) ⟨_,rfl,hg.frz fun _ _ h=>h.frz,hok⟩ hargs
 by_cases h3:pd x=s
 ·rw [some_of h1 h2 h3]
  refine ⟨_,aa.call h0 (aa.chk hfit (aa.nat hv.slLen (aa.nat (v:=0) rfl (aa.chk hsz (aa.tvs he3 (aa.chk rfl (aa.call (pl w) (aa.chk rfl (aa.nat hv.slLen (aa.nat (v:=1) rfl (aa.chk hsz2 (aa.tv hy1 (aa.call hi (aa.chk hfit2 (start (aa.ite (v:=false) (by simp [asBool,h1]) nofun fun _=>aa.tv hg.len (aa.tv (pM _) (aa.ite (v:=false) (by simp [asBool]; omega) nofun fun _=>aa.call hshow (aa.chk rfl (aa.tv (jt _ _) (aa.ite (v:=false) (by simp [asBool,h3]) nofun fun _=>aa.ret))))))))))))))))))))),⟨g,rfl,hg,hok⟩⟩
 ·rw [none_of fun h=>h3 h.2.2]
  refine ⟨_,aa.call h0 (aa.chk hfit (aa.nat hv.slLen (aa.nat (v:=0) rfl (aa.chk hsz (aa.tvs he3 (aa.chk rfl (aa.call (pl w) (aa.chk rfl (aa.nat hv.slLen (aa.nat (v:=1) rfl (aa.chk hsz2 (aa.tv hy1 (aa.call hi (aa.chk hfit2 (start (aa.ite (v:=false) (by simp [asBool,h1]) nofun fun _=>aa.tv hg.len (aa.tv (pM _) (aa.ite (v:=false) (by simp [asBool]; omega) nofun fun _=>aa.call hshow (aa.chk rfl (aa.tv (jt _ _) (aa.ite (v:=true) (by simp [asBool,h3]) (fun _=>aa.ret) nofun))))))))))))))))))))),zero⟩
end Go.Ab.S13
end
section
set_option maxRecDepth 20000
namespace Go.Ab
open Go.Ab.S13
theorem wH {α β:Type} (f:β->α->β) (b:β) {l:List α} {k:Nat} {a:α} (h:l[k]? = some a):(l.take (k + 1)).foldl f b=f ((l.take k).foldl f b) a:=by
 rw [List.take_add_one,h,List.foldl_append]
 rfl
theorem Ca (k:Nat):pbin (.int .i64) .eql (I (k:Int)) (I 0)=some (B (decide (k=0))):=by
 rw [iEq]
 congr 3
 by_cases h:k=0 <;> simp [h]
end Go.Ab
namespace Go.Ab.S13
open Go Go.Ab Go.Proofs
theorem rPadOf {q:Option Bool} {ws:TV} {ts:List (List UInt8)} (hx:RStrs q ws ts) (hl:ts.length<=1000000) (hs:∀ t,t ∈ ts->t.length<=4000000000) :
  ∃ e,aC prog 19 [ws] (.agg e)/\RPad (some true) e (o9 puV ts):=by
 have key : ∀ (d k : Nat) (g : TV) (p : DPad), k + d = ts.length → p = o9 puV (ts.take k) → RWords (some true) g p.catches → p.catches.length ≤ k → (0 ≤ p.dst ∧ p.dst ≤ 65535) →
   ∃ e,aa prog 19 (f19_0 ws (I (ts.length:Nat)) (I (k:Nat)) (I p.dst) (B p.all) (B p.cleanup) g) (.agg e)/\RPad (some true) e (o9 puV ts):=by
  intro d
  induction d with
  | zero =>
   intro k g p hk hp hg hc hd
   have hk:k=ts.length:=by omega
   subst hk
   rw [List.take_length] at hp
   subst hp
   have ho:aB g=true:=RL.own hg fun _ _ h=>by rw [h.1]; rfl
   refine ⟨_,?_,g,rfl,hg,by unfold inI; omega⟩
   unfold f19_0
   refine aa.tv rfl (aa.ite cA nofun fun _=>aa.chk ?_ aa.ret)
   simp [bY,aB,ho]
  | succ d ih =>
   intro k g p hk hp hg hc hd
   have hkl:k < ts.length:=by omega
   obtain ⟨e,he,hr⟩:=hx.idx (k:=.i64) (cB hkl)
   have hr:e=[Sb (ts.getD k [])]:=hr
   subst hr
   have hnum:aC prog 30 [Sb (ts.getD k [])] (I (puV (ts.getD k []))):=dL (hs _ (dN hkl))
   have hin:=c8 (ts.getD k [])
   have hat:=cB hkl
   generalize ts.getD k []=t at he hnum hin hat
   unfold f19_0
   by_cases h0:k=0
   ·subst h0
    have e1:o9 puV (ts.take 1)=⟨puV t,[],false,false⟩:=by
     rw [List.take_add_one,hat]; rfl
    have e0:p=⟨0,[],false,false⟩:=by rw [hp]; rfl
    subst e0
    obtain ⟨e,i1,i2⟩:=ih 1 g ⟨puV t,[],false,false⟩ (by omega) e1.symm hg (by simp) hin
    refine ⟨e,?_,i2⟩
    refine aa.tv rfl (aa.ite (bg hkl) (fun _=>?_) nofun)
    refine aa.tvs he (aa.chk rfl (aa.tv (Ca _) (aa.ite (v:=true) rfl (fun _=>?_) nofun)))
    exact aa.call hnum (aa.chk rfl (aa.tv (inc (n:=1) (by omega) (by omega)) (f19_0_J i1)))
   ·have est:o9 puV (ts.take (k + 1))=ca puV p t:=by
     obtain ⟨j,rfl⟩:∃ j,k=j + 1:=⟨k - 1,by omega⟩
     cases ts with
     | nil=>simp at hkl
     | cons a r =>
      rw [hp]
      simp only [List.take_succ_cons,o9]
      exact wH _ _ (by simpa using hat)
    have step:aa prog 19=aa prog 19:=rfl
    by_cases h1:t=[99,97,116,99,104]
    ·obtain ⟨e,i1,i2⟩:=ih (k + 1) g p (by omega) (by rw [est]; unfold ca; rw [if_pos h1]) hg (by omega) hd
     refine ⟨e,?_,i2⟩
     refine aa.tv rfl (aa.ite (bg hkl) (fun _=>?_) nofun)
     refine aa.tvs he (aa.chk rfl (aa.tv (Ca _) (aa.ite (v:=false) (by simp [asBool,h0]) nofun fun _=>?_)))
     exact aa.tv (gH t _) (aa.ite (v:=true) (by simp [asBool,h1]) (fun _=>aa.tv (inc (n:=k + 1) (by omega) (by omega)) (f19_0_J i1)) nofun)
    by_cases h2:t=[97,108,108]
    ·obtain ⟨e,i1,i2⟩:=ih (k + 1) g { p with all:=true } (by omega) (by rw [est]; unfold ca; rw [if_neg h1,if_pos h2]) hg (by show p.catches.length<=_; omega) hd
     refine ⟨e,?_,i2⟩
     refine aa.tv rfl (aa.ite (bg hkl) (fun _=>?_) nofun)
     refine aa.tvs he (aa.chk rfl (aa.tv (Ca _) (aa.ite (v:=false) (by simp [asBool,h0]) nofun fun _=>?_)))
     refine aa.tv (gH t _) (aa.ite (v:=false) (by simp [asBool,h1]) nofun fun _=>?_)
     exact aa.tv (gH t _) (aa.ite (v:=true) (by simp [asBool,h2]) (fun _=>aa.tv (inc (n:=k + 1) (by omega) (by omega)) (f19_0_J i1)) nofun)
    by_cases h3:t=[99,108,101,97,110,117,112]
    ·obtain ⟨e,i1,i2⟩:=ih (k + 1) g { p with cleanup:=true } (by omega) (by rw [est]; unfold ca; rw [if_neg h1,if_neg h2,if_pos h3]) hg (by show p.catches.length<=_; omega) hd
     refine ⟨e,?_,i2⟩
     refine aa.tv rfl (aa.ite (bg hkl) (fun _=>?_) nofun)
     refine aa.tvs he (aa.chk rfl (aa.tv (Ca _) (aa.ite (v:=false) (by simp [asBool,h0]) nofun fun _=>?_)))
     refine aa.tv (gH t _) (aa.ite (v:=false) (by simp [asBool,h1]) nofun fun _=>?_)
     refine aa.tv (gH t _) (aa.ite (v:=false) (by simp [asBool,h2]) nofun fun _=>?_)
     exact aa.tv (gH t _) (aa.ite (v:=true) (by simp [asBool,h3]) (fun _=>aa.tv (inc (n:=k + 1) (by omega) (by omega)) (f19_0_J i1)) nofun)
    ·obtain ⟨g',c1,c2⟩:=RL.snoc hg (e:=[W (puV t)]) (a:=puV t) ⟨rfl,by unfold inW; omega⟩ (by omega)
     obtain ⟨e,i1,i2⟩:=ih (k + 1) g' { p with catches:=p.catches ++ [puV t] } (by omega) (by rw [est]; unfold ca; rw [if_neg h1,if_neg h2,if_neg h3]) c2 (by simp; omega) hd
     refine ⟨e,?_,i2⟩
     refine aa.tv rfl (aa.ite (bg hkl) (fun _=>?_) nofun)
     refine aa.tvs he (aa.chk rfl (aa.tv (Ca _) (aa.ite (v:=false) (by simp [asBool,h0]) nofun fun _=>?_)))
     refine aa.tv (gH t _) (aa.ite (v:=false) (by simp [asBool,h1]) nofun fun _=>?_)
     refine aa.tv (gH t _) (aa.ite (v:=false) (by simp [asBool,h2]) nofun fun _=>?_)
     refine aa.tv (gH t _) (aa.ite (v:=false) (by simp [asBool,h3]) nofun fun _=>?_)
     exact aa.call hnum (aa.chk rfl (aa.tv (conv16 hin.1 hin.2) (aa.rws rfl (aa.tv c1 (aa.tv (inc (n:=k + 1) (by omega) (by omega)) (f19_0_J i1))))))
 obtain ⟨e,h1,h2⟩:=key ts.length 0 (.lit aj) ⟨0,[],false,false⟩ (by omega) rfl RL.nil (by simp) (by decide)
 refine ⟨e,aC.of (f19_MR _) ?_,h2⟩
 unfold f19_M
 exact aa.tv hx.len (aa.chk rfl (f19_0_J h1))
theorem rPad {s:List UInt8} (hs:s.length<=4000000000):∃ e,aC prog 7 [Sb s] (.tup [.agg e,B (ia s).isSome])/\RPad (some true) e ((ia s).getD ⟨0,[],false,false⟩):=by
 obtain ⟨v0,h0,hv⟩:=xk hs
 obtain ⟨w,ts,hw,hl⟩:=jZ s
 rw [hw] at hv
 have hmem:∀ t,t ∈ ts->t.length<=4000000000:=fun t ht=>Nat.le_trans (lB (s:=s) (by rw [hw]; exact DB _ ht)) hs
 obtain ⟨y,hy1,hy2⟩:=RL.xF hv (k:=1) (by simp)
 have hyf:RStrs (some false) (Ab.frz y) ts:=hy2.frz fun _ _ h=>by rw [show _=_ from h]; rfl
 obtain ⟨e,hi,ei⟩:=rPadOf hyf (by omega) hmem
 have heq:=fun x=>AK (s:=s) (w:=w) (ts:=ts) (pu:=puV) c8 (fun n h1 h2=>qP h1 h2) (qy hw) (p:=x)
 obtain ⟨x,hx⟩:∃ x,x=o9 puV ts:=⟨_,rfl⟩
 rw [<- hx] at ei heq
 have hsz2:(Bool.and (Bool.and (slSize v0 1) (Nat.ble 1 (w :: ts).length)) (Nat.ble (w :: ts).length (w :: ts).length))=true:=by rw [RL.slSize hv]; simp
 have hfit:ab zSl [v0] 0=true:=by simp [ab,zSl,aF,RL.isSl hv]
 obtain ⟨g,rfl,hg,hok⟩:=ei
 have hfit2:(Bool.and (TV.isAgg (.agg [I x.dst,g,B x.all,B x.cleanup]) 4) (ab zH (TV.cellsL true (.agg [I x.dst,g,B x.all,B x.cleanup])) 0))=true:=by simp [TV.isAgg,TV.cellsL,ab,zH,aF,hg.isSl,TV.isSc,scV]
 have none_of:¬ (x.catches.length<=8/\um x=s)->ia s=none:=fun h=>by
  cases hq:ia s with
  | none=>rfl
  | some z =>
   obtain ⟨h1,h2⟩:=(heq z).2 hq
   subst h1
   exact absurd h2 h
 have some_of:x.catches.length<=8->um x=s->ia s=some x:=fun h2 h3=>(heq x).1 ⟨rfl,h2,h3⟩
 suffices H:∃ e,aa prog 7 (f7_M (Sb s)) (.tup [.agg e,B (ia s).isSome])/\RPad (some true) e ((ia s).getD ⟨0,[],false,false⟩) by
  obtain ⟨e,h1,h2⟩:=H
  exact ⟨e,aC.of (f7_MR _) h1,h2⟩
 have zero:RPad (some true) [I 0,.lit aj,B false,B false] ⟨0,[],false,false⟩:=⟨_,rfl,RL.nil,by unfold inI; decide⟩
 unfold f7_M
 have start:∀ {r:TV},aa prog 7 (Prg.ite (asBool (B (decide (8 < x.catches.length)))) (Prg.ret (.tup [.agg [I 0,.lit aj,B false,B false],B false])) (Prg.call 10 [.agg [I x.dst,Ab.frz g,B x.all,B x.cleanup]] fun v7=>Prg.chk (ab cN [v7] 0) (Prg.tv (pbin Kd.str BinOp.neq v7 (Sb s)) fun v8=>Prg.ite (asBool v8) (Prg.ret (.tup [.agg [I 0,.lit aj,B false,B false],B false])) (Prg.ret (.tup [.agg [I x.dst,g,B x.all,B x.cleanup],B true]))))) r->aa prog 7 (f7_M (Sb s)) r:=fun h=>by
  unfold f7_M
  exact aa.call h0 (aa.chk hfit (aa.nat hv.slLen (aa.nat (v:=1) rfl (aa.chk hsz2 (aa.tv hy1 (aa.call hi (aa.chk hfit2 (aa.tv hg.len (aa.tv (pM _) h)))))))))
 by_cases h2:x.catches.length<=8
 case neg =>
  rw [none_of fun h=>h2 h.1]
  exact ⟨_,start (aa.ite (v:=true) (by simp [asBool]; omega) (fun _=>aa.ret) nofun),zero⟩
 have hshow:=wk (q:=some false) (e:=[I x.dst,Ab.frz g,B x.all,B x.cleanup]) ⟨_,rfl,hg.frz fun _ _ h=>⟨by rw [h.1]; rfl,h.2⟩,hok⟩ (by omega)
 by_cases h3:um x=s
 ·rw [some_of h2 h3]
  exact ⟨_,start (aa.ite (v:=false) (by simp [asBool]; omega) nofun fun _=>aa.call hshow (aa.chk rfl (aa.tv (jt _ _) (aa.ite (v:=false) (by simp [asBool,h3]) nofun fun _=>aa.ret)))),g,rfl,hg,hok⟩
 ·rw [none_of fun h=>h3 h.2]
  exact ⟨_,start (aa.ite (v:=false) (by simp [asBool]; omega) nofun fun _=>aa.call hshow (aa.chk rfl (aa.tv (jt _ _) (aa.ite (v:=true) (by simp [asBool,h3]) (fun _=>aa.ret) nofun)))),zero⟩
end Go.Ab.S13
end
section
set_option maxRecDepth 20000
namespace Go.Ab
open Go.Ab.S13
theorem asN {n:Nat} (h:n < 9223372036854775807):bh (I (n:Nat))=some n:=by simp [bh]; omega
section
variable (xs:List (List TV)) (P Q b v:TV)
end
end Go.Ab
namespace Go.Ab.S13
open Go Go.Ab Go.Proofs
end Go.Ab.S13
end
section
set_option maxRecDepth 100000
namespace Go.Ab.S13
open Go Go.Ab Go.Proofs
theorem CH:aC prog 4 [] (B true):=⟨100,by kernel_rfl⟩
end Go.Ab.S13
end
section
set_option maxRecDepth 20000
namespace Go.Ab.S13
open Go Go.Ab Go.Proofs
theorem rem6 {n:Int} (h0:0<=n) (h1:n < 256):pbin (.int .u8) .rem (.lit (.int .u8 n)) (.lit (.int .u8 6))=some (.lit (.int .u8 (n % 6))):=by
 have h2:(0:Int)<=n % 6/\n % 6 < 6:=by omega
 have h3:Int.tmod n 6=n % 6:=Int.tmod_eq_emod_of_nonneg h0
 simp [pbin,ja,h3]
theorem conv8i {n:Int} (h0:0<=n) (h1:n < 256):pconv (.int .i64) (.lit (.int .u8 n))=some (I n):=by
 show some (TV.lit (.int .i64 (IntKind.i64.wrap n)))=_
 rw [IntKind.wrap_i64]; congr 3; omega
theorem conv16i {n:Int} (h:inW n):pconv (.int .i64) (W n)=some (I n):=by
 unfold inW at h
 show some (TV.lit (.int .i64 (IntKind.i64.wrap n)))=_
 rw [IntKind.wrap_i64]; congr 3; omega
theorem add3 {n:Int} (h0:0<=n) (h1:n < 6):pbin (.int .i64) .add (I 3) (I n)=some (I (3 + n)):=by
 show some (TV.lit (.int .i64 (IntKind.i64.wrap (3 + n))))=_
 rw [IntKind.wrap_i64]; congr 3; omega
theorem min300 (n:Nat):pmin false (I (n:Int)) (I 300)=some (I ((min n 300:Nat):Int)):=by
 show some (TV.lit (.int .i64 (if (300:Int) < (n:Int) then 300 else (n:Int))))=_
 congr 3
 split <;> omega
theorem sb_pre {l:List UInt8} {b:Nat} (h2:b<=l.length):pslice .str 0 (Sb l) none (some b)=some (Sb (l.take b)):=by
 have h:=sb_cut (l:=l) (a:=0) (b:=b) (by omega) h2
 rw [show (l.drop 0).take (b - 0)=l.take b by simp] at h
 exact h
theorem three16 {d a b:Int} (hd:inW d) (ha:inW a) (hb:inW b):∀ n:Int,n ∈ [d,a,b]->0<=n/\n<=65535:=by
 unfold inW at hd ha hb
 intro n hn
 simp only [List.mem_cons,List.mem_nil_iff,or_false] at hn
 rcases hn with rfl | rfl | rfl <;> omega
theorem goodI3 {k d a b:Int} (hk:3<=k/\k<=8) (hd:inW d) (ha:inW a) (hb:inW b):vv ⟨k,d,a,b,0,0,[]⟩:=by
 have hm:=three16 hd ha hb
 have hop:1<=k/\k<=13:=by omega
 have:k=3\/k=4\/k=5\/k=6\/k=7\/k=8:=by omega
 rcases this with rfl | rfl | rfl | rfl | rfl | rfl <;> exact ⟨hop,rfl,hm,Nat.zero_le _⟩
theorem goodE3 {d a b:Int} (hd:inW d) (ha:inW a) (hb:inW b):vz ⟨3,d,0,0,[],a,b,0⟩:=by
 have hop:(1:Int)<=3/\(3:Int)<=6:=by decide
 exact ⟨hop,rfl,three16 hd ha hb,Nat.zero_le _⟩
theorem i16 {n:Int} (h:inW n):inI n:=by unfold inW at h; unfold inI; omega
theorem Cz {d a b o:Int} (hd:inW d) (ha:inW a) (hb:inW b) (h0:0<=o) (h1:o < 256):aa prog 3 (f3_0 (W d) (W a) (W b) (.lit (.int .u8 o))) (B true):=by
 have hr:(0:Int)<=o % 6/\o % 6 < 6:=by omega
 have hrem:=rem6 h0 h1
 generalize o % 6=r at hr hrem
 have gz:vv ⟨3 + r,d,a,b,0,0,[]⟩:=goodI3 (by omega) hd ha hb
 have hz:RIns (some true) [I (3 + r),I d,I a,I b,W 0,I 0,.lit aj] ⟨3 + r,d,a,b,0,0,[]⟩:=⟨_,rfl,RL.nil,by
  refine ⟨?_,i16 hd,i16 ha,i16 hb,?_,?_⟩
  ·show inI (3 + r); unfold inI; omega
  ·show inW 0; unfold inW; decide
  ·show inI 0; unfold inI; decide⟩
 have ge:vz ⟨3,d,0,0,[],a,b,0⟩:=goodE3 hd ha hb
 have he:REnd (some true) [I 3,I d,I 0,I 0,.lit aj,I a,I b,I 0] ⟨3,d,0,0,[],a,b,0⟩:=⟨_,rfl,RL.nil,by
  have z:inI 0:=by unfold inI; decide
  refine ⟨?_,i16 hd,z,z,i16 ha,i16 hb,z⟩
  show inI 3; unfold inI; decide⟩
 have hshow:=qk hz (Nat.zero_le _)
 have hlen:=BQ hz (Nat.zero_le _)
 have href:=qf.2 ⟨gz,rfl⟩
 obtain ⟨e,hrun,hx⟩:=rIns (s:=pe ⟨3 + r,d,a,b,0,0,[]⟩) (by omega)
 rw [href] at hrun hx
 obtain ⟨g,rfl,hg,hok⟩:=hx
 simp only [Option.getD_some] at hg hok hrun
 have hfI:(Bool.and (TV.isAgg (.agg [I (3 + r),I d,I a,I b,W 0,I 0,g]) 7) (ab ug (TV.cellsL true (.agg [I (3 + r),I d,I a,I b,W 0,I 0,g])) 0))=true:=by simp [TV.isAgg,TV.cellsL,ab,ug,aF,hg.isSl,TV.isSc,scV]
 have hsI:=r46 (e:=[I (3 + r),I d,I a,I b,W 0,I 0,Ab.frz g]) (a:=⟨3 + r,d,a,b,0,0,[]⟩) ⟨_,rfl,hg.frz fun _ _ h=>h.frz,hok⟩ hz
 rw [uw rfl] at hsI
 have hshowE:=rQ he (Nat.zero_le _)
 have hlenE:=AJ (x:=⟨3,d,0,0,[],a,b,0⟩) (by obtain ⟨_,_,_,h⟩:=id he; exact h) (fun _ h=>by cases h) (Nat.zero_le _)
 have hrefE:=pT.2 ⟨ge,rfl⟩
 obtain ⟨e2,hrunE,hxE⟩:=rEnd (s:=pd ⟨3,d,0,0,[],a,b,0⟩) (by omega)
 rw [hrefE] at hrunE hxE
 obtain ⟨g2,rfl,hg2,hok2⟩:=hxE
 simp only [Option.getD_some] at hg2 hok2 hrunE
 have hfE:(Bool.and (TV.isAgg (.agg [I 3,I d,I 0,I 0,g2,I a,I b,I 0]) 8) (ab t9 (TV.cellsL true (.agg [I 3,I d,I 0,I 0,g2,I a,I b,I 0])) 0))=true:=by simp [TV.isAgg,TV.cellsL,ab,t9,aF,hg2.isSl,TV.isSc,scV]
 have hsE:=r45 (e:=[I 3,I d,I 0,I 0,Ab.frz g2,I a,I b,I 0]) (a:=⟨3,d,0,0,[],a,b,0⟩) ⟨_,rfl,hg2.frz fun _ _ h=>h.frz,hok2⟩ he
 rw [uw rfl] at hsE
 unfold f3_0
 exact aa.tv hrem (aa.tv (conv8i (by omega) (by omega)) (aa.tv (add3 hr.1 hr.2) (aa.tv (conv16i hd) (aa.tv (conv16i ha) (aa.tv (conv16i hb) (aa.call hshow (aa.chk rfl (aa.call hrun (aa.chk rfl (aa.chk hfI (aa.chk rfl (aa.tv (conv16i hd) (aa.tv (conv16i ha) (aa.tv (conv16i hb) (aa.call hshowE (aa.chk rfl (aa.call hrunE (aa.chk rfl (aa.chk hfE (aa.chk rfl (aa.ite (v:=true) rfl (fun _=>aa.call hsI (aa.chk rfl (aa.ite (v:=true) rfl (fun _=>aa.ite (v:=true) rfl (fun _=>aa.call hsE (aa.chk rfl aa.ret)) nofun) nofun))) nofun)))))))))))))))))))))
theorem rShows {s:List UInt8} {d a b o:Int} (hd:inW d) (ha:inW a) (hb:inW b) (h0:0<=o) (h1:o < 256):aC prog 3 [Sb s,W d,W a,W b,.lit (.int .u8 o)] (B true):=by
 have hz:=Cz hd ha hb h0 h1
 refine aC.of (f3_MR _ _ _ _ _) ?_
 unfold f3_M
 have hml:min s.length 300<=s.length:=Nat.min_le_left _ _
 obtain ⟨t,et⟩:∃ t,t=s.take (min s.length 300):=⟨_,rfl⟩
 have ht:t.length<=300:=by rw [et,List.length_take]; omega
 have hcut:=sb_pre hml
 rw [<- et] at hcut
 obtain ⟨e1,q1,hx1⟩:=rIns (s:=t) (by omega)
 obtain ⟨e2,q2,hx2⟩:=rEnd (s:=t) (by omega)
 obtain ⟨e3,q3,hx3⟩:=rPad (s:=t) (by omega)
 obtain ⟨x,ex⟩:∃ x,x=(kT t).getD ⟨0,0,0,0,0,0,[]⟩:=⟨_,rfl⟩
 obtain ⟨y,ey⟩:∃ y,y=(jL t).getD ⟨0,0,0,0,[],0,0,0⟩:=⟨_,rfl⟩
 obtain ⟨p,ep⟩:∃ p,p=(ia t).getD ⟨0,[],false,false⟩:=⟨_,rfl⟩
 rw [<- ex] at hx1
 rw [<- ey] at hx2
 rw [<- ep] at hx3
 obtain ⟨g1,rfl,hg1,ok1⟩:=hx1
 obtain ⟨g2,rfl,hg2,ok2⟩:=hx2
 obtain ⟨g3,rfl,hg3,ok3⟩:=hx3
 have hf1:(Bool.and (TV.isAgg (.agg [I x.op,I x.dst,I x.a,I x.b,W x.k,I x.f,g1]) 7) (ab ug (TV.cellsL true (.agg [I x.op,I x.dst,I x.a,I x.b,W x.k,I x.f,g1])) 0))=true:=by simp [TV.isAgg,TV.cellsL,ab,ug,aF,hg1.isSl,TV.isSc,scV]
 have hf2:(Bool.and (TV.isAgg (.agg [I y.kind,I y.a,I y.dst,I y.f,g2,I y.to,I y.els,I y.pad]) 8) (ab t9 (TV.cellsL true (.agg [I y.kind,I y.a,I y.dst,I y.f,g2,I y.to,I y.els,I y.pad])) 0))=true:=by simp [TV.isAgg,TV.cellsL,ab,t9,aF,hg2.isSl,TV.isSc,scV]
 have hf3:(Bool.and (TV.isAgg (.agg [I p.dst,g3,B p.all,B p.cleanup]) 4) (ab zH (TV.cellsL true (.agg [I p.dst,g3,B p.all,B p.cleanup])) 0))=true:=by simp [TV.isAgg,TV.cellsL,ab,zH,aF,hg3.isSl,TV.isSc,scV]
 refine aa.call CH (aa.chk rfl (aa.tv rfl (aa.ite (v:=false) rfl nofun fun _=>aa.tv (sb_len _) (aa.tv (min300 _) (aa.nat (asN (by omega)) (aa.tv hcut (aa.call q1 (aa.chk rfl (aa.chk hf1 (aa.chk rfl (aa.call q2 (aa.chk rfl (aa.chk hf2 (aa.chk rfl (aa.call q3 (aa.chk rfl (aa.chk hf3 (aa.chk rfl ?_))))))))))))))))))
 cases hI:kT t with
 | some x' =>
  have hE:jL t=none:=by
   cases h:jL t with
   | none=>rfl
   | some _=>exact (one_IE hI h).elim
  have hP:ia t=none:=by
   cases h:ia t with
   | none=>rfl
   | some _=>exact (one_IP hI h).elim
  rw [hI] at ex
  rw [hE,hP]
  obtain rfl:x=x':=ex
  obtain ⟨gd,hT⟩:=qf.1 hI
  have hshow:=qk (q:=some false) (e:=[I x.op,I x.dst,I x.a,I x.b,W x.k,I x.f,Ab.frz g1]) (x:=x) ⟨_,rfl,hg1.frz fun _ _ h=>h.frz,ok1⟩ (by have:=gd.2.2.2; omega)
  rw [hT] at hshow
  refine aa.ite (v:=true) rfl (fun _=>aa.ite (v:=false) rfl nofun fun _=>aa.ite (v:=false) rfl nofun fun _=>aa.call hshow (aa.chk rfl (aa.tv (jt _ _) (aa.ite (v:=false) (by simp [asBool]) nofun fun _=>aa.ite (v:=false) rfl nofun fun _=>aa.ite (v:=false) rfl nofun fun _=>f3_0_J hz)))) nofun
 | none =>
  refine aa.ite (v:=false) rfl nofun fun _=>?_
  cases hE:jL t with
  | some y' =>
   have hP:ia t=none:=by
    cases h:ia t with
    | none=>rfl
    | some _=>exact (one_EP hE h).elim
   rw [hE] at ey
   rw [hP]
   obtain rfl:y=y':=ey
   obtain ⟨gd,hT⟩:=pT.1 hE
   have hshow:=rQ (q:=some false) (e:=[I y.kind,I y.a,I y.dst,I y.f,Ab.frz g2,I y.to,I y.els,I y.pad]) (x:=y) ⟨_,rfl,hg2.frz fun _ _ h=>h.frz,ok2⟩ (by have:=gd.2.2.2; omega)
   rw [hT] at hshow
   exact aa.ite (v:=true) rfl (fun _=>aa.ite (v:=false) rfl nofun fun _=>aa.call hshow (aa.chk rfl (aa.tv (jt _ _) (aa.ite (v:=false) (by simp [asBool]) nofun fun _=>aa.ite (v:=false) rfl nofun fun _=>f3_0_J hz)))) nofun
  | none =>
   refine aa.ite (v:=false) rfl nofun fun _=>?_
   cases hP:ia t with
   | some p' =>
    rw [hP] at ep
    obtain rfl:p=p':=ep
    obtain ⟨gd,hT⟩:=uZ.1 hP
    have hshow:=wk (q:=some false) (e:=[I p.dst,Ab.frz g3,B p.all,B p.cleanup]) (x:=p) ⟨_,rfl,hg3.frz fun _ _ h=>⟨by rw [h.1]; rfl,h.2⟩,ok3⟩ (by have:=gd.2.2; omega)
    rw [hT] at hshow
    exact aa.ite (v:=true) rfl (fun _=>aa.call hshow (aa.chk rfl (aa.tv (jt _ _) (aa.ite (v:=false) (by simp [asBool]) nofun fun _=>f3_0_J hz)))) nofun
   | none=>exact aa.ite (v:=false) rfl nofun fun _=>f3_0_J hz
end Go.Ab.S13
end
section
namespace Go.Ab
section
variable {P:Program}
theorem C6:∀ t e,rq [] t=some e->aM P t e:=fun t e h=>by simp [rq] at h
theorem AX {l:List (Nat × TyD)} {k:Nat} {d:TyD} (h1:tyOf P k=some d) (h:∀ t e,rq l t=some e->aM P t e):∀ t e,rq ((k,d) :: l) t=some e->aM P t e:=by
 intro t e he
 simp only [rq] at he
 cases hk:k.beq t with
 | true =>
  rw [hk] at he
  have:k=t:=Nat.eq_of_beq_eq_true hk
  subst this
  cases he
  exact aM.of h1
 | false=>rw [hk] at he; exact h t e he
def Cm (P : Program) (f : FuncId) (fn : Func) : Prop := P.funcs[f]? = some fn ∧ (fn.name == "runtime.NumGoroutine") = false ∧ fn.body.isSome = true
theorem fn_nil:∀ (f:FuncId) (e:Func),(none:Option Func)=some e->Cm P f e:=fun f e h=>by cases h
theorem ap {g : FuncId → Option Func} {k : FuncId} {fn : Func} (h1 : P.funcs[k]? = some fn) (h2 : (fn.name == "runtime.NumGoroutine") = false) (h3 : fn.body.isSome = true) (h : ∀ f e, g f = some e → Cm P f e) :
  ∀ f e,(bif Nat.beq f k then some fn else g f)=some e->Cm P f e:=by
 intro f e he
 cases hk:Nat.beq f k with
 | true =>
  rw [hk] at he
  have:f=k:=Nat.eq_of_beq_eq_true hk
  subst this
  cases he
  exact ⟨h1,h2,h3⟩
 | false=>rw [hk] at he; exact h f e he
theorem dD.Cd {t:TypeId} {k:IntKind} {cs:List TV} (h:dD P t cs) (hu:P.underlying t=some (.int k)):∃ n,cs=[.lit (.int k n)]/\(Lit.int k n).wf=true:=by
 cases h with
 | int hu' hw=>rw [hu] at hu'; cases hu'; exact ⟨_,rfl,hw⟩
 | bool hu'=>rw [hu] at hu'; cases hu'
 | str hu'=>rw [hu] at hu'; cases hu'
 | nil hu'=>rw [hu] at hu'; cases hu'
 | sl hu'=>rw [hu] at hu'; cases hu'
 | struct hu'=>rw [hu] at hu'; cases hu'
 | arr hu'=>rw [hu] at hu'; cases hu'
theorem dD.str_at {t:TypeId} {cs:List TV} (h:dD P t cs) (hu:P.underlying t=some .string):∃ s,cs=[.lit (.string s)]/\s.size<=maxLen:=by
 cases h with
 | int hu' hw=>rw [hu] at hu'; cases hu'
 | bool hu'=>rw [hu] at hu'; cases hu'
 | str hu' hl=>exact ⟨_,rfl,hl⟩
 | nil hu'=>rw [hu] at hu'; cases hu'
 | sl hu'=>rw [hu] at hu'; cases hu'
 | struct hu'=>rw [hu] at hu'; cases hu'
 | arr hu'=>rw [hu] at hu'; cases hu'
theorem wf_u16 {n:Int} (h:(Lit.int .u16 n).wf=true):inW n:=by
 simp only [Lit.wf,Dw,decide_eq_true_eq] at h
 exact h
end
end Go.Ab
end

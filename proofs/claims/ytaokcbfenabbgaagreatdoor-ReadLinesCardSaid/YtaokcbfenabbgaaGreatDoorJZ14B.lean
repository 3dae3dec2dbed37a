import Derived.Test.YtaokcbfenabbgaaGreatDoorJZ14F219
import Derived.Test.YtaokcbfenabbgaaGreatDoorJZ14F192
import Derived.Test.YtaokcbfenabbgaaGreatDoorJZ14F23
import Derived.Test.YtaokcbfenabbgaaGreatDoorJZ14F193
import Derived.Test.YtaokcbfenabbgaaGreatDoorJZ14Xa
import Derived.Lib.UnsafeStr
import Derived.WalkKit
import Derived.BigCall
import Derived.BigGuard
import Derived.Shelf.RegionOpenPlain
import Derived.Test.YtaokcbfenabbgaaGreatDoorProg
set_option linter.all false
section
set_option maxRecDepth 20000
namespace Go.Ab
theorem jI {l:List Int} (h:∀ n,n ∈ l->0<=n/\n<=65535) (i:Nat):0<=l.getD i 0/\l.getD i 0<=65535:=by
 rw [D7]
 cases hi:l[i]? with
 | none=>simp
 | some a=>exact h a (D1 hi)
theorem mkI_ok {k:Int} (hk:0<=k/\k<=13) {l:List Int} (h:∀ n,n ∈ l->0<=n/\n<=65535):(mkI k l).ok:=by
 have g0:=jI h 0
 have g1:=jI h 1
 have g2:=jI h 2
 unfold mkI DIns.ok inI inW
 repeat' split
 all_goals (dsimp only; refine ⟨⟨?_,?_⟩,⟨?_,?_⟩,⟨?_,?_⟩,⟨?_,?_⟩,⟨?_,?_⟩,⟨?_,?_⟩⟩ <;> omega)
theorem mkE_ok {k:Int} (hk:0<=k/\k<=6) {l:List Int} (h:∀ n,n ∈ l->0<=n/\n<=65535):(mkE k l).ok:=by
 have g0:=jI h 0
 have g1:=jI h 1
 have g2:=jI h 2
 have g3:=jI h 3
 unfold mkE DEnd.ok inI
 repeat' split
 all_goals (dsimp only; refine ⟨⟨?_,?_⟩,⟨?_,?_⟩,⟨?_,?_⟩,⟨?_,?_⟩,⟨?_,?_⟩,⟨?_,?_⟩,⟨?_,?_⟩⟩ <;> omega)
theorem C4 (ts:List (List UInt8)) (j:Nat):(if j < ts.length then puV (ts.getD j []) else 0)=(ts.map puV).getD j 0:=by
 split
 ·rename_i h
  rw [D7,D7,DY,DT h]
  rfl
 ·rename_i h
  rw [D7,D5 (by rw [List.length_map]; omega)]
  rfl
end Go.Ab
namespace Go.Ab.Z14
open Go Go.Ab Go.Proofs
theorem rInsOf {q:Option Bool} {ws:TV} {ts:List (List UInt8)} (hx:RStrs q ws ts) (hl:ts.length<=1000000) (hs:∀ t,t ∈ ts->t.length<=4000000000) {k:Int} (hk:0<=k/\k<=13) :
  ∃ e,aw prog 20 [I k,ws] (.agg e)/\RIns (some true) e (mkI k (ts.map puV)):=by
 have hok:(mkI k (ts.map puV)).ok:=mkI_ok hk fun n hn=>by
  obtain ⟨t,_,rfl⟩:=List.mem_map.1 hn
  exact c9 t
 obtain ⟨w0,g0,p0⟩:=lI0 hx hl hs (op:=k)
 obtain ⟨w2,g2,p2⟩:=lI2 hx hl hs (op:=k)
 obtain ⟨w4,g4,p4⟩:=lI4 hx hl hs (op:=k)
 obtain ⟨w5,g5,p5⟩:=lI5 hx hl hs (op:=k)
 obtain ⟨w6,g6,p6⟩:=lI6 hx hl hs (op:=k)
 obtain ⟨w7,g7,p7⟩:=lI7 hx hl hs (op:=k)
 obtain ⟨w8,g8,p8⟩:=lI8 hx hl hs (op:=k)
 simp only [yO,C4] at p0 p2 p4 p5 p6 p7 p8
 rcases (by omega:k=0\/k=1\/k=2\/k=3\/k=4\/k=5\/k=6\/k=7\/k=8\/k=9\/k=10\/k=11\/k=12\/k=13) with rfl | rfl | rfl | rfl | rfl | rfl | rfl | rfl | rfl | rfl | rfl | rfl | rfl | rfl
 ·have hr:aa prog 20 (f20_M (I 0) ws) (.agg [I 0,I 0,I 0,I 0,W 0,I 0,.lit af]):=by
   unfold f20_M
   refine aa.chk rfl ?_
   refine aa.tv rfl (aa.ite (v:=false) rfl nofun fun _=>?_)
   refine aa.tv rfl (aa.ite (v:=false) rfl nofun fun _=>?_)
   refine aa.tv rfl (f20_1_J ?_)
   unfold f20_1
   refine aa.ite (v:=false) rfl nofun fun _=>?_
   refine aa.tv rfl (aa.ite (v:=false) rfl nofun fun _=>?_)
   refine aa.tv rfl (aa.ite (v:=false) rfl nofun fun _=>?_)
   refine aa.tv rfl (aa.ite (v:=false) rfl nofun fun _=>?_)
   refine aa.tv rfl (aa.ite (v:=false) rfl nofun fun _=>?_)
   refine aa.tv rfl (aa.ite (v:=false) rfl nofun fun _=>?_)
   refine aa.tv rfl (f20_3_J ?_)
   unfold f20_3
   refine aa.ite (v:=false) rfl nofun fun _=>?_
   refine aa.tv rfl (aa.ite (v:=false) rfl nofun fun _=>?_)
   refine aa.tv rfl (aa.ite (v:=false) rfl nofun fun _=>?_)
   refine aa.tv rfl (aa.ite (v:=false) rfl nofun fun _=>?_)
   refine aa.tv rfl (aa.ite (v:=false) rfl nofun fun _=>?_)
   exact aa.chk rfl aa.ret
  exact ⟨_,aw.of (f20_MR _ _) hr,_,rfl,RL.nil,hok⟩
 ·have hr:aa prog 20 (f20_M (I 1) ws) (.agg [I 1,I ((ts.map puV).getD 0 0),I 0,I 0,W ((ts.map puV).getD 1 0),I 0,.lit af]):=by
   unfold f20_M
   refine aa.chk rfl ?_
   refine aa.tv rfl (aa.ite (v:=true) rfl (fun _=>?_) nofun)
   exact aa.tv hx.len (aa.chk rfl (f20_0_J p0))
  exact ⟨_,aw.of (f20_MR _ _) hr,_,rfl,RL.nil,hok⟩
 ·have hr:aa prog 20 (f20_M (I 2) ws) (.agg [I 2,I ((ts.map puV).getD 0 0),I ((ts.map puV).getD 1 0),I 0,W 0,I 0,.lit af]):=by
   unfold f20_M
   refine aa.chk rfl ?_
   refine aa.tv rfl (aa.ite (v:=false) rfl nofun fun _=>?_)
   refine aa.tv rfl (aa.ite (v:=true) rfl (fun _=>?_) nofun)
   refine f20_1_J ?_
   unfold f20_1
   refine aa.ite (v:=true) rfl (fun _=>?_) nofun
   exact aa.tv hx.len (aa.chk rfl (f20_2_J p2))
  exact ⟨_,aw.of (f20_MR _ _) hr,_,rfl,RL.nil,hok⟩
 ·have hr:aa prog 20 (f20_M (I 3) ws) (.agg [I 3,I ((ts.map puV).getD 0 0),I ((ts.map puV).getD 1 0),I ((ts.map puV).getD 2 0),W 0,I 0,.lit af]):=by
   unfold f20_M
   refine aa.chk rfl ?_
   refine aa.tv rfl (aa.ite (v:=false) rfl nofun fun _=>?_)
   refine aa.tv rfl (aa.ite (v:=false) rfl nofun fun _=>?_)
   refine aa.tv rfl (f20_1_J ?_)
   unfold f20_1
   refine aa.ite (v:=false) rfl nofun fun _=>?_
   refine aa.tv rfl (aa.ite (v:=true) rfl (fun _=>?_) nofun)
   refine f20_3_J ?_
   unfold f20_3
   refine aa.ite (v:=true) rfl (fun _=>?_) nofun
   exact aa.tv hx.len (aa.chk rfl (f20_4_J p4))
  exact ⟨_,aw.of (f20_MR _ _) hr,_,rfl,RL.nil,hok⟩
 ·have hr:aa prog 20 (f20_M (I 4) ws) (.agg [I 4,I ((ts.map puV).getD 0 0),I ((ts.map puV).getD 1 0),I ((ts.map puV).getD 2 0),W 0,I 0,.lit af]):=by
   unfold f20_M
   refine aa.chk rfl ?_
   refine aa.tv rfl (aa.ite (v:=false) rfl nofun fun _=>?_)
   refine aa.tv rfl (aa.ite (v:=false) rfl nofun fun _=>?_)
   refine aa.tv rfl (f20_1_J ?_)
   unfold f20_1
   refine aa.ite (v:=false) rfl nofun fun _=>?_
   refine aa.tv rfl (aa.ite (v:=false) rfl nofun fun _=>?_)
   refine aa.tv rfl (aa.ite (v:=true) rfl (fun _=>?_) nofun)
   refine f20_3_J ?_
   unfold f20_3
   refine aa.ite (v:=true) rfl (fun _=>?_) nofun
   exact aa.tv hx.len (aa.chk rfl (f20_4_J p4))
  exact ⟨_,aw.of (f20_MR _ _) hr,_,rfl,RL.nil,hok⟩
 ·have hr:aa prog 20 (f20_M (I 5) ws) (.agg [I 5,I ((ts.map puV).getD 0 0),I ((ts.map puV).getD 1 0),I ((ts.map puV).getD 2 0),W 0,I 0,.lit af]):=by
   unfold f20_M
   refine aa.chk rfl ?_
   refine aa.tv rfl (aa.ite (v:=false) rfl nofun fun _=>?_)
   refine aa.tv rfl (aa.ite (v:=false) rfl nofun fun _=>?_)
   refine aa.tv rfl (f20_1_J ?_)
   unfold f20_1
   refine aa.ite (v:=false) rfl nofun fun _=>?_
   refine aa.tv rfl (aa.ite (v:=false) rfl nofun fun _=>?_)
   refine aa.tv rfl (aa.ite (v:=false) rfl nofun fun _=>?_)
   refine aa.tv rfl (aa.ite (v:=true) rfl (fun _=>?_) nofun)
   refine f20_3_J ?_
   unfold f20_3
   refine aa.ite (v:=true) rfl (fun _=>?_) nofun
   exact aa.tv hx.len (aa.chk rfl (f20_4_J p4))
  exact ⟨_,aw.of (f20_MR _ _) hr,_,rfl,RL.nil,hok⟩
 ·have hr:aa prog 20 (f20_M (I 6) ws) (.agg [I 6,I ((ts.map puV).getD 0 0),I ((ts.map puV).getD 1 0),I ((ts.map puV).getD 2 0),W 0,I 0,.lit af]):=by
   unfold f20_M
   refine aa.chk rfl ?_
   refine aa.tv rfl (aa.ite (v:=false) rfl nofun fun _=>?_)
   refine aa.tv rfl (aa.ite (v:=false) rfl nofun fun _=>?_)
   refine aa.tv rfl (f20_1_J ?_)
   unfold f20_1
   refine aa.ite (v:=false) rfl nofun fun _=>?_
   refine aa.tv rfl (aa.ite (v:=false) rfl nofun fun _=>?_)
   refine aa.tv rfl (aa.ite (v:=false) rfl nofun fun _=>?_)
   refine aa.tv rfl (aa.ite (v:=false) rfl nofun fun _=>?_)
   refine aa.tv rfl (aa.ite (v:=true) rfl (fun _=>?_) nofun)
   refine f20_3_J ?_
   unfold f20_3
   refine aa.ite (v:=true) rfl (fun _=>?_) nofun
   exact aa.tv hx.len (aa.chk rfl (f20_4_J p4))
  exact ⟨_,aw.of (f20_MR _ _) hr,_,rfl,RL.nil,hok⟩
 ·have hr:aa prog 20 (f20_M (I 7) ws) (.agg [I 7,I ((ts.map puV).getD 0 0),I ((ts.map puV).getD 1 0),I ((ts.map puV).getD 2 0),W 0,I 0,.lit af]):=by
   unfold f20_M
   refine aa.chk rfl ?_
   refine aa.tv rfl (aa.ite (v:=false) rfl nofun fun _=>?_)
   refine aa.tv rfl (aa.ite (v:=false) rfl nofun fun _=>?_)
   refine aa.tv rfl (f20_1_J ?_)
   unfold f20_1
   refine aa.ite (v:=false) rfl nofun fun _=>?_
   refine aa.tv rfl (aa.ite (v:=false) rfl nofun fun _=>?_)
   refine aa.tv rfl (aa.ite (v:=false) rfl nofun fun _=>?_)
   refine aa.tv rfl (aa.ite (v:=false) rfl nofun fun _=>?_)
   refine aa.tv rfl (aa.ite (v:=false) rfl nofun fun _=>?_)
   refine aa.tv rfl (aa.ite (v:=true) rfl (fun _=>?_) nofun)
   refine f20_3_J ?_
   unfold f20_3
   refine aa.ite (v:=true) rfl (fun _=>?_) nofun
   exact aa.tv hx.len (aa.chk rfl (f20_4_J p4))
  exact ⟨_,aw.of (f20_MR _ _) hr,_,rfl,RL.nil,hok⟩
 ·have hr:aa prog 20 (f20_M (I 8) ws) (.agg [I 8,I ((ts.map puV).getD 0 0),I ((ts.map puV).getD 1 0),I ((ts.map puV).getD 2 0),W 0,I 0,.lit af]):=by
   unfold f20_M
   refine aa.chk rfl ?_
   refine aa.tv rfl (aa.ite (v:=false) rfl nofun fun _=>?_)
   refine aa.tv rfl (aa.ite (v:=false) rfl nofun fun _=>?_)
   refine aa.tv rfl (f20_1_J ?_)
   unfold f20_1
   refine aa.ite (v:=false) rfl nofun fun _=>?_
   refine aa.tv rfl (aa.ite (v:=false) rfl nofun fun _=>?_)
   refine aa.tv rfl (aa.ite (v:=false) rfl nofun fun _=>?_)
   refine aa.tv rfl (aa.ite (v:=false) rfl nofun fun _=>?_)
   refine aa.tv rfl (aa.ite (v:=false) rfl nofun fun _=>?_)
   refine aa.tv rfl (aa.ite (v:=false) rfl nofun fun _=>?_)
   refine aa.tv rfl (f20_3_J ?_)
   unfold f20_3
   refine aa.ite (v:=true) rfl (fun _=>?_) nofun
   exact aa.tv hx.len (aa.chk rfl (f20_4_J p4))
  exact ⟨_,aw.of (f20_MR _ _) hr,_,rfl,RL.nil,hok⟩
 ·have hr:aa prog 20 (f20_M (I 9) ws) (.agg [I 9,I ((ts.map puV).getD 0 0),I ((ts.map puV).getD 1 0),I 0,W 0,I 0,.lit af]):=by
   unfold f20_M
   refine aa.chk rfl ?_
   refine aa.tv rfl (aa.ite (v:=false) rfl nofun fun _=>?_)
   refine aa.tv rfl (aa.ite (v:=false) rfl nofun fun _=>?_)
   refine aa.tv rfl (f20_1_J ?_)
   unfold f20_1
   refine aa.ite (v:=true) rfl (fun _=>?_) nofun
   exact aa.tv hx.len (aa.chk rfl (f20_2_J p2))
  exact ⟨_,aw.of (f20_MR _ _) hr,_,rfl,RL.nil,hok⟩
 ·have hr:aa prog 20 (f20_M (I 10) ws) (.agg [I 10,I 0,I ((ts.map puV).getD 0 0),I ((ts.map puV).getD 1 0),W 0,I 0,.lit af]):=by
   unfold f20_M
   refine aa.chk rfl ?_
   refine aa.tv rfl (aa.ite (v:=false) rfl nofun fun _=>?_)
   refine aa.tv rfl (aa.ite (v:=false) rfl nofun fun _=>?_)
   refine aa.tv rfl (f20_1_J ?_)
   unfold f20_1
   refine aa.ite (v:=false) rfl nofun fun _=>?_
   refine aa.tv rfl (aa.ite (v:=false) rfl nofun fun _=>?_)
   refine aa.tv rfl (aa.ite (v:=false) rfl nofun fun _=>?_)
   refine aa.tv rfl (aa.ite (v:=false) rfl nofun fun _=>?_)
   refine aa.tv rfl (aa.ite (v:=false) rfl nofun fun _=>?_)
   refine aa.tv rfl (aa.ite (v:=false) rfl nofun fun _=>?_)
   refine aa.tv rfl (f20_3_J ?_)
   unfold f20_3
   refine aa.ite (v:=false) rfl nofun fun _=>?_
   refine aa.tv rfl (aa.ite (v:=true) rfl (fun _=>?_) nofun)
   exact aa.tv hx.len (aa.chk rfl (f20_5_J p5))
  exact ⟨_,aw.of (f20_MR _ _) hr,_,rfl,RL.nil,hok⟩
 ·have hr:aa prog 20 (f20_M (I 11) ws) (.agg [I 11,I ((ts.map puV).getD 0 0),I 0,I 0,W 0,I ((ts.map puV).getD 1 0),w6]):=by
   unfold f20_M
   refine aa.chk rfl ?_
   refine aa.tv rfl (aa.ite (v:=false) rfl nofun fun _=>?_)
   refine aa.tv rfl (aa.ite (v:=false) rfl nofun fun _=>?_)
   refine aa.tv rfl (f20_1_J ?_)
   unfold f20_1
   refine aa.ite (v:=false) rfl nofun fun _=>?_
   refine aa.tv rfl (aa.ite (v:=false) rfl nofun fun _=>?_)
   refine aa.tv rfl (aa.ite (v:=false) rfl nofun fun _=>?_)
   refine aa.tv rfl (aa.ite (v:=false) rfl nofun fun _=>?_)
   refine aa.tv rfl (aa.ite (v:=false) rfl nofun fun _=>?_)
   refine aa.tv rfl (aa.ite (v:=false) rfl nofun fun _=>?_)
   refine aa.tv rfl (f20_3_J ?_)
   unfold f20_3
   refine aa.ite (v:=false) rfl nofun fun _=>?_
   refine aa.tv rfl (aa.ite (v:=false) rfl nofun fun _=>?_)
   refine aa.tv rfl (aa.ite (v:=true) rfl (fun _=>?_) nofun)
   exact aa.tv hx.len (aa.chk rfl (f20_6_J p6))
  exact ⟨_,aw.of (f20_MR _ _) hr,_,rfl,(by show RInts _ w6 ((ts.map puV).drop 2); rw [<- List.map_drop]; exact g6),hok⟩
 ·have hr:aa prog 20 (f20_M (I 12) ws) (.agg [I 12,I 0,I ((ts.map puV).getD 0 0),I 0,W 0,I 0,.lit af]):=by
   unfold f20_M
   refine aa.chk rfl ?_
   refine aa.tv rfl (aa.ite (v:=false) rfl nofun fun _=>?_)
   refine aa.tv rfl (aa.ite (v:=false) rfl nofun fun _=>?_)
   refine aa.tv rfl (f20_1_J ?_)
   unfold f20_1
   refine aa.ite (v:=false) rfl nofun fun _=>?_
   refine aa.tv rfl (aa.ite (v:=false) rfl nofun fun _=>?_)
   refine aa.tv rfl (aa.ite (v:=false) rfl nofun fun _=>?_)
   refine aa.tv rfl (aa.ite (v:=false) rfl nofun fun _=>?_)
   refine aa.tv rfl (aa.ite (v:=false) rfl nofun fun _=>?_)
   refine aa.tv rfl (aa.ite (v:=false) rfl nofun fun _=>?_)
   refine aa.tv rfl (f20_3_J ?_)
   unfold f20_3
   refine aa.ite (v:=false) rfl nofun fun _=>?_
   refine aa.tv rfl (aa.ite (v:=false) rfl nofun fun _=>?_)
   refine aa.tv rfl (aa.ite (v:=false) rfl nofun fun _=>?_)
   refine aa.tv rfl (aa.ite (v:=true) rfl (fun _=>?_) nofun)
   exact aa.tv hx.len (aa.chk rfl (f20_7_J p7))
  exact ⟨_,aw.of (f20_MR _ _) hr,_,rfl,RL.nil,hok⟩
 ·have hr:aa prog 20 (f20_M (I 13) ws) (.agg [I 13,I ((ts.map puV).getD 0 0),I 0,I 0,W 0,I 0,.lit af]):=by
   unfold f20_M
   refine aa.chk rfl ?_
   refine aa.tv rfl (aa.ite (v:=false) rfl nofun fun _=>?_)
   refine aa.tv rfl (aa.ite (v:=false) rfl nofun fun _=>?_)
   refine aa.tv rfl (f20_1_J ?_)
   unfold f20_1
   refine aa.ite (v:=false) rfl nofun fun _=>?_
   refine aa.tv rfl (aa.ite (v:=false) rfl nofun fun _=>?_)
   refine aa.tv rfl (aa.ite (v:=false) rfl nofun fun _=>?_)
   refine aa.tv rfl (aa.ite (v:=false) rfl nofun fun _=>?_)
   refine aa.tv rfl (aa.ite (v:=false) rfl nofun fun _=>?_)
   refine aa.tv rfl (aa.ite (v:=false) rfl nofun fun _=>?_)
   refine aa.tv rfl (f20_3_J ?_)
   unfold f20_3
   refine aa.ite (v:=false) rfl nofun fun _=>?_
   refine aa.tv rfl (aa.ite (v:=false) rfl nofun fun _=>?_)
   refine aa.tv rfl (aa.ite (v:=false) rfl nofun fun _=>?_)
   refine aa.tv rfl (aa.ite (v:=false) rfl nofun fun _=>?_)
   refine aa.tv rfl (aa.ite (v:=true) rfl (fun _=>?_) nofun)
   exact aa.tv hx.len (aa.chk rfl (f20_8_J p8))
  exact ⟨_,aw.of (f20_MR _ _) hr,_,rfl,RL.nil,hok⟩
theorem rEndOf {q:Option Bool} {ws:TV} {ts:List (List UInt8)} (hx:RStrs q ws ts) (hl:ts.length<=1000000) (hs:∀ t,t ∈ ts->t.length<=4000000000) {k:Int} (hk:0<=k/\k<=6) :
  ∃ e,aw prog 26 [I k,ws] (.agg e)/\REnd (some true) e (mkE k (ts.map puV)):=by
 have hok:(mkE k (ts.map puV)).ok:=mkE_ok hk fun n hn=>by
  obtain ⟨t,_,rfl⟩:=List.mem_map.1 hn
  exact c9 t
 obtain ⟨w1,g1,p1⟩:=lE1 hx hl hs (op:=k)
 obtain ⟨w2,g2,p2⟩:=lE2 hx hl hs (op:=k)
 obtain ⟨w3,g3,p3⟩:=lE3 hx hl hs (op:=k)
 obtain ⟨w4,g4,p4⟩:=lE4 hx hl hs (op:=k)
 simp only [yO] at p1 p2 p3 p4
 rcases (by omega:k=0\/k=1\/k=2\/k=3\/k=4\/k=5\/k=6) with rfl | rfl | rfl | rfl | rfl | rfl | rfl
 ·have hr:aa prog 26 (f26_M (I 0) ws) (.agg [I 0,I 0,I 0,I 0,.lit af,I 0,I 0,I 0]):=by
   unfold f26_M
   refine aa.chk rfl ?_
   refine aa.tv rfl (aa.ite (v:=false) rfl nofun fun _=>?_)
   refine aa.tv rfl (f26_0_J ?_)
   unfold f26_0
   refine aa.ite (v:=false) rfl nofun fun _=>?_
   refine aa.tv rfl (aa.ite (v:=false) rfl nofun fun _=>?_)
   refine aa.tv rfl (aa.ite (v:=false) rfl nofun fun _=>?_)
   refine aa.tv rfl (aa.ite (v:=false) rfl nofun fun _=>?_)
   exact aa.chk rfl aa.ret
  exact ⟨_,aw.of (f26_MR _ _) hr,_,rfl,RL.nil,hok⟩
 ·have hr:aa prog 26 (f26_M (I 1) ws) (.agg [I 1,I ((ts.map puV).getD 0 0),I 0,I 0,.lit af,I 0,I 0,I 0]):=by
   unfold f26_M
   refine aa.chk rfl ?_
   refine aa.tv rfl (aa.ite (v:=true) rfl (fun _=>?_) nofun)
   refine f26_0_J ?_
   unfold f26_0
   refine aa.ite (v:=true) rfl (fun _=>?_) nofun
   exact aa.tv hx.len (aa.chk rfl (f26_1_J p1))
  exact ⟨_,aw.of (f26_MR _ _) hr,_,rfl,RL.nil,hok⟩
 ·have hr:aa prog 26 (f26_M (I 2) ws) (.agg [I 2,I 0,I 0,I 0,.lit af,I ((ts.map puV).getD 0 0),I 0,I 0]):=by
   unfold f26_M
   refine aa.chk rfl ?_
   refine aa.tv rfl (aa.ite (v:=false) rfl nofun fun _=>?_)
   refine aa.tv rfl (f26_0_J ?_)
   unfold f26_0
   refine aa.ite (v:=false) rfl nofun fun _=>?_
   refine aa.tv rfl (aa.ite (v:=true) rfl (fun _=>?_) nofun)
   exact aa.tv hx.len (aa.chk rfl (f26_2_J p2))
  exact ⟨_,aw.of (f26_MR _ _) hr,_,rfl,RL.nil,hok⟩
 ·have hr:aa prog 26 (f26_M (I 3) ws) (.agg [I 3,I ((ts.map puV).getD 0 0),I 0,I 0,.lit af,I ((ts.map puV).getD 1 0),I ((ts.map puV).getD 2 0),I 0]):=by
   unfold f26_M
   refine aa.chk rfl ?_
   refine aa.tv rfl (aa.ite (v:=false) rfl nofun fun _=>?_)
   refine aa.tv rfl (f26_0_J ?_)
   unfold f26_0
   refine aa.ite (v:=false) rfl nofun fun _=>?_
   refine aa.tv rfl (aa.ite (v:=false) rfl nofun fun _=>?_)
   refine aa.tv rfl (aa.ite (v:=true) rfl (fun _=>?_) nofun)
   exact aa.tv hx.len (aa.chk rfl (f26_3_J p3))
  exact ⟨_,aw.of (f26_MR _ _) hr,_,rfl,RL.nil,hok⟩
 ·have hr:aa prog 26 (f26_M (I 4) ws) (.agg [I 4,I 0,I ((ts.map puV).getD 0 0),I ((ts.map puV).getD 1 0),w4,I ((ts.map puV).getD 2 0),I 0,I ((ts.map puV).getD 3 0)]):=by
   unfold f26_M
   refine aa.chk rfl ?_
   refine aa.tv rfl (aa.ite (v:=false) rfl nofun fun _=>?_)
   refine aa.tv rfl (f26_0_J ?_)
   unfold f26_0
   refine aa.ite (v:=false) rfl nofun fun _=>?_
   refine aa.tv rfl (aa.ite (v:=false) rfl nofun fun _=>?_)
   refine aa.tv rfl (aa.ite (v:=false) rfl nofun fun _=>?_)
   refine aa.tv rfl (aa.ite (v:=true) rfl (fun _=>?_) nofun)
   exact aa.tv hx.len (aa.chk rfl (f26_4_J p4))
  exact ⟨_,aw.of (f26_MR _ _) hr,_,rfl,(by show RInts _ w4 ((ts.map puV).drop 4); rw [<- List.map_drop]; exact g4),hok⟩
 ·have hr:aa prog 26 (f26_M (I 5) ws) (.agg [I 5,I ((ts.map puV).getD 0 0),I 0,I 0,.lit af,I 0,I 0,I 0]):=by
   unfold f26_M
   refine aa.chk rfl ?_
   refine aa.tv rfl (aa.ite (v:=false) rfl nofun fun _=>?_)
   refine aa.tv rfl (f26_0_J ?_)
   unfold f26_0
   refine aa.ite (v:=true) rfl (fun _=>?_) nofun
   exact aa.tv hx.len (aa.chk rfl (f26_1_J p1))
  exact ⟨_,aw.of (f26_MR _ _) hr,_,rfl,RL.nil,hok⟩
 ·have hr:aa prog 26 (f26_M (I 6) ws) (.agg [I 6,I 0,I 0,I 0,.lit af,I 0,I 0,I 0]):=by
   unfold f26_M
   refine aa.chk rfl ?_
   refine aa.tv rfl (aa.ite (v:=false) rfl nofun fun _=>?_)
   refine aa.tv rfl (f26_0_J ?_)
   unfold f26_0
   refine aa.ite (v:=false) rfl nofun fun _=>?_
   refine aa.tv rfl (aa.ite (v:=false) rfl nofun fun _=>?_)
   refine aa.tv rfl (aa.ite (v:=false) rfl nofun fun _=>?_)
   refine aa.tv rfl (aa.ite (v:=false) rfl nofun fun _=>?_)
   exact aa.chk rfl aa.ret
  exact ⟨_,aw.of (f26_MR _ _) hr,_,rfl,RL.nil,hok⟩
end Go.Ab.Z14
end
section
set_option maxRecDepth 20000
namespace Go.Ab
open Go.Ab.Z14
theorem qY:∀ (k:Nat) (s t:List UInt8),t ∈ Lib.splitK [32] 0 k s->t.length<=s.length
 | 0,s,t,h=>by
  rw [Lib.splitK,List.mem_singleton] at h
  rw [h]; exact Nat.le_refl _
 | k + 1, s, t, h => by
  rw [Lib.splitK] at h
  split at h
  ·rw [List.mem_singleton] at h
   rw [h]; exact Nat.le_refl _
  ·rcases List.mem_cons.1 h with rfl | h
   ·rw [List.length_take]; omega
   ·have:=qY k _ t h
    rw [List.length_drop] at this
    omega
theorem lT {s t:List UInt8} (h:t ∈ jK s):t.length<=s.length:=by
 rw [og] at h
 exact qY _ _ _ h
theorem qS {s w:List UInt8} {ts:List (List UInt8)} (hw:jK s=w :: ts):∀ (w':List UInt8) (ts':List (List UInt8)),plain w'->(∀ t,t ∈ ts'->plain t)->ts'.length<=13->s=dV w' ts'->w=w'/\ts=ts':=by
 intro w' ts' h1 h2 h3 h4
 subst h4
 rw [xa h1 h2 h3] at hw
 cases hw
 exact ⟨rfl,rfl⟩
theorem gY (a b:List UInt8):pbin .str .neq (Sb a) (Sb b)=some (B (!decide (a=b))):=by
 by_cases h:a=b
 ·subst h; simp [pbin,kr]
 ·simp [pbin,kr,h]
theorem nn (n:Nat):pbin (.int .i64) .gtr (I (n:Int)) (I 8)=some (B (decide (8 < n))):=by
 by_cases h:8 < n
 ·simp [pbin,fV,h]; omega
 ·simp [pbin,fV,h]; omega
end Go.Ab
namespace Go.Ab.Z14
open Go Go.Ab Go.Proofs
theorem rIns {s:List UInt8} (hs:s.length<=4000000000):∃ e,aw prog 6 [Sb s] (.tup [.agg e,B (iZ s).isSome])/\RIns (some true) e ((iZ s).getD ⟨0,0,0,0,0,0,[]⟩):=by
 obtain ⟨v0,h0,hv⟩:=xS hs
 obtain ⟨w,ts,hw,hl⟩:=kt s
 rw [hw] at hv
 have hmem:∀ t,t ∈ ts->t.length<=4000000000:=fun t ht=>Nat.le_trans (lT (s:=s) (by rw [hw]; exact D0 _ ht)) hs
 have hk:0<=opN w/\opN w<=13:=by
  rcases u5 w with h | ⟨h,_⟩ <;> omega
 obtain ⟨e3,he3,hr3⟩:=RL.pel hv (i:=0) rfl
 have hr3:e3=[Sb w]:=hr3
 subst hr3
 obtain ⟨y,hy1,hy2⟩:=RL.so hv (k:=1) (by simp)
 have hyf:RStrs (some false) (Ab.frz y) ts:=hy2.frz fun _ _ h=>by rw [show _=_ from h]; rfl
 obtain ⟨e,hi,ei⟩:=rInsOf hyf (by omega) hmem hk
 have heq:=fun x=>Cp (s:=s) (w:=w) (ts:=ts) (pu:=puV) c9 (fun n h1 h2=>qn h1 h2) (qS hw) (x:=x)
 obtain ⟨x,hx⟩:∃ x,x=mkI (opN w) (ts.map puV):=⟨_,rfl⟩
 rw [<- hx] at ei heq
 have hargs:x.args.length<=20:=by
  rw [hx]
  unfold mkI
  repeat' split
  all_goals (simp only [List.length_nil,List.length_drop,List.length_map]; omega)
 have hsz:(Bool.and (slSize v0 1) (Nat.blt 0 (w :: ts).length))=true:=by rw [RL.slSize hv]; simp
 have hsz2:(Bool.and (Bool.and (slSize v0 1) (Nat.ble 1 (w :: ts).length)) (Nat.ble (w :: ts).length (w :: ts).length))=true:=by rw [RL.slSize hv]; simp
 have hfit:ab zSl [v0] 0=true:=by simp [ab,zSl,aG,RL.isSl hv]
 obtain ⟨g,rfl,hg,hok⟩:=ei
 have hfit2:(Bool.and (TV.isAgg (.agg [I x.op,I x.dst,I x.a,I x.b,W x.k,I x.f,g]) 7) (ab xG (TV.cellsL true (.agg [I x.op,I x.dst,I x.a,I x.b,W x.k,I x.f,g])) 0))=true:=by simp [TV.isAgg,TV.cellsL,ab,xG,aG,hg.isSl,TV.isSc,scV]
 have none_of:¬ (x.op≠0/\x.args.length<=8/\uO x=s)->iZ s=none:=fun h=>by
  cases hq:iZ s with
  | none=>rfl
  | some z =>
   obtain ⟨h1,h2⟩:=(heq z).2 hq
   subst h1
   exact absurd h2 h
 have some_of:x.op≠0->x.args.length<=8->uO x=s->iZ s=some x:=fun h1 h2 h3=>(heq x).1 ⟨rfl,h1,h2,h3⟩
 suffices H:∃ e,aa prog 6 (f6_M (Sb s)) (.tup [.agg e,B (iZ s).isSome])/\RIns (some true) e ((iZ s).getD ⟨0,0,0,0,0,0,[]⟩) by
  obtain ⟨e,h1,h2⟩:=H
  exact ⟨e,aw.of (f6_MR _) h1,h2⟩
 have zero:RIns (some true) [I 0,I 0,I 0,I 0,W 0,I 0,.lit af] ⟨0,0,0,0,0,0,[]⟩:=⟨_,rfl,RL.nil,by unfold DIns.ok inI inW; decide⟩
 unfold f6_M
 have start:∀ {r:TV} {K:TV->Prg TV},aa prog 6 (K (B (decide (x.op=0)))) r->aa prog 6 (Prg.tv (pbin (Kd.int IntKind.i64) BinOp.eql (TV.cell (.agg [I x.op,I x.dst,I x.a,I x.b,W x.k,I x.f,g]) 0) (TV.lit (Value.int IntKind.i64 (0:Int)))) K) r:=fun h=>aa.tv (iEq _ _) h
 by_cases h1:x.op=0
 ·rw [none_of fun h=>h.1 h1]
  refine ⟨_,aa.call h0 (aa.chk hfit (aa.nat hv.slLen (aa.nat (v:=0) rfl (aa.chk hsz (aa.tvs he3 (aa.chk rfl (aa.call (yx w) (aa.chk rfl (aa.nat hv.slLen (aa.nat (v:=1) rfl (aa.chk hsz2 (aa.tv hy1 (aa.call hi (aa.chk hfit2 (start (aa.ite (v:=true) (by simp [asBool,h1]) (fun _=>aa.ret) nofun)))))))))))))))),zero⟩
 by_cases h2:x.args.length<=8
 case neg =>
  rw [none_of fun h=>h2 h.2.1]
  refine ⟨_,aa.call h0 (aa.chk hfit (aa.nat hv.slLen (aa.nat (v:=0) rfl (aa.chk hsz (aa.tvs he3 (aa.chk rfl (aa.call (yx w) (aa.chk rfl (aa.nat hv.slLen (aa.nat (v:=1) rfl (aa.chk hsz2 (aa.tv hy1 (aa.call hi (aa.chk hfit2 (start (aa.ite (v:=false) (by simp [asBool,h1]) nofun fun _=>aa.tv hg.len (aa.tv (nn _) (aa.ite (v:=true) (by simp [asBool]; omega) (fun _=>aa.ret) nofun)))))))))))))))))),zero⟩
 have hshow:=Aq (q:=some false) (e:=[I x.op,I x.dst,I x.a,I x.b,W x.k,I x.f,Ab.frz g]) ⟨_,rfl,hg.frz fun _ _ h=>h.frz,hok⟩ hargs
 by_cases h3:uO x=s
 ·rw [some_of h1 h2 h3]
  refine ⟨_,aa.call h0 (aa.chk hfit (aa.nat hv.slLen (aa.nat (v:=0) rfl (aa.chk hsz (aa.tvs he3 (aa.chk rfl (aa.call (yx w) (aa.chk rfl (aa.nat hv.slLen (aa.nat (v:=1) rfl (aa.chk hsz2 (aa.tv hy1 (aa.call hi (aa.chk hfit2 (start (aa.ite (v:=false) (by simp [asBool,h1]) nofun fun _=>aa.tv hg.len (aa.tv (nn _) (aa.ite (v:=false) (by simp [asBool]; omega) nofun fun _=>aa.call hshow (aa.chk rfl (aa.tv (gY _ _) (aa.ite (v:=false) (by simp [asBool,h3]) nofun fun _=>aa.ret))))))))))))))))))))),⟨g,rfl,hg,hok⟩⟩
 ·rw [none_of fun h=>h3 h.2.2]
  refine ⟨_,aa.call h0 (aa.chk hfit (aa.nat hv.slLen (aa.nat (v:=0) rfl (aa.chk hsz (aa.tvs he3 (aa.chk rfl (aa.call (yx w) (aa.chk rfl (aa.nat hv.slLen (aa.nat (v:=1) rfl (aa.chk hsz2 (aa.tv hy1 (aa.call hi (aa.chk hfit2 (start (aa.ite (v:=false) (by simp [asBool,h1]) nofun fun _=>aa.tv hg.len (aa.tv (nn _) (aa.ite (v:=false) (by simp [asBool]; omega) nofun fun _=>aa.call hshow (aa.chk rfl (aa.tv (gY _ _) (aa.ite (v:=true) (by simp [asBool,h3]) (fun _=>aa.ret) nofun))))))))))))))))))))),zero⟩
theorem rEnd {s:List UInt8} (hs:s.length<=4000000000):∃ e,aw prog 8 [Sb s] (.tup [.agg e,B (iH s).isSome])/\REnd (some true) e ((iH s).getD ⟨0,0,0,0,[],0,0,0⟩):=by
 obtain ⟨v0,h0,hv⟩:=xS hs
 obtain ⟨w,ts,hw,hl⟩:=kt s
 rw [hw] at hv
 have hmem:∀ t,t ∈ ts->t.length<=4000000000:=fun t ht=>Nat.le_trans (lT (s:=s) (by rw [hw]; exact D0 _ ht)) hs
 have hk:0<=kN w/\kN w<=6:=by
  rcases yW w with h | ⟨h,_⟩ <;> omega
 obtain ⟨e3,he3,hr3⟩:=RL.pel hv (i:=0) rfl
 have hr3:e3=[Sb w]:=hr3
 subst hr3
 obtain ⟨y,hy1,hy2⟩:=RL.so hv (k:=1) (by simp)
 have hyf:RStrs (some false) (Ab.frz y) ts:=hy2.frz fun _ _ h=>by rw [show _=_ from h]; rfl
 obtain ⟨e,hi,ei⟩:=rEndOf hyf (by omega) hmem hk
 have heq:=fun x=>BS (s:=s) (w:=w) (ts:=ts) (pu:=puV) c9 (fun n h1 h2=>qn h1 h2) (qS hw) (x:=x)
 obtain ⟨x,hx⟩:∃ x,x=mkE (kN w) (ts.map puV):=⟨_,rfl⟩
 rw [<- hx] at ei heq
 have hargs:x.args.length<=20:=by
  rw [hx]
  unfold mkE
  repeat' split
  all_goals (simp only [List.length_nil,List.length_drop,List.length_map]; omega)
 have hsz:(Bool.and (slSize v0 1) (Nat.blt 0 (w :: ts).length))=true:=by rw [RL.slSize hv]; simp
 have hsz2:(Bool.and (Bool.and (slSize v0 1) (Nat.ble 1 (w :: ts).length)) (Nat.ble (w :: ts).length (w :: ts).length))=true:=by rw [RL.slSize hv]; simp
 have hfit:ab zSl [v0] 0=true:=by simp [ab,zSl,aG,RL.isSl hv]
 obtain ⟨g,rfl,hg,hok⟩:=ei
 have hfit2:(Bool.and (TV.isAgg (.agg [I x.kind,I x.a,I x.dst,I x.f,g,I x.to,I x.els,I x.pad]) 8) (ab wX (TV.cellsL true (.agg [I x.kind,I x.a,I x.dst,I x.f,g,I x.to,I x.els,I x.pad])) 0))=true:=by simp [TV.isAgg,TV.cellsL,ab,wX,aG,hg.isSl,TV.isSc,scV]
 have none_of:¬ (x.kind≠0/\x.args.length<=8/\uu x=s)->iH s=none:=fun h=>by
  cases hq:iH s with
  | none=>rfl
  | some z =>
   obtain ⟨h1,h2⟩:=(heq z).2 hq
   subst h1
   exact absurd h2 h
 have some_of:x.kind≠0->x.args.length<=8->uu x=s->iH s=some x:=fun h1 h2 h3=>(heq x).1 ⟨rfl,h1,h2,h3⟩
 suffices H:∃ e,aa prog 8 (f8_M (Sb s)) (.tup [.agg e,B (iH s).isSome])/\REnd (some true) e ((iH s).getD ⟨0,0,0,0,[],0,0,0⟩) by
  obtain ⟨e,h1,h2⟩:=H
  exact ⟨e,aw.of (f8_MR _) h1,h2⟩
 have zero:REnd (some true) [I 0,I 0,I 0,I 0,.lit af,I 0,I 0,I 0] ⟨0,0,0,0,[],0,0,0⟩:=⟨_,rfl,RL.nil,by unfold DEnd.ok inI; decide⟩
 unfold f8_M
 have start:∀ {r:TV} {K:TV->Prg TV},aa prog 8 (K (B (decide (x.kind=0)))) r->aa prog 8 (Prg.tv (pbin (Kd.int IntKind.i64) BinOp.eql (TV.cell (.agg [I x.kind,I x.a,I x.dst,I x.f,g,I x.to,I x.els,I x.pad]) 0) (TV.lit (Value.int IntKind.i64 (0:Int)))) K) r:=fun h=>aa.tv (iEq _ _) h
 by_cases h1:x.kind=0
 ·rw [none_of fun h=>h.1 h1]
  refine ⟨_,aa.call h0 (aa.chk hfit (aa.nat hv.slLen (aa.nat (v:=0) rfl (aa.chk hsz (aa.tvs he3 (aa.chk rfl (aa.call (pV w) (aa.chk rfl (aa.nat hv.slLen (aa.nat (v:=1) rfl (aa.chk hsz2 (aa.tv hy1 (aa.call hi (aa.chk hfit2 (start (aa.ite (v:=true) (by simp [asBool,h1]) (fun _=>aa.ret) nofun)))))))))))))))),zero⟩
 by_cases h2:x.args.length<=8
 case neg =>
  rw [none_of fun h=>h2 h.2.1]
  refine ⟨_,aa.call h0 (aa.chk hfit (aa.nat hv.slLen (aa.nat (v:=0) rfl (aa.chk hsz (aa.tvs he3 (aa.chk rfl (aa.call (pV w) (aa.chk rfl (aa.nat hv.slLen (aa.nat (v:=1) rfl (aa.chk hsz2 (aa.tv hy1 (aa.call hi (aa.chk hfit2 (start (aa.ite (v:=false) (by simp [asBool,h1]) nofun fun _=>aa.tv hg.len (aa.tv (nn _) (aa.ite (v:=true) (by simp [asBool]; omega) (fun _=>aa.ret) nofun)))))))))))))))))),zero⟩
 have hshow:=Cx (q:=some false) (e:=[I x.kind,I x.a,I x.dst,I x.f,Ab.frz g,I x.to,I x.els,I x.pad]) ⟨_,rfl,hg.frz fun _ _ h=>h.frz,hok⟩ hargs
 by_cases h3:uu x=s
 ·rw [some_of h1 h2 h3]
  refine ⟨_,aa.call h0 (aa.chk hfit (aa.nat hv.slLen (aa.nat (v:=0) rfl (aa.chk hsz (aa.tvs he3 (aa.chk rfl (aa.call (pV w) (aa.chk rfl (aa.nat hv.slLen (aa.nat (v:=1) rfl (aa.chk hsz2 (aa.tv hy1 (aa.call hi (aa.chk hfit2 (start (aa.ite (v:=false) (by simp [asBool,h1]) nofun fun _=>aa.tv hg.len (aa.tv (nn _) (aa.ite (v:=false) (by simp [asBool]; omega) nofun fun _=>aa.call hshow (aa.chk rfl (aa.tv (gY _ _) (aa.ite (v:=false) (by simp [asBool,h3]) nofun fun _=>aa.ret))))))))))))))))))))),⟨g,rfl,hg,hok⟩⟩
 ·rw [none_of fun h=>h3 h.2.2]
  refine ⟨_,aa.call h0 (aa.chk hfit (aa.nat hv.slLen (aa.nat (v:=0) rfl (aa.chk hsz (aa.tvs he3 (aa.chk rfl (aa.call (pV w) (aa.chk rfl (aa.nat hv.slLen (aa.nat (v:=1) rfl (aa.chk hsz2 (aa.tv hy1 (aa.call hi (aa.chk hfit2 (start (aa.ite (v:=false) (by simp [asBool,h1]) nofun fun _=>aa.tv hg.len (aa.tv (nn _) (aa.ite (v:=false) (by simp [asBool]; omega) nofun fun _=>aa.call hshow (aa.chk rfl (aa.tv (gY _ _) (aa.ite (v:=true) (by simp [asBool,h3]) (fun _=>aa.ret) nofun))))))))))))))))))))),zero⟩
end Go.Ab.Z14
end
section
set_option maxRecDepth 20000
namespace Go.Ab
open Go.Ab.Z14
theorem xe {α β:Type} (f:β->α->β) (b:β) {l:List α} {k:Nat} {a:α} (h:l[k]? = some a):(l.take (k + 1)).foldl f b=f ((l.take k).foldl f b) a:=by
 rw [List.take_add_one,h,List.foldl_append]
 rfl
theorem vk (k:Nat):pbin (.int .i64) .eql (I (k:Int)) (I 0)=some (B (decide (k=0))):=by
 rw [iEq]
 congr 3
 by_cases h:k=0 <;> simp [h]
end Go.Ab
namespace Go.Ab.Z14
open Go Go.Ab Go.Proofs
theorem rPadOf {q:Option Bool} {ws:TV} {ts:List (List UInt8)} (hx:RStrs q ws ts) (hl:ts.length<=1000000) (hs:∀ t,t ∈ ts->t.length<=4000000000) :
  ∃ e,aw prog 30 [ws] (.agg e)/\RPad (some true) e (pC puV ts):=by
 have key : ∀ (d k : Nat) (g : TV) (p : DPad), k + d = ts.length → p = pC puV (ts.take k) → RWords (some true) g p.catches → p.catches.length ≤ k → (0 ≤ p.dst ∧ p.dst ≤ 65535) →
   ∃ e,aa prog 30 (f30_0 ws (I (ts.length:Nat)) (I (k:Nat)) (I p.dst) (B p.all) (B p.cleanup) g) (.agg e)/\RPad (some true) e (pC puV ts):=by
  intro d
  induction d with
  | zero =>
   intro k g p hk hp hg hc hd
   have hk:k=ts.length:=by omega
   subst hk
   rw [List.take_length] at hp
   subst hp
   have ho:aD g=true:=RL.own hg fun _ _ h=>by rw [h.1]; rfl
   refine ⟨_,?_,g,rfl,hg,by unfold inI; omega⟩
   unfold f30_0
   refine aa.tv rfl (aa.ite bw nofun fun _=>aa.chk ?_ aa.ret)
   simp [bR,aD,ho]
  | succ d ih =>
   intro k g p hk hp hg hc hd
   have hkl:k < ts.length:=by omega
   obtain ⟨e,he,hr⟩:=hx.idx (k:=.i64) (cO hkl)
   have hr:e=[Sb (ts.getD k [])]:=hr
   subst hr
   have hnum:aw prog 48 [Sb (ts.getD k [])] (I (puV (ts.getD k []))):=dR (hs _ (dQ hkl))
   have hin:=c9 (ts.getD k [])
   have hat:=cO hkl
   generalize ts.getD k []=t at he hnum hin hat
   unfold f30_0
   by_cases h0:k=0
   ·subst h0
    have e1:pC puV (ts.take 1)=⟨puV t,[],false,false⟩:=by
     rw [List.take_add_one,hat]; rfl
    have e0:p=⟨0,[],false,false⟩:=by rw [hp]; rfl
    subst e0
    obtain ⟨e,i1,i2⟩:=ih 1 g ⟨puV t,[],false,false⟩ (by omega) e1.symm hg (by simp) hin
    refine ⟨e,?_,i2⟩
    refine aa.tv rfl (aa.ite (aK hkl) (fun _=>?_) nofun)
    refine aa.tvs he (aa.chk rfl (aa.tv (vk _) (aa.ite (v:=true) rfl (fun _=>?_) nofun)))
    exact aa.call hnum (aa.chk rfl (aa.tv (inc (n:=1) (by omega) (by omega)) (f30_0_J i1)))
   ·have est:pC puV (ts.take (k + 1))=cj puV p t:=by
     obtain ⟨j,rfl⟩:∃ j,k=j + 1:=⟨k - 1,by omega⟩
     cases ts with
     | nil=>simp at hkl
     | cons a r =>
      rw [hp]
      simp only [List.take_succ_cons,pC]
      exact xe _ _ (by simpa using hat)
    have step:aa prog 30=aa prog 30:=rfl
    by_cases h1:t=[99,97,116,99,104]
    ·obtain ⟨e,i1,i2⟩:=ih (k + 1) g p (by omega) (by rw [est]; unfold cj; rw [if_pos h1]) hg (by omega) hd
     refine ⟨e,?_,i2⟩
     refine aa.tv rfl (aa.ite (aK hkl) (fun _=>?_) nofun)
     refine aa.tvs he (aa.chk rfl (aa.tv (vk _) (aa.ite (v:=false) (by simp [asBool,h0]) nofun fun _=>?_)))
     exact aa.tv (dh t _) (aa.ite (v:=true) (by simp [asBool,h1]) (fun _=>aa.tv (inc (n:=k + 1) (by omega) (by omega)) (f30_0_J i1)) nofun)
    by_cases h2:t=[97,108,108]
    ·obtain ⟨e,i1,i2⟩:=ih (k + 1) g { p with all:=true } (by omega) (by rw [est]; unfold cj; rw [if_neg h1,if_pos h2]) hg (by show p.catches.length<=_; omega) hd
     refine ⟨e,?_,i2⟩
     refine aa.tv rfl (aa.ite (aK hkl) (fun _=>?_) nofun)
     refine aa.tvs he (aa.chk rfl (aa.tv (vk _) (aa.ite (v:=false) (by simp [asBool,h0]) nofun fun _=>?_)))
     refine aa.tv (dh t _) (aa.ite (v:=false) (by simp [asBool,h1]) nofun fun _=>?_)
     exact aa.tv (dh t _) (aa.ite (v:=true) (by simp [asBool,h2]) (fun _=>aa.tv (inc (n:=k + 1) (by omega) (by omega)) (f30_0_J i1)) nofun)
    by_cases h3:t=[99,108,101,97,110,117,112]
    ·obtain ⟨e,i1,i2⟩:=ih (k + 1) g { p with cleanup:=true } (by omega) (by rw [est]; unfold cj; rw [if_neg h1,if_neg h2,if_pos h3]) hg (by show p.catches.length<=_; omega) hd
     refine ⟨e,?_,i2⟩
     refine aa.tv rfl (aa.ite (aK hkl) (fun _=>?_) nofun)
     refine aa.tvs he (aa.chk rfl (aa.tv (vk _) (aa.ite (v:=false) (by simp [asBool,h0]) nofun fun _=>?_)))
     refine aa.tv (dh t _) (aa.ite (v:=false) (by simp [asBool,h1]) nofun fun _=>?_)
     refine aa.tv (dh t _) (aa.ite (v:=false) (by simp [asBool,h2]) nofun fun _=>?_)
     exact aa.tv (dh t _) (aa.ite (v:=true) (by simp [asBool,h3]) (fun _=>aa.tv (inc (n:=k + 1) (by omega) (by omega)) (f30_0_J i1)) nofun)
    ·obtain ⟨g',c1,c2⟩:=RL.snoc hg (e:=[W (puV t)]) (a:=puV t) ⟨rfl,by unfold inW; omega⟩ (by omega)
     obtain ⟨e,i1,i2⟩:=ih (k + 1) g' { p with catches:=p.catches ++ [puV t] } (by omega) (by rw [est]; unfold cj; rw [if_neg h1,if_neg h2,if_neg h3]) c2 (by simp; omega) hd
     refine ⟨e,?_,i2⟩
     refine aa.tv rfl (aa.ite (aK hkl) (fun _=>?_) nofun)
     refine aa.tvs he (aa.chk rfl (aa.tv (vk _) (aa.ite (v:=false) (by simp [asBool,h0]) nofun fun _=>?_)))
     refine aa.tv (dh t _) (aa.ite (v:=false) (by simp [asBool,h1]) nofun fun _=>?_)
     refine aa.tv (dh t _) (aa.ite (v:=false) (by simp [asBool,h2]) nofun fun _=>?_)
     refine aa.tv (dh t _) (aa.ite (v:=false) (by simp [asBool,h3]) nofun fun _=>?_)
     exact aa.call hnum (aa.chk rfl (aa.tv (conv16 hin.1 hin.2) (aa.rws rfl (aa.tv c1 (aa.tv (inc (n:=k + 1) (by omega) (by omega)) (f30_0_J i1))))))
 obtain ⟨e,h1,h2⟩:=key ts.length 0 (.lit af) ⟨0,[],false,false⟩ (by omega) rfl RL.nil (by simp) (by decide)
 refine ⟨e,aw.of (f30_MR _) ?_,h2⟩
 unfold f30_M
 exact aa.tv hx.len (aa.chk rfl (f30_0_J h1))
theorem rPad {s:List UInt8} (hs:s.length<=4000000000):∃ e,aw prog 10 [Sb s] (.tup [.agg e,B (j0 s).isSome])/\RPad (some true) e ((j0 s).getD ⟨0,[],false,false⟩):=by
 obtain ⟨v0,h0,hv⟩:=xS hs
 obtain ⟨w,ts,hw,hl⟩:=kt s
 rw [hw] at hv
 have hmem:∀ t,t ∈ ts->t.length<=4000000000:=fun t ht=>Nat.le_trans (lT (s:=s) (by rw [hw]; exact D0 _ ht)) hs
 obtain ⟨y,hy1,hy2⟩:=RL.so hv (k:=1) (by simp)
 have hyf:RStrs (some false) (Ab.frz y) ts:=hy2.frz fun _ _ h=>by rw [show _=_ from h]; rfl
 obtain ⟨e,hi,ei⟩:=rPadOf hyf (by omega) hmem
 have heq:=fun x=>BG (s:=s) (w:=w) (ts:=ts) (pu:=puV) c9 (fun n h1 h2=>qn h1 h2) (qS hw) (p:=x)
 obtain ⟨x,hx⟩:∃ x,x=pC puV ts:=⟨_,rfl⟩
 rw [<- hx] at ei heq
 have hsz2:(Bool.and (Bool.and (slSize v0 1) (Nat.ble 1 (w :: ts).length)) (Nat.ble (w :: ts).length (w :: ts).length))=true:=by rw [RL.slSize hv]; simp
 have hfit:ab zSl [v0] 0=true:=by simp [ab,zSl,aG,RL.isSl hv]
 obtain ⟨g,rfl,hg,hok⟩:=ei
 have hfit2:(Bool.and (TV.isAgg (.agg [I x.dst,g,B x.all,B x.cleanup]) 4) (ab xP (TV.cellsL true (.agg [I x.dst,g,B x.all,B x.cleanup])) 0))=true:=by simp [TV.isAgg,TV.cellsL,ab,xP,aG,hg.isSl,TV.isSc,scV]
 have none_of:¬ (x.catches.length<=8/\uM x=s)->j0 s=none:=fun h=>by
  cases hq:j0 s with
  | none=>rfl
  | some z =>
   obtain ⟨h1,h2⟩:=(heq z).2 hq
   subst h1
   exact absurd h2 h
 have some_of:x.catches.length<=8->uM x=s->j0 s=some x:=fun h2 h3=>(heq x).1 ⟨rfl,h2,h3⟩
 suffices H:∃ e,aa prog 10 (f10_M (Sb s)) (.tup [.agg e,B (j0 s).isSome])/\RPad (some true) e ((j0 s).getD ⟨0,[],false,false⟩) by
  obtain ⟨e,h1,h2⟩:=H
  exact ⟨e,aw.of (f10_MR _) h1,h2⟩
 have zero:RPad (some true) [I 0,.lit af,B false,B false] ⟨0,[],false,false⟩:=⟨_,rfl,RL.nil,by unfold inI; decide⟩
 unfold f10_M
 have start:∀ {r:TV},aa prog 10 (Prg.ite (asBool (B (decide (8 < x.catches.length)))) (Prg.ret (.tup [.agg [I 0,.lit af,B false,B false],B false])) (Prg.call 31 [.agg [I x.dst,Ab.frz g,B x.all,B x.cleanup]] fun v7=>Prg.chk (ab cq [v7] 0) (Prg.tv (pbin Kd.str BinOp.neq v7 (Sb s)) fun v8=>Prg.ite (asBool v8) (Prg.ret (.tup [.agg [I 0,.lit af,B false,B false],B false])) (Prg.ret (.tup [.agg [I x.dst,g,B x.all,B x.cleanup],B true]))))) r->aa prog 10 (f10_M (Sb s)) r:=fun h=>by
  unfold f10_M
  exact aa.call h0 (aa.chk hfit (aa.nat hv.slLen (aa.nat (v:=1) rfl (aa.chk hsz2 (aa.tv hy1 (aa.call hi (aa.chk hfit2 (aa.tv hg.len (aa.tv (nn _) h)))))))))
 by_cases h2:x.catches.length<=8
 case neg =>
  rw [none_of fun h=>h2 h.1]
  exact ⟨_,start (aa.ite (v:=true) (by simp [asBool]; omega) (fun _=>aa.ret) nofun),zero⟩
 have hshow:=AB (q:=some false) (e:=[I x.dst,Ab.frz g,B x.all,B x.cleanup]) ⟨_,rfl,hg.frz fun _ _ h=>⟨by rw [h.1]; rfl,h.2⟩,hok⟩ (by omega)
 by_cases h3:uM x=s
 ·rw [some_of h2 h3]
  exact ⟨_,start (aa.ite (v:=false) (by simp [asBool]; omega) nofun fun _=>aa.call hshow (aa.chk rfl (aa.tv (gY _ _) (aa.ite (v:=false) (by simp [asBool,h3]) nofun fun _=>aa.ret)))),g,rfl,hg,hok⟩
 ·rw [none_of fun h=>h3 h.2]
  exact ⟨_,start (aa.ite (v:=false) (by simp [asBool]; omega) nofun fun _=>aa.call hshow (aa.chk rfl (aa.tv (gY _ _) (aa.ite (v:=true) (by simp [asBool,h3]) (fun _=>aa.ret) nofun)))),zero⟩
end Go.Ab.Z14
end
section
set_option maxRecDepth 20000
namespace Go.Ab.Z14
open Go Go.Ab Go.Proofs
abbrev padZ:DPad:=⟨0,[],false,false⟩
def PAns (o:Option DPad) (p:Prg TV):Prop:=∃ e,aa prog 11 p (.tup [.agg e,B o.isSome])/\RPad (some true) e (o.getD padZ)
theorem tg:RPad (some true) [I 0,.lit af,B false,B false] padZ:=⟨_,rfl,RL.nil,by unfold inI; decide⟩
theorem PAns.eq {o o':Option DPad} {p:Prg TV} (h:PAns o p) (e:o=o'):PAns o' p:=e ▸ h
theorem rdS {f:FuncId} {w:TV} {l:List (List UInt8)} {q:Option Bool} (hn:RStrs q w l) {i:Nat} {a:List UInt8} (h:l[i]? = some a) (hi:i<=1000000) {k:List TV->Prg TV} {r:TV} (hk:aa prog f (k [Sb a]) r) :
  aa prog f (Prg.nat (slLen w) fun n=>Prg.nat (al (I (i:Nat))) fun m=>Prg.chk (Bool.and (slSize w 1) (Nat.blt m n)) (Prg.tvs (pel w m) fun e=>Prg.chk (ab cq e 0) (k e))) r:=by
 obtain ⟨e,he,hr⟩:=RL.pel hn h
 have hr:e=[Sb a]:=hr
 subst hr
 have hlt:=(DS.1 h).1
 refine aa.nat (RL.slLen hn) (aa.nat (v:=i) (by simp [al]; omega) (aa.chk ?_ (aa.tvs he (aa.chk rfl hk))))
 rw [RL.slSize hn]
 simpa using hlt
theorem geq0 (n:Int):pbin (.int .i64) .geq (I n) (I 0)=some (B (decide (0<=n))):=by
 by_cases h:0<=n
 ·simp [pbin,fV,h]
 ·simp [pbin,fV,h]
theorem lss0 (n:Int):pbin (.int .i64) .lss (I n) (I 0)=some (B (decide (n < 0))):=by
 by_cases h:n < 0
 ·simp [pbin,fV,h]
 ·simp [pbin,fV,h]
section
variable {x:TV} {ws:List (List UInt8)} {d:Int} {g:TV} {ns:List Int}
theorem pad5 (hx:RStrs (some true) x ws) (hd:inI d) (hg:RWords (some true) g ns) {k:Nat} (hk:k<=ws.length) (a c:Bool):PAns (if ws.drop k=[] then some ⟨d,ns,a,c⟩ else none) (f11_5 (I (k:Nat)) x (I d) (B a) (B c) g):=by
 by_cases h:k=ws.length
 ·rw [if_pos (by rw [h]; simp)]
  refine ⟨[I d,g,B a,B c],?_,g,rfl,hg,hd⟩
  unfold f11_5
  exact aa.tv hx.len (aa.tv rfl (aa.ite (v:=false) (by simp [asBool,h]) nofun fun _=>aa.ret))
 ·rw [if_neg (by simp; omega)]
  refine ⟨_,?_,tg⟩
  unfold f11_5
  exact aa.tv hx.len (aa.tv rfl (aa.ite (v:=true) (by simp [asBool]; omega) (fun _=>aa.ret) nofun))
theorem pad4 (hx:RStrs (some true) x ws) (hl:ws.length<=1000000) (hd:inI d) (hg:RWords (some true) g ns) {k:Nat} (hk:k<=ws.length) (a:Bool) :
  PAns (if ws.drop k=[] then some ⟨d,ns,a,false⟩ else if ws.drop k=[dL] then some ⟨d,ns,a,true⟩ else none) (f11_4 (I (k:Nat)) x (I d) (B a) (B false) g):=by
 by_cases hkl:k < ws.length
 ·have hc:ws[k]? = some ws[k]:=DT hkl
  have hdk:ws.drop k=ws[k] :: ws.drop (k + 1):=List.drop_eq_getElem_cons hkl
  generalize ws[k]=t at hc hdk
  by_cases ht:t=dL
  ·subst ht
   obtain ⟨e,h1,h2⟩:=(pad5 hx hd hg (k:=k + 1) (by omega) a true).eq (o':=if ws.drop k=[] then some ⟨d,ns,a,false⟩ else if ws.drop k=[dL] then some ⟨d,ns,a,true⟩ else none) (by rw [hdk]; simp)
   refine ⟨e,?_,h2⟩
   unfold f11_4
   exact aa.tv hx.len (aa.tv rfl (aa.ite (aK hkl) (fun _=>rdS hx hc (by omega) (aa.tv (dh _ _) (aa.ite (v:=true) (by simp [asBool]) (fun _=>aa.tv (inc (n:=k + 1) (by omega) (by omega)) (f11_5_J h1)) nofun))) nofun))
  ·obtain ⟨e,h1,h2⟩:=(pad5 hx hd hg (k:=k) (by omega) a false).eq (o':=if ws.drop k=[] then some ⟨d,ns,a,false⟩ else if ws.drop k=[dL] then some ⟨d,ns,a,true⟩ else none) (by rw [hdk,if_neg (by simp),if_neg (by simp),if_neg (by simp [ht])])
   refine ⟨e,?_,h2⟩
   unfold f11_4
   exact aa.tv hx.len (aa.tv rfl (aa.ite (aK hkl) (fun _=>rdS hx hc (by omega) (aa.tv (dh _ _) (aa.ite (v:=false) (by simp [asBool,ht]) nofun fun _=>f11_5_J h1))) nofun))
 ·have hn:k=ws.length:=by omega
  obtain ⟨e,h1,h2⟩:=(pad5 hx hd hg (k:=k) hk a false).eq (o':=if ws.drop k=[] then some ⟨d,ns,a,false⟩ else if ws.drop k=[dL] then some ⟨d,ns,a,true⟩ else none) (by rw [hn]; simp)
  refine ⟨e,?_,h2⟩
  unfold f11_4
  subst hn
  exact aa.tv hx.len (aa.tv rfl (aa.ite bw nofun fun _=>f11_5_J h1))
def jV (d:Int) (ns:List Int) (l:List (List UInt8)):Option DPad:=match mW l with
 | none=>none
 | some (a,c)=>some ⟨d,ns,a,c⟩
theorem zH (d:Int) (ns:List Int) (r:List (List UInt8)):jV d ns (su :: r)=if r=[] then some ⟨d,ns,true,false⟩ else if r=[dL] then some ⟨d,ns,true,true⟩ else none:=by
 by_cases h1:r=[]
 ·subst h1; rfl
 by_cases h2:r=[dL]
 ·subst h2; rfl
 rw [if_neg h1,if_neg h2]
 unfold jV mW
 rw [if_neg (by simp),if_neg (by simp [h1]),if_neg (by intro h; cases h),if_neg (by intro h; exact h2 (by injection h))]
theorem AW {t:List UInt8} (ht:t≠su) (d:Int) (ns:List Int) (r:List (List UInt8)):jV d ns (t :: r)=if t :: r=[dL] then some ⟨d,ns,false,true⟩ else none:=by
 unfold jV mW
 rw [if_neg (by simp),if_neg (by simp [ht])]
 by_cases h:t :: r=[dL]
 ·rw [if_pos h,if_pos h]
 ·rw [if_neg h,if_neg h,if_neg (by intro h'; injection h' with h1 h2; exact ht h1)]
theorem pad2 (hx:RStrs (some true) x ws) (hl:ws.length<=1000000) (hd:inI d) (hg:RWords (some true) g ns) {k:Nat} (hk:k<=ws.length) :
  PAns (jV d ns (ws.drop k)) (f11_2 (I (k:Nat)) x (I d) (B false) (B false) g):=by
 by_cases hkl:k < ws.length
 ·have hc:ws[k]? = some ws[k]:=DT hkl
  have hdk:ws.drop k=ws[k] :: ws.drop (k + 1):=List.drop_eq_getElem_cons hkl
  generalize ws[k]=t at hc hdk
  by_cases ht:t=su
  ·subst ht
   obtain ⟨e,h1,h2⟩:=(pad4 hx hl hd hg (k:=k + 1) (by omega) true).eq (o':=jV d ns (ws.drop k)) (by rw [hdk,zH])
   refine ⟨e,?_,h2⟩
   unfold f11_2
   exact aa.tv hx.len (aa.tv rfl (aa.ite (aK hkl) (fun _=>rdS hx hc (by omega) (aa.tv (dh _ _) (aa.ite (v:=true) (by simp [asBool]) (fun _=>aa.tv (inc (n:=k + 1) (by omega) (by omega)) (f11_4_J h1)) nofun))) nofun))
  ·obtain ⟨e,h1,h2⟩:=(pad4 hx hl hd hg (k:=k) (by omega) false).eq (o':=jV d ns (ws.drop k)) (by rw [hdk,AW ht,if_neg (by simp)])
   refine ⟨e,?_,h2⟩
   unfold f11_2
   exact aa.tv hx.len (aa.tv rfl (aa.ite (aK hkl) (fun _=>rdS hx hc (by omega) (aa.tv (dh _ _) (aa.ite (v:=false) (by simp [asBool,ht]) nofun fun _=>f11_4_J h1))) nofun))
 ·have hn:k=ws.length:=by omega
  obtain ⟨e,h1,h2⟩:=(pad4 hx hl hd hg (k:=k) hk false).eq (o':=jV d ns (ws.drop k)) (by rw [hn]; simp [jV,mW])
  refine ⟨e,?_,h2⟩
  unfold f11_2
  subst hn
  exact aa.tv hx.len (aa.tv rfl (aa.ite bw nofun fun _=>f11_4_J h1))
def wu (d:Int) (ns:List Int) (l:List (List UInt8)):Option DPad:=if ns.length=0\/8 < ns.length then none else jV d ns l
theorem pad3 (hx:RStrs (some true) x ws) (hl:ws.length<=1000000) (hd:inI d) (hg:RWords (some true) g ns) {k:Nat} (hk:k<=ws.length) :
  PAns (wu d ns (ws.drop k)) (f11_3 (I (k:Nat)) x (I d) (B false) (B false) g):=by
 unfold wu
 by_cases h0:ns.length=0
 ·rw [if_pos (.inl h0)]
  refine ⟨_,?_,tg⟩
  unfold f11_3
  exact aa.tv hg.len (aa.tv (vk _) (aa.ite (v:=true) (by simp [asBool,h0]) (fun _=>aa.ret) nofun))
 by_cases h8:8 < ns.length
 ·rw [if_pos (.inr h8)]
  refine ⟨_,?_,tg⟩
  unfold f11_3
  exact aa.tv hg.len (aa.tv (vk _) (aa.ite (v:=false) (by simp [asBool,h0]) nofun fun _=>aa.tv hg.len (aa.tv (nn _) (aa.ite (v:=true) (by simp [asBool,h8]) (fun _=>aa.ret) nofun))))
 ·rw [if_neg (by omega)]
  obtain ⟨e,h1,h2⟩:=pad2 hx hl hd hg hk
  refine ⟨e,?_,h2⟩
  unfold f11_3
  exact aa.tv hg.len (aa.tv (vk _) (aa.ite (v:=false) (by simp [asBool,h0]) nofun fun _=>aa.tv hg.len (aa.tv (nn _) (aa.ite (v:=false) (by simp [asBool,h8]) nofun fun _=>f11_2_J h1))))
theorem pad1 (hx:RStrs (some true) x ws) (hl:ws.length<=1000000) (hd:inI d):∀ (n k:Nat) (g:TV) (ns:List Int),k + n=ws.length->RWords (some true) g ns->ns.length<=k ->
  PAns (wu d (ns ++ ((ws.drop k).takeWhile fun t=>decide (0<=aA t)).map aA) ((ws.drop k).dropWhile fun t=>decide (0<=aA t))) (f11_1 (I (k:Nat)) x (I d) (B false) (B false) g):=by
 intro n
 induction n with
 | zero =>
  intro k g ns hk hg hc
  have hn:k=ws.length:=by omega
  obtain ⟨e,h1,h2⟩:=(pad3 hx hl hd hg (k:=k) (by omega)).eq (o':=wu d (ns ++ ((ws.drop k).takeWhile fun t=>decide (0<=aA t)).map aA) ((ws.drop k).dropWhile fun t=>decide (0<=aA t))) (by rw [hn]; simp)
  refine ⟨e,?_,h2⟩
  unfold f11_1
  subst hn
  exact aa.tv hx.len (aa.tv rfl (aa.ite bw nofun fun _=>f11_3_J h1))
 | succ n ih =>
  intro k g ns hk hg hcl
  have hkl:k < ws.length:=by omega
  have hc:ws[k]? = some ws[k]:=DT hkl
  have hdk:ws.drop k=ws[k] :: ws.drop (k + 1):=List.drop_eq_getElem_cons hkl
  generalize ws[k]=t at hc hdk
  by_cases ht:0<=aA t
  ·have h16:=gG ht
   obtain ⟨g',c1,c2⟩:=RL.snoc hg (e:=[W (aA t)]) (a:=aA t) ⟨rfl,by unfold inW; omega⟩ (by omega)
   obtain ⟨e,h1,h2⟩:=(ih (k + 1) g' (ns ++ [aA t]) (by omega) c2 (by simp; omega)).eq (o':=wu d (ns ++ ((ws.drop k).takeWhile fun t=>decide (0<=aA t)).map aA) ((ws.drop k).dropWhile fun t=>decide (0<=aA t))) (by rw [hdk,List.takeWhile_cons_of_pos (by simpa using ht),List.dropWhile_cons_of_pos (by simpa using ht),List.map_cons,List.append_assoc]; rfl)
   refine ⟨e,?_,h2⟩
   unfold f11_1
   exact aa.tv hx.len (aa.tv rfl (aa.ite (aK hkl) (fun _=>rdS hx hc (by omega) (aa.call (ln t) (aa.chk rfl (aa.tv (geq0 _) (aa.ite (v:=true) (by simp [asBool,ht]) (fun _=>rdS hx hc (by omega) (aa.call (ln t) (aa.chk rfl (aa.tv (conv16 ht h16.2) (aa.rws rfl (aa.tv c1 (aa.tv (inc (n:=k + 1) (by omega) (by omega)) (f11_1_J h1)))))))) nofun))))) nofun))
  ·obtain ⟨e,h1,h2⟩:=(pad3 hx hl hd hg (k:=k) (by omega)).eq (o':=wu d (ns ++ ((ws.drop k).takeWhile fun t=>decide (0<=aA t)).map aA) ((ws.drop k).dropWhile fun t=>decide (0<=aA t))) (by rw [hdk,List.takeWhile_cons_of_neg (by simpa using ht),List.dropWhile_cons_of_neg (by simpa using ht)]; simp)
   refine ⟨e,?_,h2⟩
   unfold f11_1
   exact aa.tv hx.len (aa.tv rfl (aa.ite (aK hkl) (fun _=>rdS hx hc (by omega) (aa.call (ln t) (aa.chk rfl (aa.tv (geq0 _) (aa.ite (v:=false) (by simp [asBool,ht]) nofun fun _=>f11_3_J h1))))) nofun))
end
end Go.Ab.Z14
end
section
set_option maxRecDepth 20000
namespace Go.Ab
open Go.Ab.Z14
theorem asN {n:Nat} (h:n < 9223372036854775807):al (I (n:Nat))=some n:=by simp [al]; omega
section
variable (xs:List (List TV)) (P Q b v:TV)
end
end Go.Ab
namespace Go.Ab.Z14
open Go Go.Ab Go.Proofs
end Go.Ab.Z14
end
section
set_option maxRecDepth 100000
namespace Go.Ab.Z14
open Go Go.Ab Go.Proofs
theorem C5:aw prog 5 [] (B true):=⟨100,by kernel_rfl⟩
end Go.Ab.Z14
end
section
set_option maxRecDepth 20000
namespace Go.Ab.Z14
open Go Go.Ab Go.Proofs
theorem min300 (n:Nat):pmin false (I (n:Int)) (I 300)=some (I ((min n 300:Nat):Int)):=by
 show some (TV.lit (.int .i64 (if (300:Int) < (n:Int) then 300 else (n:Int))))=_
 congr 3
 split <;> omega
theorem sb_pre {l:List UInt8} {b:Nat} (h2:b<=l.length):pslice .str 0 (Sb l) none (some b)=some (Sb (l.take b)):=by
 have h:=xF (l:=l) (a:=0) (b:=b) (by omega) h2
 rw [show (l.drop 0).take (b - 0)=l.take b by simp] at h
 exact h
end Go.Ab.Z14
end
section
set_option maxRecDepth 20000
namespace Go.Ab.Z14
open Go Go.Ab Go.Proofs
def mO (d:Int) (r:List (List UInt8)):Option DPad:=match r with
 | []=>jV d [] []
 | t :: r2=>if t=dH then wu d ((r2.takeWhile fun t=>decide (0<=aA t)).map aA) (r2.dropWhile fun t=>decide (0<=aA t)) else jV d [] (t :: r2)
theorem AJ (d:Int) (r:List (List UInt8)):(match ku r with
  | none=>none
  | some (ns,r)=>match mW r with
   | none=>none
   | some (a,c)=>some (⟨d,ns,a,c⟩:DPad))=mO d r:=by
 cases r with
 | nil=>rfl
 | cons t r2 =>
  unfold mO
  by_cases ht:t=dH
  ·subst ht
   simp only [oY,if_true]
   unfold wu
   by_cases h:(r2.takeWhile fun t=>decide (0<=aA t)).length=0\/8 < (r2.takeWhile fun t=>decide (0<=aA t)).length
   ·rw [if_pos h,if_pos (by rw [List.length_map]; exact h)]
   ·rw [if_neg h,if_neg (by rw [List.length_map]; exact h)]; rfl
  ·simp only [ku,if_neg ht]
   rfl
theorem padR {x:TV} {ws:List (List UInt8)} {d:Int} (hx:RStrs (some true) x ws) (hl:ws.length<=1000000) (hd:inI d) (hk:2<=ws.length) (b:Bool) (hb:b=true ↔ ∃ r2,ws.drop 2=dH :: r2) :
  PAns (mO d (ws.drop 2)) (f11_0 (I 2) (B b) x (I d) (.lit af) (B false) (B false)):=by
 have h0:RWords (some true) (.lit af) []:=RL.nil
 cases b with
 | true =>
  obtain ⟨r2,hr⟩:=hb.1 rfl
  have h3:ws.drop 3=r2:=by
   have:(ws.drop 2).drop 1=r2:=by rw [hr]; rfl
   rw [List.drop_drop] at this
   exact this
  have hlen:3<=ws.length:=by
   have:=congrArg List.length hr
   simp at this
   omega
  obtain ⟨e,h1,h2⟩:=(pad1 hx hl hd (ws.length - 3) 3 (.lit af) [] (by omega) h0 (by simp)).eq (o':=mO d (ws.drop 2)) (by rw [h3,hr]; simp [mO])
  refine ⟨e,?_,h2⟩
  unfold f11_0
  exact aa.ite (v:=true) rfl (fun _=>aa.tv (inc (k:=2) (n:=3) (by omega) (by omega)) (aa.chk rfl (f11_1_J h1))) nofun
 | false =>
  obtain ⟨e,h1,h2⟩:=(pad2 hx hl hd h0 (k:=2) hk).eq (o':=mO d (ws.drop 2)) (by
   cases hr:ws.drop 2 with
   | nil=>rfl
   | cons t r2 =>
    have:t≠dH:=fun e=>by subst e; exact absurd (hb.2 ⟨r2,hr⟩) (by decide)
    simp only [mO,if_neg this])
  refine ⟨e,?_,h2⟩
  unfold f11_0
  exact aa.ite (v:=false) rfl nofun fun _=>aa.chk rfl (f11_2_J h1)
theorem rPad4 {s:List UInt8} (hs:s.length<=1000):∃ e,aw prog 11 [Sb s] (.tup [.agg e,B (j0 s).isSome])/\RPad (some true) e ((j0 s).getD padZ):=by
 suffices H:PAns (j0 s) (f11_M (Sb s)) by
  obtain ⟨e,h1,h2⟩:=H
  exact ⟨e,aw.of (f11_MR _) h1,h2⟩
 obtain ⟨v0,h0,hv⟩:=uE (s:=s) (by omega)
 have hsl:=jq s
 have hrp:j0 s=if (aC s).1=oM then (match (aC s).2 with
   | []=>none
   | t :: r=>if aA t < 0 then none else mO (aA t) r) else none:=by
  unfold j0
  by_cases h:(aC s).1=oM
  ·rw [if_pos h,if_pos h]
   cases (aC s).2 with
   | nil=>rfl
   | cons t r =>
    by_cases hn:aA t < 0
    ·simp only [if_pos hn]
    ·simp only [if_neg hn]; exact AJ _ _
  ·rw [if_neg h,if_neg h]
 rw [hrp]
 obtain ⟨w,hw⟩:∃ w,w=(aC s).1:=⟨_,rfl⟩
 obtain ⟨ts,hts⟩:∃ ts,ts=(aC s).2:=⟨_,rfl⟩
 rw [<- hw,<- hts] at hv ⊢
 rw [<- hts] at hsl
 have hfit:ab zSl [v0] 0=true:=by simp [ab,zSl,aG,RL.isSl hv]
 unfold f11_M
 have start:∀ {o:Option DPad} {K:List TV->Prg TV},PAns o (K [Sb w])->PAns o (Prg.call 23 [Sb s,TV.lit (Value.int IntKind.u8 (32:Int))] fun v0=>Prg.chk (ab zSl [v0] 0) (Prg.nat (slLen v0) fun n1=>Prg.nat (al (TV.lit (Value.int IntKind.i64 (0:Int)))) fun n2=>Prg.chk (Bool.and (slSize v0 1) (Nat.blt n2 n1)) (Prg.tvs (pel v0 n2) fun e3=>Prg.chk (ab cq e3 0) (K e3)))):=fun {o K} ⟨e,h1,h2⟩ =>
  ⟨e,aa.call h0 (aa.chk hfit (rdS hv (i:=0) rfl (by omega) h1)),h2⟩
 by_cases h1:w=oM
 case neg =>
  rw [if_neg h1]
  refine ⟨_,aa.call h0 (aa.chk hfit (rdS hv (i:=0) rfl (by omega) (aa.tv (gY _ _) (aa.ite (v:=true) (by simp [asBool,h1]) (fun _=>aa.ret) nofun)))),tg⟩
 rw [if_pos h1]
 cases ts with
 | nil =>
  refine ⟨_,aa.call h0 (aa.chk hfit (rdS hv (i:=0) rfl (by omega) (aa.tv (gY _ _) (aa.ite (v:=false) (by simp [asBool,h1]) nofun fun _=>aa.tv hv.len (aa.tv rfl (aa.ite (v:=true) rfl (fun _=>aa.ret) nofun)))))),tg⟩
 | cons t r =>
  have hln:(w :: t :: r).length=r.length + 2:=rfl
  have hrl:r.length + 2<=1000000:=by simp at hsl; omega
  by_cases hn:aA t < 0
  ·simp only [if_pos hn]
   refine ⟨_,aa.call h0 (aa.chk hfit (rdS hv (i:=0) rfl (by omega) (aa.tv (gY _ _) (aa.ite (v:=false) (by simp [asBool,h1]) nofun fun _=>aa.tv hv.len (aa.tv rfl (aa.ite (v:=false) (by simp [asBool]; omega) nofun fun _=>rdS hv (i:=1) rfl (by omega) (aa.call (ln t) (aa.chk rfl (aa.tv (lss0 _) (aa.ite (v:=true) (by simp [asBool,hn]) (fun _=>aa.ret) nofun)))))))))),tg⟩
  simp only [if_neg hn]
  have h16:=gG (s:=t) (by omega)
  have hd:inI (aA t):=by constructor <;> omega
  have go:∀ b:Bool,(b=true ↔ ∃ r2,r=dH :: r2)->PAns (mO (aA t) r) (f11_0 (I 2) (B b) v0 (I (aA t)) (.lit af) (B false) (B false)):=fun b hb=>padR hv (by rw [hln]; omega) hd (by rw [hln]; omega) b hb
  cases r with
  | nil =>
   obtain ⟨e,g1,g2⟩:=go false ⟨(fun h=>(nomatch h)),(fun ⟨_,h⟩=>(nomatch h))⟩
   refine ⟨e,aa.call h0 (aa.chk hfit (rdS hv (i:=0) rfl (by omega) (aa.tv (gY _ _) (aa.ite (v:=false) (by simp [asBool,h1]) nofun fun _=>aa.tv hv.len (aa.tv rfl (aa.ite (v:=false) rfl nofun fun _=>rdS hv (i:=1) rfl (by omega) (aa.call (ln t) (aa.chk rfl (aa.tv (lss0 _) (aa.ite (v:=false) (by simp [asBool]; omega) nofun fun _=>rdS hv (i:=1) rfl (by omega) (aa.call (ln t) (aa.chk rfl (aa.tv hv.len (aa.tv rfl (aa.ite (v:=false) rfl nofun fun _=>f11_0_J g1))))))))))))))),g2⟩
  | cons t2 r2 =>
   obtain ⟨e,g1,g2⟩:=go (decide (t2=dH)) ⟨fun h=>⟨r2,by rw [of_decide_eq_true h]⟩,fun ⟨_,h⟩=>by injection h with h3 _; exact decide_eq_true h3⟩
   refine ⟨e,aa.call h0 (aa.chk hfit (rdS hv (i:=0) rfl (by omega) (aa.tv (gY _ _) (aa.ite (v:=false) (by simp [asBool,h1]) nofun fun _=>aa.tv hv.len (aa.tv rfl (aa.ite (v:=false) (by simp [asBool]; omega) nofun fun _=>rdS hv (i:=1) rfl (by omega) (aa.call (ln t) (aa.chk rfl (aa.tv (lss0 _) (aa.ite (v:=false) (by simp [asBool]; omega) nofun fun _=>rdS hv (i:=1) rfl (by omega) (aa.call (ln t) (aa.chk rfl (aa.tv hv.len (aa.tv rfl (aa.ite (v:=true) (by simp [asBool]; omega) (fun _=>rdS hv (i:=2) rfl (by omega) (aa.tv (dh _ _) (f11_0_J g1))) nofun))))))))))))))),g2⟩
theorem eqB (b:Bool):pbin .bool .eql (B b) (B b)=some (B true):=by cases b <;> rfl
theorem rReadLines (s:List UInt8):aw prog 3 [Sb s] (B true):=by
 refine aw.of (f3_MR _) ?_
 unfold f3_M
 have hml:min s.length 300<=s.length:=Nat.min_le_left _ _
 obtain ⟨t,et⟩:∃ t,t=s.take (min s.length 300):=⟨_,rfl⟩
 have ht:t.length<=300:=by rw [et,List.length_take]; omega
 have hcut:=sb_pre hml
 rw [<- et] at hcut
 obtain ⟨e1,q1,hx1⟩:=rIns (s:=t) (by omega)
 obtain ⟨e2,q2,hx2⟩:=rEnd (s:=t) (by omega)
 obtain ⟨e3,q3,hx3⟩:=rPad (s:=t) (by omega)
 obtain ⟨e4,q4,hx4⟩:=rIns4 (s:=t) (by omega)
 obtain ⟨e5,q5,hx5⟩:=rEnd4 (s:=t) (by omega)
 obtain ⟨e6,q6,hx6⟩:=rPad4 (s:=t) (by omega)
 generalize (iZ t).getD ⟨0,0,0,0,0,0,[]⟩=x at hx1 hx4
 generalize (iH t).getD ⟨0,0,0,0,[],0,0,0⟩=y at hx2 hx5
 generalize (j0 t).getD ⟨0,[],false,false⟩=p at hx3 hx6
 generalize (iZ t).isSome=b1 at q1 q4
 generalize (iH t).isSome=b2 at q2 q5
 generalize (j0 t).isSome=b3 at q3 q6
 obtain ⟨g1,rfl,hg1,ok1⟩:=hx1
 obtain ⟨g2,rfl,hg2,ok2⟩:=hx2
 obtain ⟨g3,rfl,hg3,ok3⟩:=hx3
 obtain ⟨g4,rfl,hg4,ok4⟩:=hx4
 obtain ⟨g5,rfl,hg5,ok5⟩:=hx5
 obtain ⟨g6,rfl,hg6,ok6⟩:=hx6
 have hfI:∀ {q:Option Bool} {g:TV},RInts q g x.args->(Bool.and (TV.isAgg (.agg [I x.op,I x.dst,I x.a,I x.b,W x.k,I x.f,g]) 7) (ab xG (TV.cellsL true (.agg [I x.op,I x.dst,I x.a,I x.b,W x.k,I x.f,g])) 0))=true:=fun hg=>by simp [TV.isAgg,TV.cellsL,ab,xG,aG,hg.isSl,TV.isSc,scV]
 have hfE:∀ {q:Option Bool} {g:TV},RInts q g y.args->(Bool.and (TV.isAgg (.agg [I y.kind,I y.a,I y.dst,I y.f,g,I y.to,I y.els,I y.pad]) 8) (ab wX (TV.cellsL true (.agg [I y.kind,I y.a,I y.dst,I y.f,g,I y.to,I y.els,I y.pad])) 0))=true:=fun hg=>by simp [TV.isAgg,TV.cellsL,ab,wX,aG,hg.isSl,TV.isSc,scV]
 have hfP:∀ {q:Option Bool} {g:TV},RWords q g p.catches->(Bool.and (TV.isAgg (.agg [I p.dst,g,B p.all,B p.cleanup]) 4) (ab xP (TV.cellsL true (.agg [I p.dst,g,B p.all,B p.cleanup])) 0))=true:=fun hg=>by simp [TV.isAgg,TV.cellsL,ab,xP,aG,hg.isSl,TV.isSc,scV]
 have sI:=r46 (e:=[I x.op,I x.dst,I x.a,I x.b,W x.k,I x.f,Ab.frz g1]) (e':=[I x.op,I x.dst,I x.a,I x.b,W x.k,I x.f,Ab.frz g4]) (a:=x) (b:=x) ⟨_,rfl,hg1.frz fun _ _ h=>h.frz,ok1⟩ ⟨_,rfl,hg4.frz fun _ _ h=>h.frz,ok4⟩
 have sE:=r45 (e:=[I y.kind,I y.a,I y.dst,I y.f,Ab.frz g2,I y.to,I y.els,I y.pad]) (e':=[I y.kind,I y.a,I y.dst,I y.f,Ab.frz g5,I y.to,I y.els,I y.pad]) (a:=y) (b:=y) ⟨_,rfl,hg2.frz fun _ _ h=>h.frz,ok2⟩ ⟨_,rfl,hg5.frz fun _ _ h=>h.frz,ok5⟩
 have sP:=r44 (e:=[I p.dst,Ab.frz g3,B p.all,B p.cleanup]) (e':=[I p.dst,Ab.frz g6,B p.all,B p.cleanup]) (a:=p) (b:=p) ⟨_,rfl,hg3.frz fun _ _ h=>⟨by rw [h.1]; rfl,h.2⟩,ok3⟩ ⟨_,rfl,hg6.frz fun _ _ h=>⟨by rw [h.1]; rfl,h.2⟩,ok6⟩
 rw [yR rfl] at sI sE sP
 exact aa.call C5 (aa.chk rfl (aa.tv rfl (aa.ite (v:=false) rfl nofun fun _=>aa.tv (ew _) (aa.tv (min300 _) (aa.nat (asN (by omega)) (aa.tv hcut
  (aa.call q1 (aa.chk rfl (aa.chk (hfI hg1) (aa.chk rfl (aa.call q4 (aa.chk rfl (aa.chk (hfI hg4) (aa.chk rfl
  (aa.call q2 (aa.chk rfl (aa.chk (hfE hg2) (aa.chk rfl (aa.call q5 (aa.chk rfl (aa.chk (hfE hg5) (aa.chk rfl
  (aa.call q3 (aa.chk rfl (aa.chk (hfP hg3) (aa.chk rfl (aa.call q6 (aa.chk rfl (aa.chk (hfP hg6) (aa.chk rfl
  (aa.call sI (aa.chk rfl (aa.ite (v:=true) rfl (fun _=>aa.tv (eqB _) (aa.ite (v:=true) rfl (fun _ =>
  aa.call sE (aa.chk rfl (aa.ite (v:=true) rfl (fun _=>aa.tv (eqB _) (aa.ite (v:=true) rfl (fun _ =>
  aa.call sP (aa.chk rfl (aa.ite (v:=true) rfl (fun _=>aa.tv (eqB _) aa.ret) nofun))) nofun)) nofun))) nofun)) nofun)))))))))))))))))))))))))))))))))
end Go.Ab.Z14
end
section
namespace Go.Ab
section
variable {P:Program}
theorem CX:∀ t e,qm [] t=some e->aR P t e:=fun t e h=>by simp [qm] at h
theorem Bp {l:List (Nat × TyD)} {k:Nat} {d:TyD} (h1:tyOf P k=some d) (h:∀ t e,qm l t=some e->aR P t e):∀ t e,qm ((k,d) :: l) t=some e->aR P t e:=by
 intro t e he
 simp only [qm] at he
 cases hk:k.beq t with
 | true =>
  rw [hk] at he
  have:k=t:=Nat.eq_of_beq_eq_true hk
  subst this
  cases he
  exact aR.of h1
 | false=>rw [hk] at he; exact h t e he
def Dc (P : Program) (f : FuncId) (fn : Func) : Prop := P.funcs[f]? = some fn ∧ (fn.name == "runtime.NumGoroutine") = false ∧ fn.body.isSome = true
theorem fn_nil:∀ (f:FuncId) (e:Func),(none:Option Func)=some e->Dc P f e:=fun f e h=>by cases h
theorem am {g : FuncId → Option Func} {k : FuncId} {fn : Func} (h1 : P.funcs[k]? = some fn) (h2 : (fn.name == "runtime.NumGoroutine") = false) (h3 : fn.body.isSome = true) (h : ∀ f e, g f = some e → Dc P f e) :
  ∀ f e,(bif Nat.beq f k then some fn else g f)=some e->Dc P f e:=by
 intro f e he
 cases hk:Nat.beq f k with
 | true =>
  rw [hk] at he
  have:f=k:=Nat.eq_of_beq_eq_true hk
  subst this
  cases he
  exact ⟨h1,h2,h3⟩
 | false=>rw [hk] at he; exact h f e he
theorem eH.str_at {t:TypeId} {cs:List TV} (h:eH P t cs) (hu:P.underlying t=some .string):∃ s,cs=[.lit (.string s)]/\s.size<=maxLen:=by
 cases h with
 | int hu' hw=>rw [hu] at hu'; cases hu'
 | bool hu'=>rw [hu] at hu'; cases hu'
 | str hu' hl=>exact ⟨_,rfl,hl⟩
 | nil hu'=>rw [hu] at hu'; cases hu'
 | sl hu'=>rw [hu] at hu'; cases hu'
 | struct hu'=>rw [hu] at hu'; cases hu'
 | arr hu'=>rw [hu] at hu'; cases hu'
end
end Go.Ab
end
section
namespace Go.Ab.Z14
open Go Go.Ab Go.Lib Go.RowKit Go.Proofs
section
variable {G:Laid}
theorem pb:(Tryz.prog.info? 77).map (·.size)=some 2:=by kernel_rfl
theorem wK:liesAt Tryz.prog Tryz.prog.depth 77 (2 / Tryz.prog.cellsOf 77) 0 77 1=true:=by kernel_rfl
theorem BW:(Tryz.prog.info? 5).map (fun i=>(i.zero,i.size,i.bytes))=some (some (.int .u8 0),1,1):=by kernel_rfl
theorem zD:Tryz.prog.cellsOf 5=1:=by kernel_rfl
theorem neB5:77≠5:=by decide
theorem DG:∃ i0,Tryz.prog.info? 5=some i0/\i0.zero=some (.int .u8 0)/\i0.size=1/\i0.bytes=1:=by
 have h:=BW
 cases hi:Tryz.prog.info? 5 with
 | none=>rw [hi] at h; cases h
 | some i =>
  rw [hi] at h
  simp only [D6,DU,Prod.mk.injEq] at h
  exact ⟨i,rfl,h.1,h.2.1,h.2.2⟩
set_option maxHeartbeats 1000000 in
set_option maxRecDepth 100000 in
theorem Ds (b:Nat) (w:World) (h0:w.cell? ⟨b,0,none⟩=some (.pointer (some ⟨b,0,none⟩))) :
  Calls Tryz.prog 61 #[.pointer (some ⟨b,0,none⟩)] w fun e w'=>e=.returned (.tuple #[])/\w'=w:=by
 obtain ⟨j,hj,_⟩:=Option.map_eq_some_iff.1 pb
 go_enter Tryz.func61,Tryz.ntmps61
 go_wp2
 rw [Lib.run_neq_ptr_same w _ Tryz.underlying74 hj]
 go_wp2
 go_end0
 exact ⟨rfl,rfl⟩
set_option maxHeartbeats 1000000 in
set_option maxRecDepth 100000 in
theorem A2 (b:Nat) (w:World) (h0:w.cell? ⟨b,0,none⟩=some (.pointer none)) (hsh:w.shape? b=some (77,2)) (hfz:w.frozen? ⟨b,0,none⟩=false) :
  Calls Tryz.prog 61 #[.pointer (some ⟨b,0,none⟩)] w fun e w'=>e=.returned (.tuple #[])/\w'=w.setCell ⟨b,0,none⟩ (.pointer (some ⟨b,0,none⟩)):=by
 obtain ⟨j,hj,hjs⟩:=Option.map_eq_some_iff.1 pb
 go_enter Tryz.func61,Tryz.ntmps61
 go_wp2
 rw [Lib.run_to_unsafe w ⟨b,0,none⟩ Tryz.underlying74 Tryz.underlying127 hj (by rw [hjs]; decide) hsh (Nat.zero_lt_succ 1)]
 simp only [Result.andThen]
 rw [Oper.upon_value]
 go_wp2
 rw [run_callFunc_extern Tryz.func75 (by kernel_rfl) (by kernel_rfl) (by kernel_rfl) (e:=Extern.AbiNoEscape.same) (by kernel_rfl)]
 rw [Lib.run_noEscape]
 simp only [Result.andThen]
 rw [Oper.upon_value]
 go_wp2
 rw [Lib.run_from_unsafe w ⟨b,0,none⟩ Tryz.underlying127 Tryz.underlying74 hj hsh wK]
 simp only [Result.andThen]
 rw [Oper.upon_value]
 go_wp2
 go_end0
 exact ⟨rfl,rfl⟩
theorem pq {b:Nat} {p v:Value} {bs:List Value} {w:World} (h:Bld 77 5 b p v bs w) :
  Calls Tryz.prog 61 #[.pointer (some ⟨b,0,none⟩)] w fun e w'=>e=.returned (.tuple #[])/\Bld 77 5 b (.pointer (some ⟨b,0,none⟩)) v bs w'/\Exact b v w w'/\w'.heap.size=w.heap.size:=by
 have cell0:w.cell? ⟨b,0,none⟩=some p:=by rw [cell_of_heap h.heap]; rfl
 rcases h.first with rfl | rfl
 ·refine (A2 b w cell0 (by simp [World.shape?,h.heap]) (frozen_of_heap h.heap 0)).mono ?_
  rintro e w' ⟨rfl,rfl⟩
  refine ⟨rfl,⟨.inr rfl,?_,?_,h.ne⟩,(Exact.refl b v w).setCell _,by simp [World.setCell]⟩
  ·simp [World.setCell,Array.getElem?_modify,h.heap]
  ·refine h.own.kept (row:=some b) ⟨rfl,rfl,rfl,by simp [World.setCell],fun k _ hk=>Below.heap_setCell _ _ _ _ (fun e=>hk (by simp [e]))⟩ (.inr h.ne)
 ·refine (Ds b w cell0).mono ?_
  rintro e w' ⟨rfl,rfl⟩
  exact ⟨rfl,h,Exact.refl _ _ _,rfl⟩
set_option maxHeartbeats 2000000 in
set_option maxRecDepth 100000 in
theorem wJ {b:Nat} {p v:Value} {bs:List Value} {w:World} (h:Bld 77 5 b p v bs w) (c:Int) (hlen:bs.length + 1<=140737488355328) :
  Calls Tryz.prog 52 #[.pointer (some ⟨b,0,none⟩),.int .u8 c] w fun e w'=>e=.returned .nilIface/\∃ v',Bld 77 5 b (.pointer (some ⟨b,0,none⟩)) v' (bs ++ [.int .u8 c]) w'/\Exact b v w w'/\Next w v v':=by
 obtain ⟨i0,hi,hz0,hz1,hz2⟩:=DG
 go_enter Tryz.func52,Tryz.ntmps52
 go_wp2_with (go_at_call 61; refine (pq h).mono ?_)
 rintro e w1 ⟨rfl,h1,hx1,hsz1⟩
 have hbk:=h1.heap
 have hown:=h1.own
 have hne:=h1.ne
 have c0:w1.cell? ⟨b,0,none⟩=some (.pointer (some ⟨b,0,none⟩)):=by rw [Lib.cell_of_heap hbk]; rfl
 have c1:w1.cell? ⟨b,1,none⟩=some v:=by rw [Lib.cell_of_heap hbk]; rfl
 have hlt1:b < w1.heap.size:=h1.lt
 clear h1 hsz1
 go_wp2_with (at_builtin; refine pz rfl _ _ 75 rfl 5 i0 (.int .u8 0) Tryz.underlying75 hi hz0 hz1 hz2 rfl _ _ _ rfl (hown.alloc _) ⟨w1.heap.size,0,none⟩ 1 1 [.int .u8 c] rfl rfl ?c1 ?c2 ?c3 ?c4 ?_)
 case c1 =>
  intro j u hj
  match j,hj with
  | 0,hj=>simp at hj; subst hj; simp [Addr.add]
 case c2=>intro u hu; simp at hu; subst hu; rfl
 case c3=>unfold maxLen; omega
 case c4=>omega
 intro v' w2 hown' hgrow hnext
 have hb2:w2.heap[b]? = some (.cells #[.pointer (some ⟨b,0,none⟩),v] 77 (0,0)):=by
  rw [hgrow.block b (by simp; omega) (fun e=>hne e.symm),Lib.alloc_old w1 _ b hlt1]
  exact hbk
 have d0:w2.cell? ⟨b,0,none⟩=some (.pointer (some ⟨b,0,none⟩)):=by rw [Lib.cell_of_heap hb2]; rfl
 have d1:w2.cell? ⟨b,1,none⟩=some v:=by rw [Lib.cell_of_heap hb2]; rfl
 have f1:w2.frozen? ⟨b,1,none⟩=false:=Lib.frozen_of_heap hb2 1
 obtain ⟨g,cap,rfl⟩:∃ g cap,v'=.slice (some ⟨g,0,none⟩) (bs.length + 1) cap:=by
  rcases hown'.2 with ⟨_,h0⟩ | ⟨g,cap,cur,fz,hv,_⟩
  ·omega
  ·exact ⟨g,cap,hv⟩
 go_wp2
 go_ret
 refine ⟨rfl,_,Bld.put hb2 (bs':=bs ++ [.int .u8 c]) (by simpa using hown') neB5,((hx1.alloc _).grown hgrow).setCell _,fun k hk=>(hnext k hk).imp id (fun h=>?_)⟩
 have:=hx1.size
 simp at h
 omega
set_option maxHeartbeats 2000000 in
set_option maxRecDepth 100000 in
theorem sr {b:Nat} {p v:Value} {bs:List Value} {w:World} (h:Bld 77 5 b p v bs w) (s:ByteArray) (hlen:bs.length + s.size<=140737488355328) :
  Calls Tryz.prog 51 #[.pointer (some ⟨b,0,none⟩),.string s] w fun e w'=>e=.returned (.tuple #[.int .i64 s.size,.nilIface])/\∃ v',Bld 77 5 b (.pointer (some ⟨b,0,none⟩)) v' (bs ++ Lib.strCells s) w'/\Exact b v w w'/\Next w v v':=by
 obtain ⟨i0,hi,hz0,hz1,hz2⟩:=DG
 go_enter Tryz.func51,Tryz.ntmps51
 go_wp2_with (go_at_call 61; refine (pq h).mono ?_)
 rintro e w1 ⟨rfl,h1,hx1,hsz1⟩
 have hbk:=h1.heap
 have hown:=h1.own
 have hne:=h1.ne
 have c0:w1.cell? ⟨b,0,none⟩=some (.pointer (some ⟨b,0,none⟩)):=by rw [Lib.cell_of_heap hbk]; rfl
 have c1:w1.cell? ⟨b,1,none⟩=some v:=by rw [Lib.cell_of_heap hbk]; rfl
 have hlt1:b < w1.heap.size:=h1.lt
 clear h1 hsz1
 go_wp2_with (at_builtin; refine pA rfl _ _ 75 9 rfl 5 i0 Tryz.underlying75 Tryz.underlying9 hi hz0 hz1 hz2 _ _ _ rfl hown s rfl ?c3 ?c4 ?_)
 case c3=>unfold maxLen; omega
 case c4=>omega
 intro v' w2 hown' hgrow hnext
 have hb2:w2.heap[b]? = some (.cells #[.pointer (some ⟨b,0,none⟩),v] 77 (0,0)):=by
  rw [hgrow.block b hlt1 (fun e=>hne e.symm)]
  exact hbk
 have d0:w2.cell? ⟨b,0,none⟩=some (.pointer (some ⟨b,0,none⟩)):=by rw [Lib.cell_of_heap hb2]; rfl
 have d1:w2.cell? ⟨b,1,none⟩=some v:=by rw [Lib.cell_of_heap hb2]; rfl
 have f1:w2.frozen? ⟨b,1,none⟩=false:=Lib.frozen_of_heap hb2 1
 obtain ⟨ao,n',cap,rfl⟩:∃ ao n' cap,v'=.slice ao n' cap:=by
  rcases hown'.2 with ⟨hv,_⟩ | ⟨g,cap,cur,fz,hv,_⟩
  ·exact ⟨_,_,_,hv⟩
  ·exact ⟨_,_,_,hv⟩
 go_wp2
 go_ret2
 refine ⟨rfl,_,Bld.put hb2 (bs':=bs ++ Lib.strCells s) (by simpa [Lib.strCells_length] using hown') neB5,(hx1.grown hgrow).setCell _,fun k hk=>(hnext k hk).imp id (fun h=>by have:=hx1.size; omega)⟩
set_option maxHeartbeats 1000000 in
set_option maxRecDepth 100000 in
theorem Aw {b:Nat} {p v:Value} {l:List UInt8} {w:World} (h:Bld 77 5 b p v (Lib.byteCells l) w) (h0:l≠[]) :
  Calls Tryz.prog 39 #[.pointer (some ⟨b,0,none⟩)] w fun e w'=>e=.returned (.string ⟨l.toArray⟩)/\Bld 77 5 b p v (Lib.byteCells l) w'/\Exact b v w w':=by
 have hbk:=h.heap
 have hown:=h.own
 have hne:=h.ne
 have hl0:l.length≠0:=by simpa using h0
 rw [Lib.byteCells_length] at hown
 obtain ⟨g,cap,cur,fz,rfl,hbg,hg,hfz,hnc,hcm,hcs,htake⟩:∃ g cap cur fz,v=.slice (some ⟨g,0,none⟩) l.length cap/\0<=g/\w.heap[g]? = some (.cells cur 5 fz)/\fz.2<=l.length * 1/\l.length<=cap/\cap<=maxLen/\cur.size=cap * 1/\cur.toList.take (l.length * 1)=Lib.byteCells l:=by
  rcases hown.2 with ⟨_,hz⟩ | ⟨g,cap,cur,fz,hv,r⟩
  ·exact absurd hz hl0
  ·exact ⟨g,cap,cur,fz,hv,r⟩
 have c1:w.drew.cell? ⟨b,1,none⟩=some (.slice (some ⟨g,0,none⟩) l.length cap):=by
  have:w.drew.heap[b]? = some (.cells #[p,.slice (some ⟨g,0,none⟩) l.length cap] 77 (0,0)):=hbk
  rw [Lib.cell_of_heap this]; rfl
 have hSD:(Builtin.unsafeSliceData_ #[75] 103 #[.slice (some ⟨g,0,none⟩) l.length cap]).run Tryz.prog w.drew=.ok (.pointer (some ⟨g,0,none⟩)) w.drew :=
  Lib.run_unsafeSliceData_row _ _ _ _ _ _ (by omega)
 have hUS:(Builtin.unsafeString_ #[103,3] 9 #[.pointer (some ⟨g,0,none⟩),.int .i64 l.length]).run Tryz.prog w.drew=.ok (.string ⟨l.toArray⟩) (w.drew.freeze ⟨g,0,none⟩ l.length):=by
  refine Lib.run_unsafeString_row w.drew 103 3 9 5 Tryz.underlying103 zD g cur.size (by have hg':w.drew.heap[g]? = some (.cells cur 5 fz):=hg; simp [World.shape?,hg']) l h0 (by omega) (by unfold maxLen at hcm; omega) ?_
  intro j x hx
  have:=hown.cells (g:=g) rfl j (.int .u8 x.toNat) (by simp [Lib.byteCells,hx])
  exact this
 have hgb:g≠b:=fun e=>hne (by rw [e]; rfl)
 have hkeep:Bld 77 5 b p (.slice (some ⟨g,0,none⟩) l.length cap) (Lib.byteCells l) (w.drew.freeze ⟨g,0,none⟩ l.length):=by
  have hF:=(h.at.drew).froze (g:=g) (cap:=cap) (by rw [Lib.byteCells_length]; exact c1)
  rw [Lib.byteCells_length] at hF
  obtain ⟨_,v1,q1,q2,q3⟩:=hF
  have hb2:(w.drew.freeze ⟨g,0,none⟩ l.length).heap[b]? = some (.cells #[p,.slice (some ⟨g,0,none⟩) l.length cap] 77 (0,0)):=by
   unfold World.freeze
   split
   ·exact hbk
   ·simp [Array.getElem?_modify,hgb]
    exact hbk
  rw [hb2] at q1
  simp only [DU,Obj.cells.injEq,and_true] at q1
  have e1:Value.slice (some ⟨g,0,none⟩) l.length cap=v1:=by simpa using q1
  subst e1
  exact ⟨h.first,hb2,q2,q3⟩
 have hex:Exact b (.slice (some ⟨g,0,none⟩) l.length cap) w (w.drew.freeze ⟨g,0,none⟩ l.length):=((Exact.refl b _ w).drew).freeze rfl _
 clear h
 have mixed:Tryz.prog.follows .mixedOrders=true:=by kernel_rfl
 go_enter Tryz.func39,Tryz.ntmps39
 go_wp2
 go_region_o
 all_goals (go_wp2; go_ret; exact ⟨rfl,hkeep,hex⟩)
set_option maxHeartbeats 1000000 in
set_option maxRecDepth 100000 in
theorem Len_x {b:Nat} {p v:Value} {bs:List Value} {w:World} (h:Bld 77 5 b p v bs w) :
  Calls Tryz.prog 38 #[.pointer (some ⟨b,0,none⟩)] w fun e w'=>e=.returned (.int .i64 bs.length)/\w'=w:=by
 obtain ⟨_,hbk,hown,hne⟩:=h
 obtain ⟨ao,cap,rfl⟩:∃ ao cap,v=.slice ao bs.length cap:=by
  rcases hown.2 with ⟨hv,h0⟩ | ⟨g,cap,cur,fz,hv,_⟩
  ·exact ⟨none,0,by rw [hv,h0]⟩
  ·exact ⟨_,_,hv⟩
 have c1:w.cell? ⟨b,1,none⟩=some (.slice ao bs.length cap):=by rw [Lib.cell_of_heap hbk]; rfl
 go_enter Tryz.func38,Tryz.ntmps38
 go_wp2
 go_ret
 exact ⟨rfl,rfl⟩
theorem pD (henter:∀ vals w,(callFunc 51 vals).run Tryz.prog w=.ok (.enter 51 vals) w) {xs:List TV} {r:TV} (h:eA 5 xs=some r):na Tryz.prog G ⟨77,[.may,.bf 5]⟩ 51 xs r:=by
 unfold eA at h
 split at h
 ·rename_i x s e' t
  cases hc:x.bq && e'.beq 5 && (s.size + t.size).ble jS with
  | false=>rw [hc] at h; cases h
  | true =>
   rw [hc] at h
   simp only [cond_true,DU] at h
   simp only [DV,Nat.ble_eq] at hc
   obtain ⟨⟨h1,h2⟩,h3⟩:=hc
   subst h
   rw [mN h1,(ar _ _).1 h2]
   refine mH (u:=.tuple #[.int .i64 t.size,.nilIface]) (fun w I=>.tup rfl (fun j c hj=>?_)) henter (fun b p v w I vals hB hsz h0 hargs=>?_)
   ·match j,hj with
    | 0,hj=>simp at hj; subst hj; exact .lit _
    | 1,hj=>simp at hj; subst hj; exact .lit _
   ·have:=AE (by simpa using hsz) h0 (aL (hargs 0 _ rfl))
    subst this
    refine (sr hB t (by rw [strCells_length]; exact h3)).mono ?_
    rintro e w' ⟨rfl,v',q1,q2,q3⟩
    exact ⟨rfl,_,v',by rw [un]; exact q1,q2,q3⟩
 ·cases h
theorem sw (henter:∀ vals w,(callFunc 52 vals).run Tryz.prog w=.ok (.enter 52 vals) w) {xs:List TV} {r:TV} (h:gX 5 xs=some r):na Tryz.prog G ⟨77,[.may,.bf 5]⟩ 52 xs r:=by
 unfold gX at h
 split at h
 ·rename_i x s e' c
  cases hc:x.bq && e'.beq 5 && (s.size + 1).ble jS && decide (0<=c/\c < 256) with
  | false=>rw [hc] at h; cases h
  | true =>
   rw [hc] at h
   simp only [cond_true,DU] at h
   simp only [DV,Nat.ble_eq,decide_eq_true_eq] at hc
   obtain ⟨⟨⟨h1,h2⟩,h3⟩,h4,h5⟩:=hc
   subst h
   rw [mN h1,(ar _ _).1 h2]
   refine mH (u:=.nilIface) (fun w I=>.lit _) henter (fun b p v w I vals hB hsz h0 hargs=>?_)
   have:=AE (by simpa using hsz) h0 (aL (hargs 0 _ rfl))
   subst this
   refine (wJ hB c (by rw [strCells_length]; exact h3)).mono ?_
   rintro e w' ⟨rfl,v',q1,q2,q3⟩
   refine ⟨rfl,.pointer (some ⟨b,0,none⟩),v',?_,q2,q3⟩
   rw [sq]
   have:((c.toNat.toUInt8).toNat:Int)=c:=by
    have:c.toNat < 256:=by omega
    simp [Nat.toUInt8,UInt8.toNat_ofNat',Nat.mod_eq_of_lt this]
    omega
   rw [this]
   exact q1
 ·cases h
theorem wT (henter:∀ vals w,(callFunc 39 vals).run Tryz.prog w=.ok (.enter 39 vals) w) {xs:List TV} {r:TV} (h:mV 5 xs=some r):na Tryz.prog G ⟨77,[.may,.bf 5]⟩ 39 xs r:=by
 unfold mV at h
 split at h
 ·rename_i x s e'
  cases hc:x.bq && e'.beq 5 && !(s.size.beq 0) with
  | false=>rw [hc] at h; cases h
  | true =>
   rw [hc] at h
   simp only [cond_true,DU] at h
   simp only [DV,Bool.not_eq_true'] at hc
   obtain ⟨⟨h1,h2⟩,h3⟩:=hc
   subst h
   rw [mN h1,(ar _ _).1 h2]
   have hne:s.data.toList≠[]:=fun e=>by
    have h4:s.size=0:=by
     have h5:=congrArg List.length e
     rw [Array.length_toList] at h5
     exact h5
    rw [h4] at h3
    cases h3
   refine mH (u:=.string s) (fun w I=>.lit _) henter (fun b p v w I vals hB hsz h0 hargs=>?_)
   have:=xW (by simpa using hsz) h0
   subst this
   refine (Aw (l:=s.data.toList) hB hne).mono ?_
   rintro e w' ⟨rfl,q1,q2⟩
   exact ⟨by simp,_,v,q1,q2,fun k hk=>.inl hk⟩
 ·cases h
theorem CW (henter:∀ vals w,(callFunc 38 vals).run Tryz.prog w=.ok (.enter 38 vals) w) {xs:List TV} {r:TV} (h:xLen 5 xs=some r):na Tryz.prog G ⟨77,[.may,.bf 5]⟩ 38 xs r:=by
 unfold xLen at h
 split at h
 ·rename_i x s e'
  cases hc:x.bq && e'.beq 5 with
  | false=>rw [hc] at h; cases h
  | true =>
   rw [hc] at h
   simp only [cond_true,DU] at h
   simp only [DV] at hc
   obtain ⟨h1,h2⟩:=hc
   subst h
   rw [mN h1,(ar _ _).1 h2]
   refine mH (u:=.int .i64 s.size) (fun w I=>.lit _) henter (fun b p v w I vals hB hsz h0 hargs=>?_)
   have:=xW (by simpa using hsz) h0
   subst this
   refine (Len_x hB).mono ?_
   rintro e w' ⟨rfl,rfl⟩
   exact ⟨by rw [strCells_length],p,v,hB,Exact.refl _ _ _,fun k hk=>.inl hk⟩
 ·cases h
end
end Go.Ab.Z14
end

import Derived.Test.YthgejdenjmjkoaaDV8T
section
set_option linter.unusedVariables false
set_option maxRecDepth 100000
namespace Go.Ab.V8
open Go Go.Ab Go.Proofs
open Go.Ab.TV (hole cell comp isSl isSc isTup cellsL tup agg)
open Go.Ab.Prg (tv tvs rws nat chk call jmp ret)
def f4_0_S  (x0 x1 y2 y3 y4:TV):ASt:=⟨List.replicate 4 (AV.one CA.junk) ++ [AV.tv x0,AV.one (CA.ptr 0 0)] ++ List.replicate 6 (AV.one CA.junk) ++ [AV.tv x1] ++ List.replicate 121 (AV.one CA.junk),[some (BC.cells [CA.t y2,CA.t y3,CA.t y4])] ++ List.replicate 157 (none),[]⟩
def f4_1_S  (x0 x1 x2 x3 x4 y5 y6 y7:TV):ASt:=⟨List.replicate 4 (AV.one CA.junk) ++ [AV.tv x0,AV.one (CA.ptr 0 0)] ++ List.replicate 6 (AV.one CA.junk) ++ [AV.tv x1,AV.one CA.junk,AV.one CA.junk,AV.tv x2,AV.tv x3,AV.tv x4] ++ List.replicate 116 (AV.one CA.junk),[some (BC.cells [CA.t y5,CA.t y6,CA.t y7])] ++ List.replicate 157 (none),[]⟩
def f4_2_S  (x0 x1 x2 x3 x4 y5 y6 y7:TV):ASt:=⟨List.replicate 4 (AV.one CA.junk) ++ [AV.tv x0,AV.one (CA.ptr 0 0)] ++ List.replicate 6 (AV.one CA.junk) ++ [AV.tv x1,AV.one CA.junk,AV.one CA.junk,AV.tv x2,AV.tv x3,AV.tv x4] ++ List.replicate 116 (AV.one CA.junk),[some (BC.cells [CA.t y5,CA.t y6,CA.t y7])] ++ List.replicate 157 (none),[]⟩
def f4_M (x0 x1 x2 x3 x4:TV):Prg TV :=
 chk (TV.isAgg x0 3) (
 call 7 [] fun v0 =>
 chk (fitsAt zBool [v0] 0) (
 tv (pun .not v0) fun v1 =>
 Prg.ite (asBool v1) (
 ret (B false)) (
 tv (plen (.slice 44) (cell x0 2)) fun v2 =>
 tv (pbin (.int .i64) .gtr v2 (I 30)) fun v3 =>
 Prg.ite (asBool v3) (
 ret (B true)) (
 tv (plen (.slice 44) (cell x0 2)) fun v4 =>
 tv (pbin (.int .i64) .eql v4 (I 0)) fun v5 =>
 Prg.ite (asBool v5) (
 ret (B true)) (
 tv (plen (.slice 44) (cell x0 2)) fun v6 =>
 tv (pconv (.int .i64) x1) fun v7 =>
 tv (pbin (.int .i64) .rem v7 v6) fun v8 =>
 tv (pconv (.int .i64) x2) fun v9 =>
 tv (pbin (.int .i64) .rem v9 v6) fun v10 =>
 tv (pconv (.int .i64) x3) fun v11 =>
 tv (pbin (.int .i64) .rem v11 v6) fun v12 =>
 call 15 [agg [cell x0 0,cell x0 1,cell x0 2]] fun v13 =>
 chk (fitsAt zSl [v13] 0) (
 nat (slLen v13) fun n14 =>
 nat (asNat v12) fun n15 =>
 chk (Bool.and (slSize v13 1) (Nat.blt n15 n14)) (
 tvs (pel v13 n15) fun e16 =>
 chk (fitsAt zBool e16 0) (
 call 11 [agg [cell x0 0,cell x0 1,cell x0 2],I 0,v12] fun v17 =>
 chk (fitsAt zBool [v17] 0) (
 tv (pbin Kd.bool .neq (nth hole e16 0) v17) fun v18 =>
 Prg.ite (asBool v18) (
 ret (B false)) (
 call 15 [agg [cell x0 0,cell x0 1,cell x0 2]] fun v19 =>
 chk (fitsAt zSl [v19] 0) (
 nat (slLen v19) fun n20 =>
 nat (asNat v12) fun n21 =>
 chk (Bool.and (slSize v19 1) (Nat.blt n21 n20)) (
 tvs (pel v19 n21) fun e22 =>
 chk (fitsAt zBool e22 0) (
 call 11 [agg [cell x0 0,cell x0 1,cell x0 2],v12,v12] fun v23 =>
 chk (fitsAt zBool [v23] 0) (
 tv (pbin Kd.bool .neq (nth hole e22 0) v23) fun v24 =>
 Prg.ite (asBool v24) (
 ret (B false)) (
 call 11 [agg [cell x0 0,cell x0 1,cell x0 2],v8,v12] fun v25 =>
 chk (fitsAt zBool [v25] 0) (
 Prg.ite (asBool v25) (
 call 11 [agg [cell x0 0,cell x0 1,cell x0 2],v10,v12] fun v26 =>
 chk (fitsAt zBool [v26] 0) (
 Prg.ite (asBool v26) (
 call 11 [agg [cell x0 0,cell x0 1,cell x0 2],v8,v10] fun v27 =>
 chk (fitsAt zBool [v27] 0) (
 tv (pun .not v27) fun v28 =>
 Prg.ite (asBool v28) (
 call 11 [agg [cell x0 0,cell x0 1,cell x0 2],v10,v8] fun v29 =>
 chk (fitsAt zBool [v29] 0) (
 tv (pun .not v29) fun v30 =>
 Prg.ite (asBool v30) (
 ret (B false)) (
 jmp [1,1,1,1,1,1,1] (f4_0_S x4 v8 (cell x0 0) (cell x0 1) (cell x0 2))))) (
 jmp [1,1,1,1,1,1,1] (f4_0_S x4 v8 (cell x0 0) (cell x0 1) (cell x0 2))))) (
 jmp [1,1,1,1,1,1,1] (f4_0_S x4 v8 (cell x0 0) (cell x0 1) (cell x0 2))))) (
 jmp [1,1,1,1,1,1,1] (f4_0_S x4 v8 (cell x0 0) (cell x0 1) (cell x0 2)))))))))))))))))))
def f4_0  (x0 x1 y2 y3 y4:TV):Prg TV :=
 tv (pbin (.int .i64) .eql x1 (I 0)) fun v31 =>
 jmp [0,0,1,0,1,1,1,1,1,1,1,1] (f4_1_S x0 x1 (I 0) v31 (I 0) y2 y3 y4)
def f4_1  (x0 x1 x2 x3 x4 y5 y6 y7:TV):Prg TV :=
 tv (plen (.slice 5) x0) fun v32 =>
 tv (pbin (.int .i64) .lss x4 v32) fun v33 =>
 Prg.ite (asBool v33) (
 tv (pbin (.int .i64) .lss x4 (I 100)) fun v34 =>
 Prg.ite (asBool v34) (
 call 11 [agg [y5,y6,y7],x1,x2] fun v35 =>
 chk (fitsAt zBool [v35] 0) (
 Prg.ite (asBool v35) (
 tv (pun .not x3) fun v36 =>
 Prg.ite (asBool v36) (
 ret (B false)) (
 jmp [1,0,0,1,0,0,1,0,1,1,1,1,1,1,1,1] (f4_2_S x0 x1 x2 x3 x4 y5 y6 y7))) (
 jmp [1,0,0,1,0,0,1,0,1,1,1,1,1,1,1,1] (f4_2_S x0 x1 x2 x3 x4 y5 y6 y7)))) (
 ret (B true))) (
 ret (B true))
def f4_2  (x0 x1 x2 x3 x4 y5 y6 y7:TV):Prg TV :=
 call 16 [agg [y5,y6,y7],x2] fun v37 =>
 chk (fitsAt zSl [v37] 0) (
 tv (plen (.slice 3) v37) fun v38 =>
 tv (pbin (.int .i64) .eql v38 (I 0)) fun v39 =>
 Prg.ite (asBool v39) (
 ret (B true)) (
 tvs (pidx 1 x0 x4) fun e40 =>
 chk (Nat.blt 0 (List.length e40)) (
 tv (pconv (.int .i64) (nth hole e40 0)) fun v41 =>
 tv (plen (.slice 3) v37) fun v42 =>
 tv (pbin (.int .i64) .rem v41 v42) fun v43 =>
 nat (slLen v37) fun n44 =>
 nat (asNat v43) fun n45 =>
 chk (Bool.and (slSize v37 1) (Nat.blt n45 n44)) (
 tvs (pel v37 n45) fun e46 =>
 chk (fitsAt zInt e46 0) (
 Prg.ite (asBool x3) (
 tv (pbin (.int .i64) .add x4 (I 1)) fun v47 =>
 jmp [0,0,1,0,1,1,1,1,1,1,1,1] (f4_1_S x0 x1 (nth hole e46 0) (B true) v47 y5 y6 y7)) (
 tv (pbin (.int .i64) .eql (nth hole e46 0) x1) fun v48 =>
 tv (pbin (.int .i64) .add x4 (I 1)) fun v49 =>
 jmp [0,0,1,0,1,1,1,1,1,1,1,1] (f4_1_S x0 x1 (nth hole e46 0) v48 v49 y5 y6 y7)))))))
theorem f4_MR (x0 x1 x2 x3 x4:TV):startQ prog 4 [x0,x1,x2,x3,x4]=f4_M x0 x1 x2 x3 x4:=by kernel_rfl
theorem f4_0_J  {x0 x1 y2 y3 y4:TV} {r:TV} (h:Goes prog 4 (f4_0 x0 x1 y2 y3 y4) r):Goes prog 4 (.jmp [1,1,1,1,1,1,1] (f4_0_S x0 x1 y2 y3 y4)) r:=Goes.jmp (by kernel_rfl) h
theorem f4_1_J  {x0 x1 x2 x3 x4 y5 y6 y7:TV} {r:TV} (h:Goes prog 4 (f4_1 x0 x1 x2 x3 x4 y5 y6 y7) r):Goes prog 4 (.jmp [0,0,1,0,1,1,1,1,1,1,1,1] (f4_1_S x0 x1 x2 x3 x4 y5 y6 y7)) r:=Goes.jmp (by kernel_rfl) h
theorem f4_2_J  {x0 x1 x2 x3 x4 y5 y6 y7:TV} {r:TV} (h:Goes prog 4 (f4_2 x0 x1 x2 x3 x4 y5 y6 y7) r):Goes prog 4 (.jmp [1,0,0,1,0,0,1,0,1,1,1,1,1,1,1,1] (f4_2_S x0 x1 x2 x3 x4 y5 y6 y7)) r:=Goes.jmp (by kernel_rfl) h
def f7_M:Prg TV :=
 call 9 [agg [I 0,I 1,frz (TV.sl true 14 (chunks 14 4 [B false,I 0,TV.lit nilV,B false,B false,TV.lit nilV,I 3,I 0,I 0,I 0,TV.lit nilV,I 1,I 2,I 0,B false,I 0,TV.lit nilV,B false,B false,TV.lit nilV,I 2,I 0,I 0,I 0,TV.lit nilV,I 3,I 0,I 0,B false,I 0,TV.lit nilV,B false,B false,TV.lit nilV,I 2,I 0,I 0,I 0,TV.lit nilV,I 3,I 0,I 0,B false,I 0,TV.lit nilV,B false,B false,TV.lit nilV,I 1,I 0,I 0,I 0,TV.lit nilV,I 0,I 0,I 0]))]] fun v0 =>
 chk (fitsAt zSl [v0] 0) (
 call 8 [frz v0,frz (TV.sl true 1 (chunks 1 4 [TV.lit (Value.int IntKind.i64 (-1)),I 0,I 0,I 0]))] fun v1 =>
 chk (fitsAt zBool [v1] 0) (
 Prg.ite (asBool v1) (
 call 13 [agg [I 0,I 1,frz (TV.sl true 14 (chunks 14 4 [B false,I 0,TV.lit nilV,B false,B false,TV.lit nilV,I 3,I 0,I 0,I 0,TV.lit nilV,I 1,I 2,I 0,B false,I 0,TV.lit nilV,B false,B false,TV.lit nilV,I 2,I 0,I 0,I 0,TV.lit nilV,I 3,I 0,I 0,B false,I 0,TV.lit nilV,B false,B false,TV.lit nilV,I 2,I 0,I 0,I 0,TV.lit nilV,I 3,I 0,I 0,B false,I 0,TV.lit nilV,B false,B false,TV.lit nilV,I 1,I 0,I 0,I 0,TV.lit nilV,I 0,I 0,I 0]))],I 1] fun v2 =>
 chk (fitsAt zSl [v2] 0) (
 call 8 [frz v2,frz (TV.sl true 1 (chunks 1 1 [I 3]))] fun v3 =>
 chk (fitsAt zBool [v3] 0) (
 Prg.ite (asBool v3) (
 call 11 [agg [I 0,I 1,frz (TV.sl true 14 (chunks 14 4 [B false,I 0,TV.lit nilV,B false,B false,TV.lit nilV,I 3,I 0,I 0,I 0,TV.lit nilV,I 1,I 2,I 0,B false,I 0,TV.lit nilV,B false,B false,TV.lit nilV,I 2,I 0,I 0,I 0,TV.lit nilV,I 3,I 0,I 0,B false,I 0,TV.lit nilV,B false,B false,TV.lit nilV,I 2,I 0,I 0,I 0,TV.lit nilV,I 3,I 0,I 0,B false,I 0,TV.lit nilV,B false,B false,TV.lit nilV,I 1,I 0,I 0,I 0,TV.lit nilV,I 0,I 0,I 0]))],I 0,I 3] fun v4 =>
 chk (fitsAt zBool [v4] 0) (
 Prg.ite (asBool v4) (
 call 11 [agg [I 0,I 1,frz (TV.sl true 14 (chunks 14 4 [B false,I 0,TV.lit nilV,B false,B false,TV.lit nilV,I 3,I 0,I 0,I 0,TV.lit nilV,I 1,I 2,I 0,B false,I 0,TV.lit nilV,B false,B false,TV.lit nilV,I 2,I 0,I 0,I 0,TV.lit nilV,I 3,I 0,I 0,B false,I 0,TV.lit nilV,B false,B false,TV.lit nilV,I 2,I 0,I 0,I 0,TV.lit nilV,I 3,I 0,I 0,B false,I 0,TV.lit nilV,B false,B false,TV.lit nilV,I 1,I 0,I 0,I 0,TV.lit nilV,I 0,I 0,I 0]))],I 1,I 3] fun v5 =>
 chk (fitsAt zBool [v5] 0) (
 tv (pun .not v5) fun v6 =>
 ret v6)) (
 ret (B false)))) (
 ret (B false))))) (
 ret (B false))))
theorem f7_MR:startQ prog 7 []=f7_M  := by kernel_rfl
end Go.Ab.V8
end
section
set_option linter.unusedVariables false
set_option maxRecDepth 100000
namespace Go.Ab.V8
open Go Go.Ab Go.Proofs
open Go.Ab.TV (hole cell comp isSl isSc isTup cellsL tup agg)
open Go.Ab.Prg (tv tvs rws nat chk call jmp ret)
def f8_0_S  (x0 x1 x2:TV):ASt:=⟨[AV.tv x0,AV.tv x1,AV.one CA.junk,AV.one CA.junk,AV.one CA.junk,AV.tv x2] ++ List.replicate 20 (AV.one CA.junk),List.replicate 50 (none),[]⟩
def f8_M (x0 x1:TV):Prg TV :=
 tv (plen (.slice 3) x0) fun v0 =>
 tv (plen (.slice 3) x1) fun v1 =>
 tv (pbin (.int .i64) .neq v0 v1) fun v2 =>
 Prg.ite (asBool v2) (
 ret (B false)) (
 jmp [0,0,1,0,1,1] (f8_0_S x0 x1 (I 0)))
def f8_0  (x0 x1 x2:TV):Prg TV :=
 tv (plen (.slice 3) x0) fun v3 =>
 tv (pbin (.int .i64) .lss x2 v3) fun v4 =>
 Prg.ite (asBool v4) (
 tvs (pidx 1 x0 x2) fun e5 =>
 chk (Nat.blt 0 (List.length e5)) (
 tvs (pidx 1 x1 x2) fun e6 =>
 chk (Nat.blt 0 (List.length e6)) (
 tv (pbin (.int .i64) .neq (nth hole e5 0) (nth hole e6 0)) fun v7 =>
 Prg.ite (asBool v7) (
 ret (B false)) (
 tv (pbin (.int .i64) .add x2 (I 1)) fun v8 =>
 jmp [0,0,1,0,1,1] (f8_0_S x0 x1 v8))))) (
 ret (B true))
theorem f8_MR (x0 x1:TV):startQ prog 8 [x0,x1]=f8_M x0 x1:=by kernel_rfl
theorem f8_0_J  {x0 x1 x2:TV} {r:TV} (h:Goes prog 8 (f8_0 x0 x1 x2) r):Goes prog 8 (.jmp [0,0,1,0,1,1] (f8_0_S x0 x1 x2)) r:=Goes.jmp (by kernel_rfl) h
def f9_0_S  (y0 y1 y2 w3 w4 w5:TV):ASt:=⟨[AV.one CA.junk,AV.one (CA.ptr 0 0),AV.one CA.junk,AV.one (CA.ptr 1 0)] ++ List.replicate 44 (AV.one CA.junk),[some (BC.cells [CA.t y0,CA.t y1,CA.t y2]),some (BC.cells [CA.sref 2 0 [],CA.sref 2 1 [],CA.sref 2 2 []]),some (BC.tree [w3,w4,w5])] ++ List.replicate 69 (none),[]⟩
def f9_1_S  (x0 x1 y2 y3 y4 w5 w6 w7:TV):ASt:=⟨[AV.one CA.junk,AV.one (CA.ptr 0 0),AV.one CA.junk,AV.tv x0,AV.tv x1] ++ List.replicate 28 (AV.one CA.junk),[some (BC.cells [CA.sref 3 0 [],CA.sref 3 1 [],CA.sref 3 2 []]),some (BC.cells [CA.t y2,CA.t y3,CA.t y4]),some (BC.cells [CA.sref 3 0 [],CA.sref 3 1 [],CA.sref 3 2 []]),some (BC.tree [w5,w6,w7])] ++ List.replicate 101 (none),([AV.one CA.junk,AV.one (CA.ptr 1 0),AV.one CA.junk,AV.one (CA.ptr 2 0)] ++ List.replicate 44 (AV.one CA.junk))⟩
def f9_2_S  (y0 y1 y2 w3 w4 w5:TV):ASt:=⟨[AV.one CA.junk,AV.one (CA.ptr 0 0),AV.one CA.junk,AV.one (CA.ptr 1 0)] ++ List.replicate 44 (AV.one CA.junk),[some (BC.cells [CA.t y0,CA.t y1,CA.t y2]),some (BC.cells [CA.sref 2 0 [],CA.sref 2 1 [],CA.sref 2 2 []]),some (BC.tree [w3,w4,w5])] ++ List.replicate 69 (none),[]⟩
def f9_3_S  (x0 x1 w2 w3 w4 w5:TV):ASt:=⟨[AV.one CA.junk,AV.one CA.junk,AV.one CA.junk,AV.one (CA.ptr 0 0),AV.one (CA.sref 1 0 [])] ++ List.replicate 11 (AV.one CA.junk) ++ [AV.tv x0,AV.tv x1] ++ List.replicate 30 (AV.one CA.junk),[some (BC.cells [CA.sref 2 0 [],CA.sref 2 1 [],CA.sref 2 2 []]),some (BC.tree [w2]),some (BC.tree [w3,w4,w5])] ++ List.replicate 69 (none),[]⟩
def f9_4_S  (w0 w1 w2 w3:TV):ASt:=⟨[AV.one CA.junk,AV.one CA.junk,AV.one CA.junk,AV.one (CA.ptr 0 0),AV.one (CA.sref 1 0 [])] ++ List.replicate 43 (AV.one CA.junk),[some (BC.cells [CA.sref 2 0 [],CA.sref 2 1 [],CA.sref 2 2 []]),some (BC.tree [w0]),some (BC.tree [w1,w2,w3])] ++ List.replicate 69 (none),[]⟩
def f9_5_S  (x0 w1 w2 w3 w4:TV):ASt:=⟨[AV.one CA.junk,AV.one CA.junk,AV.one CA.junk,AV.one (CA.ptr 0 0),AV.one (CA.sref 1 0 []),AV.one CA.junk,AV.tv x0] ++ List.replicate 41 (AV.one CA.junk),[some (BC.cells [CA.sref 2 0 [],CA.sref 2 1 [],CA.sref 2 2 []]),some (BC.tree [w1]),some (BC.tree [w2,w3,w4])] ++ List.replicate 69 (none),[]⟩
def f9_M (x0:TV):Prg TV :=
 chk (TV.isAgg x0 3) (
 call 18 [agg [cell x0 0,cell x0 1,cell x0 2]] fun v0 =>
 chk (Bool.and (TV.isAgg v0 3) (fitsAt z46 (cellsL true v0) 0)) (
 jmp [0,0,0,1,1] (f9_0_S (cell x0 0) (cell x0 1) (cell x0 2) (cell v0 0) (cell v0 1) (cell v0 2))))
def f9_0  (y0 y1 y2 w3 w4 w5:TV):Prg TV :=
 jmp [0,0,1,0,1,1,3,0,0,0,0,0,1,1] (f9_1_S (B false) (I 1) y0 y1 y2 w3 w4 w5)
def f9_1  (x0 x1 y2 y3 y4 w5 w6 w7:TV):Prg TV :=
 tv (plen (.slice 3) w7) fun v1 =>
 tv (pbin (.int .i64) .lss x1 v1) fun v2 =>
 Prg.ite (asBool v2) (
 nat (slLen w6) fun n3 =>
 nat (asNat x1) fun n4 =>
 chk (Bool.and (slSize w6 1) (Nat.blt n4 n3)) (
 tvs (pel w6 n4) fun e5 =>
 chk (fitsAt zSl e5 0) (
 tv (getP [(n4,0)] w6) fun v6 =>
 call 31 [agg [frz w5,frz w6,frz w7],frz v6] fun v7 =>
 chk (fitsAt zInt [v7] 0) (
 nat (slLen w7) fun n8 =>
 nat (asNat x1) fun n9 =>
 chk (Bool.and (slSize w7 1) (Nat.blt n9 n8)) (
 tvs (pel w7 n9) fun e10 =>
 chk (fitsAt zInt e10 0) (
 tv (pbin (.int .i64) .neq v7 (nth hole e10 0)) fun v11 =>
 Prg.ite (asBool v11) (
 nat (slLen w7) fun n12 =>
 nat (asNat x1) fun n13 =>
 chk (Bool.and (slSize w7 1) (Nat.blt n13 n12)) (
 tvs (pel w7 n13) fun e14 =>
 chk (fitsAt zInt e14 0) (
 tv (setC [] w7 n13 0 [v7]) fun v15 =>
 tv (pbin (.int .i64) .add x1 (I 1)) fun v16 =>
 jmp [0,0,1,0,1,1,3,0,0,0,0,0,1,1] (f9_1_S (B true) v16 y2 y3 y4 w5 w6 v15)))) (
 tv (pbin (.int .i64) .add x1 (I 1)) fun v17 =>
 jmp [0,0,1,0,1,1,3,0,0,0,0,0,1,1] (f9_1_S x0 v17 y2 y3 y4 w5 w6 w7)))))))) (
 Prg.ite (asBool x0) (
 jmp [0,0,0,1,1] (f9_0_S y2 y3 y4 w5 w6 w7)) (
 jmp [1,1,1] (f9_2_S y2 y3 y4 w5 w6 w7)))
def f9_2  (y0 y1 y2 w3 w4 w5:TV):Prg TV :=
 tv (plen (.slice 44) y2) fun v18 =>
 nat (asNat v18) fun n19 =>
 nat (asNat v18) fun n20 =>
 chk (Bool.and (Nat.ble n19 n20) (Nat.ble n20 4294967296)) (
 tv (plen (.slice 3) (TV.sl true 1 (List.replicate n19 [I 0]))) fun v21 =>
 jmp [0,0,1,0,1,1,1,1] (f9_3_S v21 (I 0) (TV.sl true 1 (List.replicate n19 [I 0])) w3 w4 w5))
def f9_3  (x0 x1 w2 w3 w4 w5:TV):Prg TV :=
 tv (pbin (.int .i64) .lss x1 x0) fun v22 =>
 Prg.ite (asBool v22) (
 nat (slLen w2) fun n23 =>
 nat (asNat x1) fun n24 =>
 chk (Bool.and (slSize w2 1) (Nat.blt n24 n23)) (
 tvs (pel w2 n24) fun e25 =>
 chk (fitsAt zInt e25 0) (
 tv (setC [] w2 n24 0 [TV.lit (Value.int IntKind.i64 (-1))]) fun v26 =>
 tv (pbin (.int .i64) .add x1 (I 1)) fun v27 =>
 jmp [0,0,1,0,1,1,1,1] (f9_3_S x0 v27 v26 w3 w4 w5)))) (
 jmp [1,1,1,1,1] (f9_4_S w2 w3 w4 w5))
def f9_4  (w0 w1 w2 w3:TV):Prg TV :=
 jmp [0,0,1,0,1,1,1,1,1] (f9_5_S (I 1) w0 w1 w2 w3)
def f9_5  (x0 w1 w2 w3 w4:TV):Prg TV :=
 tv (plen (.slice 3) w2) fun v28 =>
 tv (pbin (.int .i64) .lss x0 v28) fun v29 =>
 Prg.ite (asBool v29) (
 nat (slLen w2) fun n30 =>
 nat (asNat x0) fun n31 =>
 chk (Bool.and (slSize w2 1) (Nat.blt n31 n30)) (
 tvs (pel w2 n31) fun e32 =>
 chk (fitsAt zInt e32 0) (
 nat (slLen w4) fun n33 =>
 nat (asNat x0) fun n34 =>
 chk (Bool.and (slSize w4 1) (Nat.blt n34 n33)) (
 tvs (pel w4 n34) fun e35 =>
 chk (fitsAt zInt e35 0) (
 nat (slLen w2) fun n36 =>
 nat (asNat (nth hole e35 0)) fun n37 =>
 chk (Bool.and (slSize w2 1) (Nat.blt n37 n36)) (
 tvs (pel w2 n37) fun e38 =>
 chk (fitsAt zInt e38 0) (
 nat (slLen w1) fun n39 =>
 nat (asNat (nth hole e32 0)) fun n40 =>
 chk (Bool.and (slSize w1 1) (Nat.blt n40 n39)) (
 tvs (pel w1 n40) fun e41 =>
 chk (fitsAt zInt e41 0) (
 tv (setC [] w1 n40 0 [nth hole e38 0]) fun v42 =>
 tv (pbin (.int .i64) .add x0 (I 1)) fun v43 =>
 jmp [0,0,1,0,1,1,1,1,1] (f9_5_S v43 v42 w2 w3 w4)))))))))) (
 chk (isOwn w1) (
 ret w1))
theorem f9_MR (x0:TV):startQ prog 9 [x0]=f9_M x0:=by kernel_rfl
theorem f9_0_J  {y0 y1 y2 w3 w4 w5:TV} {r:TV} (h:Goes prog 9 (f9_0 y0 y1 y2 w3 w4 w5) r):Goes prog 9 (.jmp [0,0,0,1,1] (f9_0_S y0 y1 y2 w3 w4 w5)) r:=Goes.jmp (by kernel_rfl) h
theorem f9_1_J  {x0 x1 y2 y3 y4 w5 w6 w7:TV} {r:TV} (h:Goes prog 9 (f9_1 x0 x1 y2 y3 y4 w5 w6 w7) r):Goes prog 9 (.jmp [0,0,1,0,1,1,3,0,0,0,0,0,1,1] (f9_1_S x0 x1 y2 y3 y4 w5 w6 w7)) r:=Goes.jmp (by kernel_rfl) h
theorem f9_2_J  {y0 y1 y2 w3 w4 w5:TV} {r:TV} (h:Goes prog 9 (f9_2 y0 y1 y2 w3 w4 w5) r):Goes prog 9 (.jmp [1,1,1] (f9_2_S y0 y1 y2 w3 w4 w5)) r:=Goes.jmp (by kernel_rfl) h
theorem f9_3_J  {x0 x1 w2 w3 w4 w5:TV} {r:TV} (h:Goes prog 9 (f9_3 x0 x1 w2 w3 w4 w5) r):Goes prog 9 (.jmp [0,0,1,0,1,1,1,1] (f9_3_S x0 x1 w2 w3 w4 w5)) r:=Goes.jmp (by kernel_rfl) h
theorem f9_4_J  {w0 w1 w2 w3:TV} {r:TV} (h:Goes prog 9 (f9_4 w0 w1 w2 w3) r):Goes prog 9 (.jmp [1,1,1,1,1] (f9_4_S w0 w1 w2 w3)) r:=Goes.jmp (by kernel_rfl) h
theorem f9_5_J  {x0 w1 w2 w3 w4:TV} {r:TV} (h:Goes prog 9 (f9_5 x0 w1 w2 w3 w4) r):Goes prog 9 (.jmp [0,0,1,0,1,1,1,1,1] (f9_5_S x0 w1 w2 w3 w4)) r:=Goes.jmp (by kernel_rfl) h
def f11_M (x0 x1 x2:TV):Prg TV :=
 chk (TV.isAgg x0 3) (
 call 21 [agg [cell x0 0,cell x0 1,cell x0 2],x1] fun v0 =>
 chk (fitsAt zSl [v0] 0) (
 tv (pbin (.int .i64) .leq (I 0) x2) fun v1 =>
 Prg.ite (asBool v1) (
 tv (plen (.slice 4) v0) fun v2 =>
 tv (pbin (.int .i64) .lss x2 v2) fun v3 =>
 Prg.ite (asBool v3) (
 nat (slLen v0) fun n4 =>
 nat (asNat x2) fun n5 =>
 chk (Bool.and (slSize v0 1) (Nat.blt n5 n4)) (
 tvs (pel v0 n5) fun e6 =>
 chk (fitsAt zBool e6 0) (
 ret (nth hole e6 0)))) (
 ret (B false))) (
 ret (B false))))
theorem f11_MR (x0 x1 x2:TV):startQ prog 11 [x0,x1,x2]=f11_M x0 x1 x2:=by kernel_rfl
def f13_0_S  (x0 x1 x2 y3 y4 y5 w6 w7:TV):ASt:=⟨[AV.one CA.junk,AV.tv x0,AV.one (CA.ptr 0 0),AV.one CA.junk,AV.one CA.junk,AV.one (CA.sref 1 0 []),AV.one (CA.sref 2 0 [])] ++ List.replicate 14 (AV.one CA.junk) ++ [AV.tv x1,AV.tv x2] ++ List.replicate 45 (AV.one CA.junk),[some (BC.cells [CA.t y3,CA.t y4,CA.t y5]),some (BC.tree [w6]),some (BC.tree [w7])] ++ List.replicate 89 (none),[]⟩
def f13_1_S  (x0 x1 x2 x3 x4 y5 y6 y7 w8 w9 w10:TV):ASt:=⟨[AV.one CA.junk,AV.tv x0,AV.one (CA.ptr 0 0),AV.one CA.junk,AV.one CA.junk,AV.one (CA.sref 1 0 []),AV.one (CA.sref 2 0 [])] ++ List.replicate 14 (AV.one CA.junk) ++ [AV.tv x1,AV.tv x2] ++ List.replicate 9 (AV.one CA.junk) ++ [AV.one (CA.sref 3 0 []),AV.tv x3,AV.tv x4] ++ List.replicate 33 (AV.one CA.junk),[some (BC.cells [CA.t y5,CA.t y6,CA.t y7]),some (BC.tree [w8]),some (BC.tree [w9]),some (BC.tree [w10])] ++ List.replicate 88 (none),[]⟩
def f13_2_S  (w0:TV):ASt:=⟨List.replicate 6 (AV.one CA.junk) ++ [AV.one (CA.sref 0 0 [])] ++ List.replicate 61 (AV.one CA.junk),[some (BC.tree [w0])] ++ List.replicate 91 (none),[]⟩
def f13_3_S  (x0 x1 w2 w3:TV):ASt:=⟨List.replicate 6 (AV.one CA.junk) ++ [AV.one (CA.sref 0 0 []),AV.one CA.junk,AV.one CA.junk,AV.one CA.junk,AV.one (CA.sref 1 0 [])] ++ List.replicate 43 (AV.one CA.junk) ++ [AV.tv x0,AV.tv x1] ++ List.replicate 12 (AV.one CA.junk),[some (BC.tree [w2]),some (BC.tree [w3])] ++ List.replicate 90 (none),[]⟩
def f13_M (x0 x1:TV):Prg TV :=
 chk (TV.isAgg x0 3) (
 call 21 [agg [cell x0 0,cell x0 1,cell x0 2],x1] fun v0 =>
 chk (fitsAt zSl [v0] 0) (
 tv (plen (.slice 44) (cell x0 2)) fun v1 =>
 nat (asNat v1) fun n2 =>
 nat (asNat v1) fun n3 =>
 chk (Bool.and (Nat.ble n2 n3) (Nat.ble n3 4294967296)) (
 tv (plen (.slice 44) (cell x0 2)) fun v4 =>
 jmp [0,0,1,0,1,1,1] (f13_0_S x1 v4 (I 0) (cell x0 0) (cell x0 1) (cell x0 2) v0 (TV.sl true 1 (List.replicate n2 [B false]))))))
def f13_0  (x0 x1 x2 y3 y4 y5 w6 w7:TV):Prg TV :=
 tv (pbin (.int .i64) .lss x2 x1) fun v5 =>
 Prg.ite (asBool v5) (
 nat (slLen w6) fun n6 =>
 nat (asNat x2) fun n7 =>
 chk (Bool.and (slSize w6 1) (Nat.blt n7 n6)) (
 tvs (pel w6 n7) fun e8 =>
 chk (fitsAt zBool e8 0) (
 tv (pun .not (nth hole e8 0)) fun v9 =>
 Prg.ite (asBool v9) (
 tv (pbin (.int .i64) .add x2 (I 1)) fun v10 =>
 jmp [0,0,1,0,1,1,1] (f13_0_S x0 x1 v10 y3 y4 y5 w6 w7)) (
 call 16 [agg [y3,y4,y5],x2] fun v11 =>
 chk (fitsAt zSl [v11] 0) (
 tv (plen (.slice 3) v11) fun v12 =>
 jmp [0,0,1,1,1,0,0,1,1,0,0,1,0,1,1,1] (f13_1_S x0 x1 x2 v12 (I 0) y3 y4 y5 w6 w7 v11)))))) (
 jmp [1,1,1,1] (f13_2_S w7))
def f13_1  (x0 x1 x2 x3 x4 y5 y6 y7 w8 w9 w10:TV):Prg TV :=
 tv (pbin (.int .i64) .lss x4 x3) fun v13 =>
 Prg.ite (asBool v13) (
 nat (slLen w10) fun n14 =>
 nat (asNat x4) fun n15 =>
 chk (Bool.and (slSize w10 1) (Nat.blt n15 n14)) (
 tvs (pel w10 n15) fun e16 =>
 chk (fitsAt zInt e16 0) (
 tv (pbin (.int .i64) .eql (nth hole e16 0) x0) fun v17 =>
 Prg.ite (asBool v17) (
 nat (slLen w9) fun n18 =>
 nat (asNat (nth hole e16 0)) fun n19 =>
 chk (Bool.and (slSize w9 1) (Nat.blt n19 n18)) (
 tvs (pel w9 n19) fun e20 =>
 chk (fitsAt zBool e20 0) (
 tv (setC [] w9 n19 0 [B true]) fun v21 =>
 tv (pbin (.int .i64) .add x4 (I 1)) fun v22 =>
 jmp [0,0,1,1,1,0,0,1,1,0,0,1,0,1,1,1] (f13_1_S x0 x1 x2 x3 v22 y5 y6 y7 w8 v21 w10)))) (
 nat (slLen w8) fun n23 =>
 nat (asNat (nth hole e16 0)) fun n24 =>
 chk (Bool.and (slSize w8 1) (Nat.blt n24 n23)) (
 tvs (pel w8 n24) fun e25 =>
 chk (fitsAt zBool e25 0) (
 tv (pun .not (nth hole e25 0)) fun v26 =>
 nat (slLen w9) fun n27 =>
 nat (asNat (nth hole e16 0)) fun n28 =>
 chk (Bool.and (slSize w9 1) (Nat.blt n28 n27)) (
 tvs (pel w9 n28) fun e29 =>
 chk (fitsAt zBool e29 0) (
 tv (setC [] w9 n28 0 [v26]) fun v30 =>
 tv (pbin (.int .i64) .add x4 (I 1)) fun v31 =>
 jmp [0,0,1,1,1,0,0,1,1,0,0,1,0,1,1,1] (f13_1_S x0 x1 x2 x3 v31 y5 y6 y7 w8 v30 w10))))))))) (
 tv (pbin (.int .i64) .add x2 (I 1)) fun v32 =>
 jmp [0,0,1,0,1,1,1] (f13_0_S x0 x1 v32 y5 y6 y7 w8 w9))
def f13_2  (w0:TV):Prg TV :=
 tv (plen (.slice 4) w0) fun v33 =>
 chk true (
 jmp [0,0,1,0,1,1,1,1,1] (f13_3_S v33 (I 0) w0 (TV.lit nilV)))
def f13_3  (x0 x1 w2 w3:TV):Prg TV :=
 tv (pbin (.int .i64) .lss x1 x0) fun v34 =>
 Prg.ite (asBool v34) (
 nat (slLen w2) fun n35 =>
 nat (asNat x1) fun n36 =>
 chk (Bool.and (slSize w2 1) (Nat.blt n36 n35)) (
 tvs (pel w2 n36) fun e37 =>
 chk (fitsAt zBool e37 0) (
 Prg.ite (asBool (nth hole e37 0)) (
 chk (TV.isOne x1) (
 rws (pelems 1 (TV.sl true 1 (chunks 1 1 [x1]))) fun r38 =>
 tv (papp 1 w3 (lfLL r38)) fun v39 =>
 tv (pbin (.int .i64) .add x1 (I 1)) fun v40 =>
 jmp [0,0,1,0,1,1,1,1,1] (f13_3_S x0 v40 w2 v39))) (
 tv (pbin (.int .i64) .add x1 (I 1)) fun v41 =>
 jmp [0,0,1,0,1,1,1,1,1] (f13_3_S x0 v41 w2 w3))))) (
 chk (isOwn w3) (
 ret w3))
theorem f13_MR (x0 x1:TV):startQ prog 13 [x0,x1]=f13_M x0 x1:=by kernel_rfl
theorem f13_0_J  {x0 x1 x2 y3 y4 y5 w6 w7:TV} {r:TV} (h:Goes prog 13 (f13_0 x0 x1 x2 y3 y4 y5 w6 w7) r):Goes prog 13 (.jmp [0,0,1,0,1,1,1] (f13_0_S x0 x1 x2 y3 y4 y5 w6 w7)) r:=Goes.jmp (by kernel_rfl) h
theorem f13_1_J  {x0 x1 x2 x3 x4 y5 y6 y7 w8 w9 w10:TV} {r:TV} (h:Goes prog 13 (f13_1 x0 x1 x2 x3 x4 y5 y6 y7 w8 w9 w10) r):Goes prog 13 (.jmp [0,0,1,1,1,0,0,1,1,0,0,1,0,1,1,1] (f13_1_S x0 x1 x2 x3 x4 y5 y6 y7 w8 w9 w10)) r:=Goes.jmp (by kernel_rfl) h
theorem f13_2_J  {w0:TV} {r:TV} (h:Goes prog 13 (f13_2 w0) r):Goes prog 13 (.jmp [1,1,1,1] (f13_2_S w0)) r:=Goes.jmp (by kernel_rfl) h
theorem f13_3_J  {x0 x1 w2 w3:TV} {r:TV} (h:Goes prog 13 (f13_3 x0 x1 w2 w3) r):Goes prog 13 (.jmp [0,0,1,0,1,1,1,1,1] (f13_3_S x0 x1 w2 w3)) r:=Goes.jmp (by kernel_rfl) h
end Go.Ab.V8
end
section
set_option linter.unusedVariables false
set_option maxRecDepth 100000
namespace Go.Ab.V8
open Go Go.Ab Go.Proofs
open Go.Ab.TV (hole cell comp isSl isSc isTup cellsL tup agg)
open Go.Ab.Prg (tv tvs rws nat chk call jmp ret)
def f15_0_S  (x0 x1 w2 w3:TV):ASt:=⟨[AV.one CA.junk,AV.one CA.junk,AV.one CA.junk,AV.one (CA.sref 0 0 [])] ++ List.replicate 7 (AV.one CA.junk) ++ [AV.one (CA.sref 1 0 []),AV.tv x0,AV.tv x1] ++ List.replicate 8 (AV.one CA.junk),[some (BC.tree [w2]),some (BC.tree [w3])] ++ List.replicate 44 (none),[]⟩
def f15_M (x0:TV):Prg TV :=
 chk (TV.isAgg x0 3) (
 tv (plen (.slice 44) (cell x0 2)) fun v0 =>
 nat (asNat v0) fun n1 =>
 nat (asNat v0) fun n2 =>
 chk (Bool.and (Nat.ble n1 n2) (Nat.ble n2 4294967296)) (
 call 25 [agg [cell x0 0,cell x0 1,cell x0 2]] fun v3 =>
 chk (fitsAt zSl [v3] 0) (
 tv (plen (.slice 3) v3) fun v4 =>
 jmp [0,0,1,0,1,1] (f15_0_S v4 (I 0) (TV.sl true 1 (List.replicate n1 [B false])) v3))))
def f15_0  (x0 x1 w2 w3:TV):Prg TV :=
 tv (pbin (.int .i64) .lss x1 x0) fun v5 =>
 Prg.ite (asBool v5) (
 nat (slLen w3) fun n6 =>
 nat (asNat x1) fun n7 =>
 chk (Bool.and (slSize w3 1) (Nat.blt n7 n6)) (
 tvs (pel w3 n7) fun e8 =>
 chk (fitsAt zInt e8 0) (
 nat (slLen w2) fun n9 =>
 nat (asNat (nth hole e8 0)) fun n10 =>
 chk (Bool.and (slSize w2 1) (Nat.blt n10 n9)) (
 tvs (pel w2 n10) fun e11 =>
 chk (fitsAt zBool e11 0) (
 tv (setC [] w2 n10 0 [B true]) fun v12 =>
 tv (pbin (.int .i64) .add x1 (I 1)) fun v13 =>
 jmp [0,0,1,0,1,1] (f15_0_S x0 v13 v12 w3)))))) (
 ret w2)
theorem f15_MR (x0:TV):startQ prog 15 [x0]=f15_M x0:=by kernel_rfl
theorem f15_0_J  {x0 x1 w2 w3:TV} {r:TV} (h:Goes prog 15 (f15_0 x0 x1 w2 w3) r):Goes prog 15 (.jmp [0,0,1,0,1,1] (f15_0_S x0 x1 w2 w3)) r:=Goes.jmp (by kernel_rfl) h
def f16_0_S  (y0 y1 y2 w3:TV):ASt:=⟨[AV.one CA.junk,AV.one CA.junk,AV.one (CA.ptr 0 0),AV.one CA.junk,AV.one CA.junk,AV.one CA.junk,AV.one (CA.sref 1 0 [])] ++ List.replicate 24 (AV.one CA.junk),[some (BC.cells [CA.t y0,CA.t y1,CA.t y2]),some (BC.tree [w3])] ++ List.replicate 53 (none),[]⟩
def f16_1_S  (x0 x1 w2 y3 y4 y5:TV):ASt:=⟨[AV.one (CA.sref 0 0 []),AV.clo 29 [CA.ptr 1 0]] ++ List.replicate 5 (AV.one CA.junk) ++ [AV.tv x0,AV.tv x1] ++ List.replicate 10 (AV.one CA.junk),[some (BC.tree [w2]),some (BC.cells [CA.t y3,CA.t y4,CA.t y5])] ++ List.replicate 114 (none),(List.replicate 31 (AV.one CA.junk) ++ [AV.one (CA.sref 0 0 []),AV.clo 29 [CA.ptr 1 0]] ++ List.replicate 40 (AV.one CA.junk))⟩
def f16_2_S  (x0 x1 w2 y3 y4 y5:TV):ASt:=⟨[AV.one (CA.sref 0 0 []),AV.clo 29 [CA.ptr 1 0],AV.one CA.junk,AV.one CA.junk,AV.one CA.junk,AV.tv x0,AV.tv x1] ++ List.replicate 35 (AV.one CA.junk),[some (BC.tree [w2]),some (BC.cells [CA.t y3,CA.t y4,CA.t y5])] ++ List.replicate 95 (none),List.replicate 31 (AV.one CA.junk)⟩
def f16_3_S  (x0 w1:TV):ASt:=⟨[AV.one (CA.sref 0 0 [])] ++ List.replicate 4 (AV.one CA.junk) ++ [AV.tv x0] ++ List.replicate 36 (AV.one CA.junk),[some (BC.tree [w1])] ++ List.replicate 96 (none),List.replicate 31 (AV.one CA.junk)⟩
def f16_M (x0 x1:TV):Prg TV :=
 chk (TV.isAgg x0 3) (
 call 26 [agg [cell x0 0,cell x0 1,cell x0 2],x1] fun v0 =>
 chk (fitsAt zBool [v0] 0) (
 tv (pun .not v0) fun v1 =>
 Prg.ite (asBool v1) (
 chk true (
 ret (TV.lit nilV))) (
 tvs (pidx 14 (cell x0 2) x1) fun e2 =>
 chk (Nat.ble 14 (List.length e2)) (
 call 27 [agg [nth hole e2 0,nth hole e2 1,nth hole e2 2,nth hole e2 3,nth hole e2 4,nth hole e2 5,nth hole e2 6,nth hole e2 7,nth hole e2 8,nth hole e2 9,nth hole e2 10,nth hole e2 11,nth hole e2 12,nth hole e2 13]] fun v3 =>
 chk (fitsAt zSl [v3] 0) (
 tv (pbin (.int .i64) .eql (nth hole e2 6) (I 4)) fun v4 =>
 Prg.ite (asBool v4) (
 rws (pelems 1 (TV.sl true 1 (chunks 1 1 [nth hole e2 13]))) fun r5 =>
 tv (papp 1 v3 (lfLL r5)) fun v6 =>
 jmp [1,1,1,1,1] (f16_0_S (cell x0 0) (cell x0 1) (cell x0 2) v6)) (
 jmp [1,1,1,1,1] (f16_0_S (cell x0 0) (cell x0 1) (cell x0 2) v3)))))))
def f16_0  (y0 y1 y2 w3:TV):Prg TV :=
 tv (plen (.slice 3) w3) fun v7 =>
 jmp [0,0,1,0,1,4,0,1,4,0,1,1,1,1,1] (f16_1_S v7 (I 0) w3 y0 y1 y2)
def f16_1  (x0 x1 w2 y3 y4 y5:TV):Prg TV :=
 tv (pbin (.int .i64) .lss x1 x0) fun v8 =>
 Prg.ite (asBool v8) (
 nat (slLen w2) fun n9 =>
 nat (asNat x1) fun n10 =>
 chk (Bool.and (slSize w2 1) (Nat.blt n10 n9)) (
 tvs (pel w2 n10) fun e11 =>
 chk (fitsAt zInt e11 0) (
 call 26 [agg [y3,y4,y5],nth hole e11 0] fun v12 =>
 chk (fitsAt zBool [v12] 0) (
 tv (pun .not v12) fun v13 =>
 Prg.ite (asBool v13) (
 tv (pbin (.int .i64) .eql x1 (TV.lit (Value.int IntKind.i64 (-1)))) fun v14 =>
 Prg.ite (asBool v14) (
 chk (isOwn w2) (
 ret w2)) (
 tv (pbin (.int .i64) .add x1 (I 1)) fun v15 =>
 jmp [0,0,1,0,1,1,1,4,0,1,1,1,1,1] (f16_2_S x1 v15 w2 y3 y4 y5))) (
 tv (pbin (.int .i64) .add x1 (I 1)) fun v16 =>
 jmp [0,0,1,0,1,4,0,1,4,0,1,1,1,1,1] (f16_1_S x0 v16 w2 y3 y4 y5)))))) (
 tv (pbin (.int .i64) .eql (TV.lit (Value.int IntKind.i64 (-1))) (TV.lit (Value.int IntKind.i64 (-1)))) fun v17 =>
 Prg.ite (asBool v17) (
 chk (isOwn w2) (
 ret w2)) (
 tv (pbin (.int .i64) .add (TV.lit (Value.int IntKind.i64 (-1))) (I 1)) fun v18 =>
 jmp [0,0,1,0,1,1,1,4,0,1,1,1,1,1] (f16_2_S (TV.lit (Value.int IntKind.i64 (-1))) v18 w2 y3 y4 y5)))
def f16_2  (x0 x1 w2 y3 y4 y5:TV):Prg TV :=
 tv (plen (.slice 3) w2) fun v19 =>
 tv (pbin (.int .i64) .lss x1 v19) fun v20 =>
 Prg.ite (asBool v20) (
 nat (slLen w2) fun n21 =>
 nat (asNat x1) fun n22 =>
 chk (Bool.and (slSize w2 1) (Nat.blt n22 n21)) (
 tvs (pel w2 n22) fun e23 =>
 chk (fitsAt zInt e23 0) (
 call 26 [agg [y3,y4,y5],nth hole e23 0] fun v24 =>
 chk (fitsAt zBool [v24] 0) (
 tv (pun .not v24) fun v25 =>
 tv (pun .not v25) fun v26 =>
 Prg.ite (asBool v26) (
 nat (slLen w2) fun n27 =>
 nat (asNat x0) fun n28 =>
 chk (Bool.and (slSize w2 1) (Nat.blt n28 n27)) (
 tvs (pel w2 n28) fun e29 =>
 chk (fitsAt zInt e29 0) (
 tv (setC [] w2 n28 0 [nth hole e23 0]) fun v30 =>
 tv (pbin (.int .i64) .add x0 (I 1)) fun v31 =>
 tv (pbin (.int .i64) .add x1 (I 1)) fun v32 =>
 jmp [0,0,1,0,1,1,1,4,0,1,1,1,1,1] (f16_2_S v31 v32 v30 y3 y4 y5)))) (
 tv (pbin (.int .i64) .add x1 (I 1)) fun v33 =>
 jmp [0,0,1,0,1,1,1,4,0,1,1,1,1,1] (f16_2_S x0 v33 w2 y3 y4 y5)))))) (
 jmp [1,1,1,1,4,0,1,1,1,1,1] (f16_3_S x0 w2))
def f16_3  (x0 w1:TV):Prg TV :=
 nat (slLen w1) fun n34 =>
 nat (asNat x0) fun n35 =>
 chk (Bool.and (Bool.and (slSize w1 1) (Nat.ble (Option.getD (some n35) 0) (Option.getD none n34))) (Nat.ble (Option.getD none n34) n34)) (
 tv (pclear 1 [I 0] (Option.getD (some n35) 0) ((Option.getD none n34) - (Option.getD (some n35) 0)) w1) fun v36 =>
 nat (slLen v36) fun n37 =>
 nat (asNat x0) fun n38 =>
 chk (Bool.and (Bool.and (slSize v36 1) (Nat.ble 0 (Option.getD (some n38) n37))) (Nat.ble (Option.getD (some n38) n37) n37)) (
 tv (winP 0 ((Option.getD (some n38) n37) - 0) v36) fun v39 =>
 chk (isOwn v39) (
 ret v39)))
theorem f16_MR (x0 x1:TV):startQ prog 16 [x0,x1]=f16_M x0 x1:=by kernel_rfl
theorem f16_0_J  {y0 y1 y2 w3:TV} {r:TV} (h:Goes prog 16 (f16_0 y0 y1 y2 w3) r):Goes prog 16 (.jmp [1,1,1,1,1] (f16_0_S y0 y1 y2 w3)) r:=Goes.jmp (by kernel_rfl) h
theorem f16_1_J  {x0 x1 w2 y3 y4 y5:TV} {r:TV} (h:Goes prog 16 (f16_1 x0 x1 w2 y3 y4 y5) r):Goes prog 16 (.jmp [0,0,1,0,1,4,0,1,4,0,1,1,1,1,1] (f16_1_S x0 x1 w2 y3 y4 y5)) r:=Goes.jmp (by kernel_rfl) h
theorem f16_2_J  {x0 x1 w2 y3 y4 y5:TV} {r:TV} (h:Goes prog 16 (f16_2 x0 x1 w2 y3 y4 y5) r):Goes prog 16 (.jmp [0,0,1,0,1,1,1,4,0,1,1,1,1,1] (f16_2_S x0 x1 w2 y3 y4 y5)) r:=Goes.jmp (by kernel_rfl) h
theorem f16_3_J  {x0 w1:TV} {r:TV} (h:Goes prog 16 (f16_3 x0 w1) r):Goes prog 16 (.jmp [1,1,1,1,4,0,1,1,1,1,1] (f16_3_S x0 w1)) r:=Goes.jmp (by kernel_rfl) h
def f18_0_S  (x0 w1 w2 w3:TV):ASt:=⟨[AV.one CA.junk,AV.one CA.junk,AV.one (CA.ptr 0 0),AV.one (CA.sref 1 0 []),AV.one (CA.ptr 2 0),AV.tv x0] ++ List.replicate 28 (AV.one CA.junk),[some (BC.cells [CA.junk,CA.junk,CA.junk]),some (BC.tree [w1]),some (BC.cells [CA.sref 1 0 [],CA.sref 3 0 [],CA.sref 4 0 []]),some (BC.tree [w2]),some (BC.tree [w3])] ++ List.replicate 53 (none),[]⟩
def f18_M (x0:TV):Prg TV :=
 chk (TV.isAgg x0 3) (
 call 25 [agg [cell x0 0,cell x0 1,cell x0 2]] fun v0 =>
 chk (fitsAt zSl [v0] 0) (
 call 30 [agg [cell x0 0,cell x0 1,cell x0 2],frz v0] fun v1 =>
 chk (fitsAt zSl [v1] 0) (
 tv (plen (.slice 3) v0) fun v2 =>
 nat (asNat v2) fun n3 =>
 nat (asNat v2) fun n4 =>
 chk (Bool.and (Nat.ble n3 n4) (Nat.ble n4 4294967296)) (
 jmp [0,0,1,0,1,1,1] (f18_0_S (I 1) v0 v1 (TV.sl true 1 (List.replicate n3 [I 0])))))))
def f18_0  (x0 w1 w2 w3:TV):Prg TV :=
 tv (plen (.slice 3) w1) fun v5 =>
 tv (pbin (.int .i64) .lss x0 v5) fun v6 =>
 Prg.ite (asBool v6) (
 nat (slLen w2) fun n7 =>
 nat (asNat x0) fun n8 =>
 chk (Bool.and (slSize w2 1) (Nat.blt n8 n7)) (
 tvs (pel w2 n8) fun e9 =>
 chk (fitsAt zSl e9 0) (
 tv (getP [(n8,0)] w2) fun v10 =>
 nat (slLen v10) fun n11 =>
 nat (asNat (I 0)) fun n12 =>
 chk (Bool.and (slSize v10 1) (Nat.blt n12 n11)) (
 tv (getP [(n8,0)] w2) fun v13 =>
 tvs (pel v13 n12) fun e14 =>
 chk (fitsAt zInt e14 0) (
 nat (slLen w3) fun n15 =>
 nat (asNat x0) fun n16 =>
 chk (Bool.and (slSize w3 1) (Nat.blt n16 n15)) (
 tvs (pel w3 n16) fun e17 =>
 chk (fitsAt zInt e17 0) (
 tv (setC [] w3 n16 0 [nth hole e14 0]) fun v18 =>
 tv (pbin (.int .i64) .add x0 (I 1)) fun v19 =>
 jmp [0,0,1,0,1,1,1] (f18_0_S v19 w1 w2 v18)))))))) (
 chk (isOwn (agg [w1,w2,w3])) (
 ret (agg [w1,w2,w3])))
theorem f18_MR (x0:TV):startQ prog 18 [x0]=f18_M x0:=by kernel_rfl
theorem f18_0_J  {x0 w1 w2 w3:TV} {r:TV} (h:Goes prog 18 (f18_0 x0 w1 w2 w3) r):Goes prog 18 (.jmp [0,0,1,0,1,1,1] (f18_0_S x0 w1 w2 w3)) r:=Goes.jmp (by kernel_rfl) h
def f20_0_S  (x0 y1 y2 y3 w4 w5:TV):ASt:=⟨[AV.one CA.junk,AV.one (CA.ptr 0 0),AV.one CA.junk,AV.one (CA.sref 1 0 []),AV.one (CA.sref 2 0 []),AV.tv x0] ++ List.replicate 50 (AV.one CA.junk),[some (BC.cells [CA.t y1,CA.t y2,CA.t y3]),some (BC.tree [w4]),some (BC.tree [w5])] ++ List.replicate 77 (none),[]⟩
def f20_1_S  (x0 x1 y2 y3 y4 w5 w6 w7 w8:TV):ASt:=⟨[AV.one CA.junk,AV.one (CA.ptr 0 0),AV.one CA.junk,AV.one (CA.sref 1 0 []),AV.one (CA.sref 2 0 []),AV.tv x0,AV.one (CA.sref 3 0 []),AV.one (CA.sref 4 0 []),AV.tv x1] ++ List.replicate 47 (AV.one CA.junk),[some (BC.cells [CA.t y2,CA.t y3,CA.t y4]),some (BC.tree [w5]),some (BC.tree [w6]),some (BC.tree [w7]),some (BC.tree [w8])] ++ List.replicate 75 (none),[]⟩
def f20_2_S  (x0 y1 y2 y3 w4 w5 w6:TV):ASt:=⟨[AV.one CA.junk,AV.one (CA.ptr 0 0),AV.one CA.junk,AV.one (CA.sref 1 0 []),AV.one (CA.sref 2 0 []),AV.tv x0,AV.one CA.junk,AV.one (CA.sref 3 0 [])] ++ List.replicate 48 (AV.one CA.junk),[some (BC.cells [CA.t y1,CA.t y2,CA.t y3]),some (BC.tree [w4]),some (BC.tree [w5]),some (BC.tree [w6])] ++ List.replicate 76 (none),[]⟩
def f20_M (x0:TV):Prg TV :=
 chk (TV.isAgg x0 3) (
 call 22 [agg [cell x0 0,cell x0 1,cell x0 2]] fun v0 =>
 chk (fitsAt zSl [v0] 0) (
 chk true (
 jmp [0,0,1,0,1,1,1] (f20_0_S (I 0) (cell x0 0) (cell x0 1) (cell x0 2) v0 (TV.lit nilV)))))
def f20_0  (x0 y1 y2 y3 w4 w5:TV):Prg TV :=
 tv (plen (.slice 44) y3) fun v1 =>
 tv (pbin (.int .i64) .lss x0 v1) fun v2 =>
 Prg.ite (asBool v2) (
 call 23 [agg [y1,y2,y3],x0] fun v3 =>
 chk (fitsAt zSl [v3] 0) (
 tv (plen (.slice 44) y3) fun v4 =>
 nat (asNat v4) fun n5 =>
 nat (asNat v4) fun n6 =>
 chk (Bool.and (Nat.ble n5 n6) (Nat.ble n6 4294967296)) (
 jmp [0,0,1,0,1,1,0,0,1,0,0,1,0,1,1,1] (f20_1_S x0 (I 0) y1 y2 y3 w4 w5 v3 (TV.sl true 1 (List.replicate n5 [B false])))))) (
 ret w5)
def f20_1  (x0 x1 y2 y3 y4 w5 w6 w7 w8:TV):Prg TV :=
 tv (plen (.slice 44) y4) fun v7 =>
 tv (pbin (.int .i64) .lss x1 v7) fun v8 =>
 Prg.ite (asBool v8) (
 nat (slLen w5) fun n9 =>
 nat (asNat x1) fun n10 =>
 chk (Bool.and (slSize w5 1) (Nat.blt n10 n9)) (
 tvs (pel w5 n10) fun e11 =>
 chk (fitsAt zBool e11 0) (
 Prg.ite (asBool (nth hole e11 0)) (
 tv (pbin (.int .i64) .eql x0 x1) fun v12 =>
 Prg.ite (asBool v12) (
 nat (slLen w8) fun n13 =>
 nat (asNat x1) fun n14 =>
 chk (Bool.and (slSize w8 1) (Nat.blt n14 n13)) (
 tvs (pel w8 n14) fun e15 =>
 chk (fitsAt zBool e15 0) (
 tv (setC [] w8 n14 0 [B true]) fun v16 =>
 tv (pbin (.int .i64) .add x1 (I 1)) fun v17 =>
 jmp [0,0,1,0,1,1,0,0,1,0,0,1,0,1,1,1] (f20_1_S x0 v17 y2 y3 y4 w5 w6 w7 v16)))) (
 nat (slLen w7) fun n18 =>
 nat (asNat x1) fun n19 =>
 chk (Bool.and (slSize w7 1) (Nat.blt n19 n18)) (
 tvs (pel w7 n19) fun e20 =>
 chk (fitsAt zBool e20 0) (
 tv (pun .not (nth hole e20 0)) fun v21 =>
 nat (slLen w8) fun n22 =>
 nat (asNat x1) fun n23 =>
 chk (Bool.and (slSize w8 1) (Nat.blt n23 n22)) (
 tvs (pel w8 n23) fun e24 =>
 chk (fitsAt zBool e24 0) (
 tv (setC [] w8 n23 0 [v21]) fun v25 =>
 tv (pbin (.int .i64) .add x1 (I 1)) fun v26 =>
 jmp [0,0,1,0,1,1,0,0,1,0,0,1,0,1,1,1] (f20_1_S x0 v26 y2 y3 y4 w5 w6 w7 v25))))))) (
 nat (slLen w8) fun n27 =>
 nat (asNat x1) fun n28 =>
 chk (Bool.and (slSize w8 1) (Nat.blt n28 n27)) (
 tvs (pel w8 n28) fun e29 =>
 chk (fitsAt zBool e29 0) (
 tv (setC [] w8 n28 0 [B false]) fun v30 =>
 tv (pbin (.int .i64) .add x1 (I 1)) fun v31 =>
 jmp [0,0,1,0,1,1,0,0,1,0,0,1,0,1,1,1] (f20_1_S x0 v31 y2 y3 y4 w5 w6 w7 v30))))))) (
 jmp [1,1,1,0,0,1,0,0,1,0,1,1,1] (f20_2_S x0 y2 y3 y4 w5 w6 w8))
def f20_2  (x0 y1 y2 y3 w4 w5 w6:TV):Prg TV :=
 rws (pelems 1 (TV.sl true 1 (chunks 1 1 [w6]))) fun r32 =>
 tv (papp 1 w5 r32) fun v33 =>
 tv (pbin (.int .i64) .add x0 (I 1)) fun v34 =>
 jmp [0,0,1,0,1,1,1] (f20_0_S v34 y1 y2 y3 w4 v33)
theorem f20_MR (x0:TV):startQ prog 20 [x0]=f20_M x0:=by kernel_rfl
theorem f20_0_J  {x0 y1 y2 y3 w4 w5:TV} {r:TV} (h:Goes prog 20 (f20_0 x0 y1 y2 y3 w4 w5) r):Goes prog 20 (.jmp [0,0,1,0,1,1,1] (f20_0_S x0 y1 y2 y3 w4 w5)) r:=Goes.jmp (by kernel_rfl) h
theorem f20_1_J  {x0 x1 y2 y3 y4 w5 w6 w7 w8:TV} {r:TV} (h:Goes prog 20 (f20_1 x0 x1 y2 y3 y4 w5 w6 w7 w8) r):Goes prog 20 (.jmp [0,0,1,0,1,1,0,0,1,0,0,1,0,1,1,1] (f20_1_S x0 x1 y2 y3 y4 w5 w6 w7 w8)) r:=Goes.jmp (by kernel_rfl) h
theorem f20_2_J  {x0 y1 y2 y3 w4 w5 w6:TV} {r:TV} (h:Goes prog 20 (f20_2 x0 y1 y2 y3 w4 w5 w6) r):Goes prog 20 (.jmp [1,1,1,0,0,1,0,0,1,0,1,1,1] (f20_2_S x0 y1 y2 y3 w4 w5 w6)) r:=Goes.jmp (by kernel_rfl) h
def f21_0_S  (x0 x1 x2 w3 w4 w5:TV):ASt:=⟨[AV.one CA.junk,AV.tv x0,AV.one CA.junk,AV.one CA.junk,AV.one CA.junk,AV.one (CA.sref 0 0 []),AV.one (CA.sref 1 0 [])] ++ List.replicate 9 (AV.one CA.junk) ++ [AV.one (CA.sref 2 0 []),AV.tv x1,AV.tv x2] ++ List.replicate 24 (AV.one CA.junk),[some (BC.tree [w3]),some (BC.tree [w4]),some (BC.tree [w5])] ++ List.replicate 64 (none),[]⟩
def f21_M (x0 x1:TV):Prg TV :=
 chk (TV.isAgg x0 3) (
 call 9 [agg [cell x0 0,cell x0 1,cell x0 2]] fun v0 =>
 chk (fitsAt zSl [v0] 0) (
 tv (plen (.slice 44) (cell x0 2)) fun v1 =>
 nat (asNat v1) fun n2 =>
 nat (asNat v1) fun n3 =>
 chk (Bool.and (Nat.ble n2 n3) (Nat.ble n3 4294967296)) (
 call 25 [agg [cell x0 0,cell x0 1,cell x0 2]] fun v4 =>
 chk (fitsAt zSl [v4] 0) (
 tv (plen (.slice 3) v4) fun v5 =>
 jmp [0,0,1,0,1,1,1] (f21_0_S x1 v5 (I 0) v0 (TV.sl true 1 (List.replicate n2 [B false])) v4)))))
def f21_0  (x0 x1 x2 w3 w4 w5:TV):Prg TV :=
 tv (pbin (.int .i64) .lss x2 x1) fun v6 =>
 Prg.ite (asBool v6) (
 nat (slLen w5) fun n7 =>
 nat (asNat x2) fun n8 =>
 chk (Bool.and (slSize w5 1) (Nat.blt n8 n7)) (
 tvs (pel w5 n8) fun e9 =>
 chk (fitsAt zInt e9 0) (
 tv (pbin (.int .i64) .eql (nth hole e9 0) x0) fun v10 =>
 Prg.ite (asBool v10) (
 nat (slLen w4) fun n11 =>
 nat (asNat (nth hole e9 0)) fun n12 =>
 chk (Bool.and (slSize w4 1) (Nat.blt n12 n11)) (
 tvs (pel w4 n12) fun e13 =>
 chk (fitsAt zBool e13 0) (
 tv (setC [] w4 n12 0 [B true]) fun v14 =>
 tv (pbin (.int .i64) .add x2 (I 1)) fun v15 =>
 jmp [0,0,1,0,1,1,1] (f21_0_S x0 x1 v15 w3 v14 w5)))) (
 tv (pbin (.int .i64) .gtr (nth hole e9 0) (I 0)) fun v16 =>
 Prg.ite (asBool v16) (
 nat (slLen w3) fun n17 =>
 nat (asNat (nth hole e9 0)) fun n18 =>
 chk (Bool.and (slSize w3 1) (Nat.blt n18 n17)) (
 tvs (pel w3 n18) fun e19 =>
 chk (fitsAt zInt e19 0) (
 nat (slLen w4) fun n20 =>
 nat (asNat (nth hole e19 0)) fun n21 =>
 chk (Bool.and (slSize w4 1) (Nat.blt n21 n20)) (
 tvs (pel w4 n21) fun e22 =>
 chk (fitsAt zBool e22 0) (
 nat (slLen w4) fun n23 =>
 nat (asNat (nth hole e9 0)) fun n24 =>
 chk (Bool.and (slSize w4 1) (Nat.blt n24 n23)) (
 tvs (pel w4 n24) fun e25 =>
 chk (fitsAt zBool e25 0) (
 tv (setC [] w4 n24 0 [nth hole e22 0]) fun v26 =>
 tv (pbin (.int .i64) .add x2 (I 1)) fun v27 =>
 jmp [0,0,1,0,1,1,1] (f21_0_S x0 x1 v27 w3 v26 w5)))))))) (
 nat (slLen w4) fun n28 =>
 nat (asNat (nth hole e9 0)) fun n29 =>
 chk (Bool.and (slSize w4 1) (Nat.blt n29 n28)) (
 tvs (pel w4 n29) fun e30 =>
 chk (fitsAt zBool e30 0) (
 tv (setC [] w4 n29 0 [B false]) fun v31 =>
 tv (pbin (.int .i64) .add x2 (I 1)) fun v32 =>
 jmp [0,0,1,0,1,1,1] (f21_0_S x0 x1 v32 w3 v31 w5)))))))) (
 chk (isOwn w4) (
 ret w4))
theorem f21_MR (x0 x1:TV):startQ prog 21 [x0,x1]=f21_M x0 x1:=by kernel_rfl
theorem f21_0_J  {x0 x1 x2 w3 w4 w5:TV} {r:TV} (h:Goes prog 21 (f21_0 x0 x1 x2 w3 w4 w5) r):Goes prog 21 (.jmp [0,0,1,0,1,1,1] (f21_0_S x0 x1 x2 w3 w4 w5)) r:=Goes.jmp (by kernel_rfl) h
def f22_M (x0:TV):Prg TV :=
 chk (TV.isAgg x0 3) (
 call 23 [agg [cell x0 0,cell x0 1,cell x0 2],TV.lit (Value.int IntKind.i64 (-1))] fun v0 =>
 chk (fitsAt zSl [v0] 0) (
 ret v0))
theorem f22_MR (x0:TV):startQ prog 22 [x0]=f22_M x0:=by kernel_rfl
def f23_0_S  (x0 x1 y2 y3 y4 w5:TV):ASt:=⟨[AV.one CA.junk,AV.tv x0,AV.one (CA.ptr 0 0),AV.one CA.junk,AV.one CA.junk,AV.one (CA.sref 1 0 []),AV.tv x1] ++ List.replicate 62 (AV.one CA.junk),[some (BC.cells [CA.t y2,CA.t y3,CA.t y4]),some (BC.tree [w5])] ++ List.replicate 91 (none),[]⟩
def f23_1_S  (x0 x1 x2 y3 y4 y5 w6:TV):ASt:=⟨[AV.one CA.junk,AV.tv x0,AV.one (CA.ptr 0 0),AV.one CA.junk,AV.one CA.junk,AV.one (CA.sref 1 0 []),AV.tv x1,AV.tv x2] ++ List.replicate 61 (AV.one CA.junk),[some (BC.cells [CA.t y3,CA.t y4,CA.t y5]),some (BC.tree [w6])] ++ List.replicate 91 (none),[]⟩
def f23_2_S  (x0 x1 x2 x3 y4 y5 y6 w7 w8:TV):ASt:=⟨[AV.one CA.junk,AV.tv x0,AV.one (CA.ptr 0 0),AV.one CA.junk,AV.one CA.junk,AV.one (CA.sref 1 0 []),AV.tv x1,AV.tv x2,AV.one (CA.sref 2 0 []),AV.tv x3] ++ List.replicate 59 (AV.one CA.junk),[some (BC.cells [CA.t y4,CA.t y5,CA.t y6]),some (BC.tree [w7]),some (BC.tree [w8])] ++ List.replicate 90 (none),[]⟩
def f23_M (x0 x1:TV):Prg TV :=
 chk (TV.isAgg x0 3) (
 tv (plen (.slice 44) (cell x0 2)) fun v0 =>
 nat (asNat v0) fun n1 =>
 nat (asNat v0) fun n2 =>
 chk (Bool.and (Nat.ble n1 n2) (Nat.ble n2 4294967296)) (
 tv (plen (.slice 4) (TV.sl true 1 (List.replicate n1 [B false]))) fun v3 =>
 tv (pbin (.int .i64) .eql v3 (I 0)) fun v4 =>
 Prg.ite (asBool v4) (
 ret (TV.sl true 1 (List.replicate n1 [B false]))) (
 tv (pbin (.int .i64) .eql x1 (I 0)) fun v5 =>
 Prg.ite (asBool v5) (
 ret (TV.sl true 1 (List.replicate n1 [B false]))) (
 nat (slLen (TV.sl true 1 (List.replicate n1 [B false]))) fun n6 =>
 nat (asNat (I 0)) fun n7 =>
 chk (Bool.and (slSize (TV.sl true 1 (List.replicate n1 [B false])) 1) (Nat.blt n7 n6)) (
 tvs (pel (TV.sl true 1 (List.replicate n1 [B false])) n7) fun e8 =>
 chk (fitsAt zBool e8 0) (
 tv (setC [] (TV.sl true 1 (List.replicate n1 [B false])) n7 0 [B true]) fun v9 =>
 jmp [0,0,1,0,1,1,1,1] (f23_0_S x1 (B true) (cell x0 0) (cell x0 1) (cell x0 2) v9)))))))
def f23_0  (x0 x1 y2 y3 y4 w5:TV):Prg TV :=
 Prg.ite (asBool x1) (
 jmp [0,0,1,1,0,1,0,0,1,0,1,1,1,1] (f23_1_S x0 (B false) (I 0) y2 y3 y4 w5)) (
 ret w5)
def f23_1  (x0 x1 x2 y3 y4 y5 w6:TV):Prg TV :=
 tv (plen (.slice 4) w6) fun v10 =>
 tv (pbin (.int .i64) .lss x2 v10) fun v11 =>
 Prg.ite (asBool v11) (
 call 24 [agg [y3,y4,y5],x2] fun v12 =>
 chk (fitsAt zSl [v12] 0) (
 jmp [0,0,1,1,0,0,1,0,0,1,1,0,1,0,0,1,0,1,1,1,1] (f23_2_S x0 x1 x2 (I 0) y3 y4 y5 w6 v12))) (
 jmp [0,0,1,0,1,1,1,1] (f23_0_S x0 x1 y3 y4 y5 w6))
def f23_2  (x0 x1 x2 x3 y4 y5 y6 w7 w8:TV):Prg TV :=
 tv (plen (.slice 3) w8) fun v13 =>
 tv (pbin (.int .i64) .lss x3 v13) fun v14 =>
 Prg.ite (asBool v14) (
 nat (slLen w7) fun n15 =>
 nat (asNat x2) fun n16 =>
 chk (Bool.and (slSize w7 1) (Nat.blt n16 n15)) (
 tvs (pel w7 n16) fun e17 =>
 chk (fitsAt zBool e17 0) (
 Prg.ite (asBool (nth hole e17 0)) (
 nat (slLen w8) fun n18 =>
 nat (asNat x3) fun n19 =>
 chk (Bool.and (slSize w8 1) (Nat.blt n19 n18)) (
 tvs (pel w8 n19) fun e20 =>
 chk (fitsAt zInt e20 0) (
 tv (pbin (.int .i64) .neq (nth hole e20 0) x0) fun v21 =>
 Prg.ite (asBool v21) (
 nat (slLen w8) fun n22 =>
 nat (asNat x3) fun n23 =>
 chk (Bool.and (slSize w8 1) (Nat.blt n23 n22)) (
 tvs (pel w8 n23) fun e24 =>
 chk (fitsAt zInt e24 0) (
 nat (slLen w7) fun n25 =>
 nat (asNat (nth hole e24 0)) fun n26 =>
 chk (Bool.and (slSize w7 1) (Nat.blt n26 n25)) (
 tvs (pel w7 n26) fun e27 =>
 chk (fitsAt zBool e27 0) (
 tv (pun .not (nth hole e27 0)) fun v28 =>
 Prg.ite (asBool v28) (
 nat (slLen w8) fun n29 =>
 nat (asNat x3) fun n30 =>
 chk (Bool.and (slSize w8 1) (Nat.blt n30 n29)) (
 tvs (pel w8 n30) fun e31 =>
 chk (fitsAt zInt e31 0) (
 nat (slLen w7) fun n32 =>
 nat (asNat (nth hole e31 0)) fun n33 =>
 chk (Bool.and (slSize w7 1) (Nat.blt n33 n32)) (
 tvs (pel w7 n33) fun e34 =>
 chk (fitsAt zBool e34 0) (
 tv (setC [] w7 n33 0 [B true]) fun v35 =>
 tv (pbin (.int .i64) .add x3 (I 1)) fun v36 =>
 jmp [0,0,1,1,0,0,1,0,0,1,1,0,1,0,0,1,0,1,1,1,1] (f23_2_S x0 (B true) x2 v36 y4 y5 y6 v35 w8)))))) (
 tv (pbin (.int .i64) .add x3 (I 1)) fun v37 =>
 jmp [0,0,1,1,0,0,1,0,0,1,1,0,1,0,0,1,0,1,1,1,1] (f23_2_S x0 x1 x2 v37 y4 y5 y6 w7 w8))))))) (
 tv (pbin (.int .i64) .add x3 (I 1)) fun v38 =>
 jmp [0,0,1,1,0,0,1,0,0,1,1,0,1,0,0,1,0,1,1,1,1] (f23_2_S x0 x1 x2 v38 y4 y5 y6 w7 w8))))) (
 tv (pbin (.int .i64) .add x3 (I 1)) fun v39 =>
 jmp [0,0,1,1,0,0,1,0,0,1,1,0,1,0,0,1,0,1,1,1,1] (f23_2_S x0 x1 x2 v39 y4 y5 y6 w7 w8))))) (
 tv (pbin (.int .i64) .add x2 (I 1)) fun v40 =>
 jmp [0,0,1,1,0,1,0,0,1,0,1,1,1,1] (f23_1_S x0 x1 v40 y4 y5 y6 w7))
theorem f23_MR (x0 x1:TV):startQ prog 23 [x0,x1]=f23_M x0 x1:=by kernel_rfl
theorem f23_0_J  {x0 x1 y2 y3 y4 w5:TV} {r:TV} (h:Goes prog 23 (f23_0 x0 x1 y2 y3 y4 w5) r):Goes prog 23 (.jmp [0,0,1,0,1,1,1,1] (f23_0_S x0 x1 y2 y3 y4 w5)) r:=Goes.jmp (by kernel_rfl) h
theorem f23_1_J  {x0 x1 x2 y3 y4 y5 w6:TV} {r:TV} (h:Goes prog 23 (f23_1 x0 x1 x2 y3 y4 y5 w6) r):Goes prog 23 (.jmp [0,0,1,1,0,1,0,0,1,0,1,1,1,1] (f23_1_S x0 x1 x2 y3 y4 y5 w6)) r:=Goes.jmp (by kernel_rfl) h
theorem f23_2_J  {x0 x1 x2 x3 y4 y5 y6 w7 w8:TV} {r:TV} (h:Goes prog 23 (f23_2 x0 x1 x2 x3 y4 y5 y6 w7 w8) r):Goes prog 23 (.jmp [0,0,1,1,0,0,1,0,0,1,1,0,1,0,0,1,0,1,1,1,1] (f23_2_S x0 x1 x2 x3 y4 y5 y6 w7 w8)) r:=Goes.jmp (by kernel_rfl) h
def f24_0_S  (x0 y1 y2 y3 y4 y5 y6 y7 y8 y9 y10 y11 w12:TV):ASt:=⟨[AV.one CA.junk,AV.one CA.junk,AV.one (CA.ptr 0 0),AV.one CA.junk,AV.one CA.junk,AV.one (CA.ptr 1 0),AV.one (CA.sref 2 0 [])] ++ List.replicate 29 (AV.one CA.junk) ++ [AV.tv x0] ++ List.replicate 50 (AV.one CA.junk),[some (BC.cells [CA.t y1,CA.t y2,CA.t y3]),some (BC.cells [CA.t y4,CA.t y5,CA.t y6,CA.t y7,CA.t y8,CA.t y9,CA.t y10,CA.t y11]),some (BC.tree [w12])] ++ List.replicate 108 (none),[]⟩
def f24_1_S  (x0 y1 y2 y3 y4 y5 y6 y7 y8 y9 y10 y11 w12:TV):ASt:=⟨[AV.one CA.junk,AV.one CA.junk,AV.one (CA.ptr 0 0),AV.one CA.junk,AV.one CA.junk,AV.one (CA.ptr 1 0),AV.one (CA.sref 2 0 [])] ++ List.replicate 37 (AV.one CA.junk) ++ [AV.tv x0] ++ List.replicate 42 (AV.one CA.junk),[some (BC.cells [CA.t y1,CA.t y2,CA.t y3]),some (BC.cells [CA.t y4,CA.t y5,CA.t y6,CA.t y7,CA.t y8,CA.t y9,CA.t y10,CA.t y11]),some (BC.tree [w12])] ++ List.replicate 108 (none),[]⟩
def f24_2_S  (x0 y1 y2 y3 y4 y5 y6 y7 y8 y9 y10 y11 w12:TV):ASt:=⟨[AV.one CA.junk,AV.one CA.junk,AV.one (CA.ptr 0 0),AV.one CA.junk,AV.one CA.junk,AV.one (CA.ptr 1 0),AV.one (CA.sref 2 0 [])] ++ List.replicate 45 (AV.one CA.junk) ++ [AV.tv x0] ++ List.replicate 34 (AV.one CA.junk),[some (BC.cells [CA.t y1,CA.t y2,CA.t y3]),some (BC.cells [CA.t y4,CA.t y5,CA.t y6,CA.t y7,CA.t y8,CA.t y9,CA.t y10,CA.t y11]),some (BC.tree [w12])] ++ List.replicate 108 (none),[]⟩
def f24_3_S  (x0 y1 y2 y3 w4 w5:TV):ASt:=⟨[AV.one CA.junk,AV.one CA.junk,AV.one (CA.ptr 0 0),AV.one CA.junk,AV.one CA.junk,AV.one CA.junk,AV.one (CA.sref 1 0 []),AV.one (CA.sref 2 0 []),AV.tv x0] ++ List.replicate 78 (AV.one CA.junk),[some (BC.cells [CA.t y1,CA.t y2,CA.t y3]),some (BC.tree [w4]),some (BC.tree [w5])] ++ List.replicate 108 (none),[]⟩
def f24_4_S  (x0 y1 y2 y3 w4 w5:TV):ASt:=⟨[AV.one CA.junk,AV.one CA.junk,AV.one (CA.ptr 0 0),AV.one CA.junk,AV.one CA.junk,AV.one CA.junk,AV.one (CA.sref 1 0 []),AV.one (CA.sref 2 0 []),AV.tv x0] ++ List.replicate 78 (AV.one CA.junk),[some (BC.cells [CA.t y1,CA.t y2,CA.t y3]),some (BC.tree [w4]),some (BC.tree [w5])] ++ List.replicate 108 (none),[]⟩
def f24_M (x0 x1:TV):Prg TV :=
 chk (TV.isAgg x0 3) (
 tv (pbin (.int .i64) .lss x1 (I 0)) fun v0 =>
 Prg.ite (asBool v0) (
 ret (TV.lit nilV)) (
 tv (plen (.slice 44) (cell x0 2)) fun v1 =>
 tv (pbin (.int .i64) .geq x1 v1) fun v2 =>
 Prg.ite (asBool v2) (
 ret (TV.lit nilV)) (
 tvs (pidx 14 (cell x0 2) x1) fun e3 =>
 chk (Nat.ble 14 (List.length e3)) (
 tv (pbin (.int .i64) .eql (nth hole e3 6) (I 2)) fun v4 =>
 Prg.ite (asBool v4) (
 chk true (
 jmp [1,0,1,1,1,1] (f24_0_S (B true) (cell x0 0) (cell x0 1) (cell x0 2) (nth hole e3 6) (nth hole e3 7) (nth hole e3 8) (nth hole e3 9) (nth hole e3 10) (nth hole e3 11) (nth hole e3 12) (nth hole e3 13) (TV.lit nilV)))) (
 tv (pbin (.int .i64) .eql (nth hole e3 6) (I 3)) fun v5 =>
 Prg.ite (asBool v5) (
 chk true (
 jmp [1,0,1,1,1,1] (f24_0_S (B true) (cell x0 0) (cell x0 1) (cell x0 2) (nth hole e3 6) (nth hole e3 7) (nth hole e3 8) (nth hole e3 9) (nth hole e3 10) (nth hole e3 11) (nth hole e3 12) (nth hole e3 13) (TV.lit nilV)))) (
 tv (pbin (.int .i64) .eql (nth hole e3 6) (I 4)) fun v6 =>
 chk true (
 jmp [1,0,1,1,1,1] (f24_0_S v6 (cell x0 0) (cell x0 1) (cell x0 2) (nth hole e3 6) (nth hole e3 7) (nth hole e3 8) (nth hole e3 9) (nth hole e3 10) (nth hole e3 11) (nth hole e3 12) (nth hole e3 13) (TV.lit nilV)))))))))
def f24_0  (x0 y1 y2 y3 y4 y5 y6 y7 y8 y9 y10 y11 w12:TV):Prg TV :=
 Prg.ite (asBool x0) (
 rws (pelems 1 (TV.sl true 1 (chunks 1 1 [y9]))) fun r7 =>
 tv (papp 1 w12 (lfLL r7)) fun v8 =>
 tv (pbin (.int .i64) .eql y4 (I 3)) fun v9 =>
 jmp [1,0,1,1,1,1,1] (f24_1_S v9 y1 y2 y3 y4 y5 y6 y7 y8 y9 y10 y11 v8)) (
 tv (pbin (.int .i64) .eql y4 (I 3)) fun v10 =>
 jmp [1,0,1,1,1,1,1] (f24_1_S v10 y1 y2 y3 y4 y5 y6 y7 y8 y9 y10 y11 w12))
def f24_1  (x0 y1 y2 y3 y4 y5 y6 y7 y8 y9 y10 y11 w12:TV):Prg TV :=
 Prg.ite (asBool x0) (
 rws (pelems 1 (TV.sl true 1 (chunks 1 1 [y10]))) fun r11 =>
 tv (papp 1 w12 (lfLL r11)) fun v12 =>
 tv (pbin (.int .i64) .eql y4 (I 4)) fun v13 =>
 jmp [1,0,1,1,1,1,1,1] (f24_2_S v13 y1 y2 y3 y4 y5 y6 y7 y8 y9 y10 y11 v12)) (
 tv (pbin (.int .i64) .eql y4 (I 4)) fun v14 =>
 jmp [1,0,1,1,1,1,1,1] (f24_2_S v14 y1 y2 y3 y4 y5 y6 y7 y8 y9 y10 y11 w12))
def f24_2  (x0 y1 y2 y3 y4 y5 y6 y7 y8 y9 y10 y11 w12:TV):Prg TV :=
 Prg.ite (asBool x0) (
 rws (pelems 1 (TV.sl true 1 (chunks 1 1 [y11]))) fun r15 =>
 tv (papp 1 w12 (lfLL r15)) fun v16 =>
 chk true (
 jmp [1,0,1,1,1,1,1,1,1,1] (f24_3_S (I 0) y1 y2 y3 v16 (TV.lit nilV)))) (
 chk true (
 jmp [1,0,1,1,1,1,1,1,1,1] (f24_3_S (I 0) y1 y2 y3 w12 (TV.lit nilV))))
def f24_3  (x0 y1 y2 y3 w4 w5:TV):Prg TV :=
 jmp [0,0,1,0,1,1,1,1,1,1,1,1] (f24_4_S x0 y1 y2 y3 w4 w5)
def f24_4  (x0 y1 y2 y3 w4 w5:TV):Prg TV :=
 tv (plen (.slice 3) w4) fun v17 =>
 tv (pbin (.int .i64) .lss x0 v17) fun v18 =>
 Prg.ite (asBool v18) (
 nat (slLen w4) fun n19 =>
 nat (asNat x0) fun n20 =>
 chk (Bool.and (slSize w4 1) (Nat.blt n20 n19)) (
 tvs (pel w4 n20) fun e21 =>
 chk (fitsAt zInt e21 0) (
 tv (pbin (.int .i64) .geq (nth hole e21 0) (I 0)) fun v22 =>
 Prg.ite (asBool v22) (
 nat (slLen w4) fun n23 =>
 nat (asNat x0) fun n24 =>
 chk (Bool.and (slSize w4 1) (Nat.blt n24 n23)) (
 tvs (pel w4 n24) fun e25 =>
 chk (fitsAt zInt e25 0) (
 tv (plen (.slice 44) y3) fun v26 =>
 tv (pbin (.int .i64) .lss (nth hole e25 0) v26) fun v27 =>
 Prg.ite (asBool v27) (
 nat (slLen w4) fun n28 =>
 nat (asNat x0) fun n29 =>
 chk (Bool.and (slSize w4 1) (Nat.blt n29 n28)) (
 tvs (pel w4 n29) fun e30 =>
 chk (fitsAt zInt e30 0) (
 rws (pelems 1 (TV.sl true 1 (chunks 1 1 [nth hole e30 0]))) fun r31 =>
 tv (papp 1 w5 (lfLL r31)) fun v32 =>
 tv (pbin (.int .i64) .add x0 (I 1)) fun v33 =>
 jmp [0,0,1,0,1,1,1,1,1,1,1,1] (f24_4_S v33 y1 y2 y3 w4 v32)))) (
 tv (pbin (.int .i64) .add x0 (I 1)) fun v34 =>
 jmp [0,0,1,0,1,1,1,1,1,1,1,1] (f24_4_S v34 y1 y2 y3 w4 w5))))) (
 tv (pbin (.int .i64) .add x0 (I 1)) fun v35 =>
 jmp [0,0,1,0,1,1,1,1,1,1,1,1] (f24_4_S v35 y1 y2 y3 w4 w5))))) (
 ret w5)
theorem f24_MR (x0 x1:TV):startQ prog 24 [x0,x1]=f24_M x0 x1:=by kernel_rfl
theorem f24_0_J  {x0 y1 y2 y3 y4 y5 y6 y7 y8 y9 y10 y11 w12:TV} {r:TV} (h:Goes prog 24 (f24_0 x0 y1 y2 y3 y4 y5 y6 y7 y8 y9 y10 y11 w12) r):Goes prog 24 (.jmp [1,0,1,1,1,1] (f24_0_S x0 y1 y2 y3 y4 y5 y6 y7 y8 y9 y10 y11 w12)) r:=Goes.jmp (by kernel_rfl) h
theorem f24_1_J  {x0 y1 y2 y3 y4 y5 y6 y7 y8 y9 y10 y11 w12:TV} {r:TV} (h:Goes prog 24 (f24_1 x0 y1 y2 y3 y4 y5 y6 y7 y8 y9 y10 y11 w12) r):Goes prog 24 (.jmp [1,0,1,1,1,1,1] (f24_1_S x0 y1 y2 y3 y4 y5 y6 y7 y8 y9 y10 y11 w12)) r:=Goes.jmp (by kernel_rfl) h
theorem f24_2_J  {x0 y1 y2 y3 y4 y5 y6 y7 y8 y9 y10 y11 w12:TV} {r:TV} (h:Goes prog 24 (f24_2 x0 y1 y2 y3 y4 y5 y6 y7 y8 y9 y10 y11 w12) r):Goes prog 24 (.jmp [1,0,1,1,1,1,1,1] (f24_2_S x0 y1 y2 y3 y4 y5 y6 y7 y8 y9 y10 y11 w12)) r:=Goes.jmp (by kernel_rfl) h
theorem f24_3_J  {x0 y1 y2 y3 w4 w5:TV} {r:TV} (h:Goes prog 24 (f24_3 x0 y1 y2 y3 w4 w5) r):Goes prog 24 (.jmp [1,0,1,1,1,1,1,1,1,1] (f24_3_S x0 y1 y2 y3 w4 w5)) r:=Goes.jmp (by kernel_rfl) h
theorem f24_4_J  {x0 y1 y2 y3 w4 w5:TV} {r:TV} (h:Goes prog 24 (f24_4 x0 y1 y2 y3 w4 w5) r):Goes prog 24 (.jmp [0,0,1,0,1,1,1,1,1,1,1,1] (f24_4_S x0 y1 y2 y3 w4 w5)) r:=Goes.jmp (by kernel_rfl) h
end Go.Ab.V8
end

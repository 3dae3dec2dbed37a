import Derived.Test.YtljcpjlpggnolaaMC11T
import Derived.OpenShut
import Derived.Test.YtljcpjlpggnolaaMM0
import Derived.Below
import Derived.Orders
import Derived.Laws.Cells
import Derived.Laws.OwnMore
import Derived.Laws.CopyOwn
import Derived.Maps.AppendAt
import Derived.Lib.FrozenHead
section
set_option linter.unusedVariables false
set_option maxRecDepth 100000
namespace Go.Ab.C11
open Go Go.Ab Go.Proofs
open Go.Ab.TV (hole cell comp isSl isSc isTup cellsL tup agg)
open Go.Ab.Prg (tv tvs rws nat chk call jmp ret)
def f5_0_S  (x0 x1 x2 x3 y4 w5:TV):ASt:=⟨[AV.one CA.junk,AV.one CA.junk,AV.one CA.junk,AV.one (CA.ptr 0 0),AV.one CA.junk,AV.one CA.junk,AV.one CA.junk,AV.tv x0,AV.tv x1,AV.tv x2,AV.one (CA.ptr 1 0),AV.tv x3] ++ List.replicate 105 (AV.one CA.junk),[some (BC.cells [CA.t y4]),some (BC.cells [CA.sref 2 0 []]),some (BC.tree [w5])] ++ List.replicate 138 (none),[]⟩
def f5_1_S  (x0 x1 x2 x3 x4 y5 w6:TV):ASt:=⟨[AV.one CA.junk,AV.one CA.junk,AV.one CA.junk,AV.one (CA.ptr 0 0),AV.one CA.junk,AV.one CA.junk,AV.one CA.junk,AV.tv x0,AV.tv x1,AV.tv x2,AV.one (CA.ptr 1 0),AV.tv x3,AV.tv x4] ++ List.replicate 104 (AV.one CA.junk),[some (BC.cells [CA.t y5]),some (BC.cells [CA.sref 2 0 []]),some (BC.tree [w6])] ++ List.replicate 138 (none),[]⟩
def f5_2_S  (x0 x1 x2 x3 x4 x5 y6 w7:TV):ASt:=⟨[AV.one CA.junk,AV.one CA.junk,AV.one CA.junk,AV.one (CA.ptr 0 0),AV.one CA.junk,AV.one CA.junk,AV.one CA.junk,AV.tv x0,AV.tv x1,AV.tv x2,AV.one (CA.ptr 1 0),AV.tv x3,AV.tv x4,AV.one CA.junk,AV.tv x5] ++ List.replicate 102 (AV.one CA.junk),[some (BC.cells [CA.t y6]),some (BC.cells [CA.sref 2 0 []]),some (BC.tree [w7])] ++ List.replicate 138 (none),[]⟩
def f5_M (x0 x1 x2:TV):Prg TV :=
 chk (TV.isAgg x0 1) (
 call 6 [] fun v0 =>
 chk (fitsAt zBool [v0] 0) (
 tv (pun .not v0) fun v1 =>
 Prg.ite (asBool v1) (
 ret (B false)) (
 call 7 [agg [cell x0 0]] fun v2 =>
 chk (fitsAt zBool [v2] 0) (
 tv (pun .not v2) fun v3 =>
 Prg.ite (asBool v3) (
 ret (B true)) (
 tv (plen (.slice 38) (cell x0 0)) fun v4 =>
 tv (pbin (.int .i64) .eql v4 (I 0)) fun v5 =>
 Prg.ite (asBool v5) (
 ret (B true)) (
 tv (plen (.slice 38) (cell x0 0)) fun v6 =>
 tv (pconv (.int .i64) x1) fun v7 =>
 tv (pbin (.int .i64) .rem v7 v6) fun v8 =>
 tv (pconv (.int .i64) x2) fun v9 =>
 tv (pbin (.int .i64) .rem v9 v6) fun v10 =>
 rws (pelems 3 (cell x0 0)) fun r11 =>
 tv (papp 3 (TV.sl true 3 (chunks 3 0 [])) r11) fun v12 =>
 nat (slLen v12) fun n13 =>
 nat (asNat v8) fun n14 =>
 chk (Bool.and (slSize v12 3) (Nat.blt n14 n13)) (
 tvs (pel v12 n14) fun e15 =>
 chk (fitsAt zSl e15 2) (
 tv (getP [(n14,2)] v12) fun v16 =>
 chk (TV.isFr v16) (
 rws (pelems 14 v16) fun r17 =>
 tv (papp 14 (TV.sl true 14 (chunks 14 0 [])) r17) fun v18 =>
 rws (pelems 14 (TV.sl false 14 (chunks 14 1 [B false,I 0,TV.lit nilV,B false,B false,TV.sl false 7 (chunks 7 1 [I 11,I 0,I 0,I 0,W 0,v10,TV.lit nilV]),I 0,I 0,I 0,I 0,TV.lit nilV,I 0,I 0,I 0]))) fun r19 =>
 tv (papp 14 v18 r19) fun v20 =>
 nat (slLen v12) fun n21 =>
 nat (asNat v8) fun n22 =>
 chk (Bool.and (slSize v12 3) (Nat.blt n22 n21)) (
 tvs (pel v12 n22) fun e23 =>
 chk (Bool.and (fitsOld zSl e23 2) (fitsAt zSl [v20] 0)) (
 tv (setC [] v12 n22 2 [v20]) fun v24 =>
 call 11 [agg [frz v24],v8,v10] fun v25 =>
 chk (fitsAt zBool [v25] 0) (
 tv (pun .not v25) fun v26 =>
 Prg.ite (asBool v26) (
 ret (B false)) (
 call 9 [agg [frz v24],v8] fun v27 =>
 chk (fitsAt zSl [v27] 0) (
 call 12 [frz v27,v10] fun v28 =>
 chk (fitsAt zBool [v28] 0) (
 tv (pun .not v28) fun v29 =>
 Prg.ite (asBool v29) (
 ret (B false)) (
 jmp [0,0,1,0,1,1,1,1,1,1,1,1] (f5_0_S v6 v8 v10 (I 0) (cell x0 0) v24)))))))))))))))))
def f5_0  (x0 x1 x2 x3 y4 w5:TV):Prg TV :=
 tv (pbin (.int .i64) .lss x3 x0) fun v30 =>
 Prg.ite (asBool v30) (
 jmp [0,0,1,0,0,1,0,0,1,0,1,1,1,1,1,1,1,1] (f5_1_S x0 x1 x2 x3 (I 0) y4 w5)) (
 ret (B true))
def f5_1  (x0 x1 x2 x3 x4 y5 w6:TV):Prg TV :=
 tv (pbin (.int .i64) .lss x4 x0) fun v31 =>
 Prg.ite (asBool v31) (
 call 11 [agg [y5],x3,x4] fun v32 =>
 chk (fitsAt zBool [v32] 0) (
 Prg.ite (asBool v32) (
 jmp [1,1,0,0,1,0,0,1,0,0,1,0,0,1,0,1,1,1,1,1,1,1,1] (f5_2_S x0 x1 x2 x3 x4 (B true) y5 w6)) (
 tv (pbin (.int .i64) .eql x3 x1) fun v33 =>
 Prg.ite (asBool v33) (
 tv (pbin (.int .i64) .eql x4 x2) fun v34 =>
 Prg.ite (asBool v34) (
 jmp [1,1,0,0,1,0,0,1,0,0,1,0,0,1,0,1,1,1,1,1,1,1,1] (f5_2_S x0 x1 x2 x3 x4 (B true) y5 w6)) (
 call 11 [agg [y5],x2,x4] fun v35 =>
 chk (fitsAt zBool [v35] 0) (
 jmp [1,1,0,0,1,0,0,1,0,0,1,0,0,1,0,1,1,1,1,1,1,1,1] (f5_2_S x0 x1 x2 x3 x4 v35 y5 w6)))) (
 call 11 [agg [y5],x3,x1] fun v36 =>
 chk (fitsAt zBool [v36] 0) (
 Prg.ite (asBool v36) (
 tv (pbin (.int .i64) .eql x4 x2) fun v37 =>
 Prg.ite (asBool v37) (
 jmp [1,1,0,0,1,0,0,1,0,0,1,0,0,1,0,1,1,1,1,1,1,1,1] (f5_2_S x0 x1 x2 x3 x4 (B true) y5 w6)) (
 call 11 [agg [y5],x2,x4] fun v38 =>
 chk (fitsAt zBool [v38] 0) (
 jmp [1,1,0,0,1,0,0,1,0,0,1,0,0,1,0,1,1,1,1,1,1,1,1] (f5_2_S x0 x1 x2 x3 x4 v38 y5 w6)))) (
 jmp [1,1,0,0,1,0,0,1,0,0,1,0,0,1,0,1,1,1,1,1,1,1,1] (f5_2_S x0 x1 x2 x3 x4 (B false) y5 w6))))))) (
 tv (pbin (.int .i64) .add x3 (I 1)) fun v39 =>
 jmp [0,0,1,0,1,1,1,1,1,1,1,1] (f5_0_S x0 x1 x2 v39 y5 w6))
def f5_2  (x0 x1 x2 x3 x4 x5 y6 w7:TV):Prg TV :=
 call 11 [agg [frz w7],x3,x4] fun v40 =>
 chk (fitsAt zBool [v40] 0) (
 tv (pbin Kd.bool .neq v40 x5) fun v41 =>
 Prg.ite (asBool v41) (
 ret (B false)) (
 tv (pbin (.int .i64) .add x4 (I 1)) fun v42 =>
 jmp [0,0,1,0,0,1,0,0,1,0,1,1,1,1,1,1,1,1] (f5_1_S x0 x1 x2 x3 v42 y6 w7)))
theorem f5_MR (x0 x1 x2:TV):startQ prog 5 [x0,x1,x2]=f5_M x0 x1 x2:=by kernel_rfl
theorem f5_0_J  {x0 x1 x2 x3 y4 w5:TV} {r:TV} (h:Goes prog 5 (f5_0 x0 x1 x2 x3 y4 w5) r):Goes prog 5 (.jmp [0,0,1,0,1,1,1,1,1,1,1,1] (f5_0_S x0 x1 x2 x3 y4 w5)) r:=Goes.jmp (by kernel_rfl) h
theorem f5_1_J  {x0 x1 x2 x3 x4 y5 w6:TV} {r:TV} (h:Goes prog 5 (f5_1 x0 x1 x2 x3 x4 y5 w6) r):Goes prog 5 (.jmp [0,0,1,0,0,1,0,0,1,0,1,1,1,1,1,1,1,1] (f5_1_S x0 x1 x2 x3 x4 y5 w6)) r:=Goes.jmp (by kernel_rfl) h
theorem f5_2_J  {x0 x1 x2 x3 x4 x5 y6 w7:TV} {r:TV} (h:Goes prog 5 (f5_2 x0 x1 x2 x3 x4 x5 y6 w7) r):Goes prog 5 (.jmp [1,1,0,0,1,0,0,1,0,0,1,0,0,1,0,1,1,1,1,1,1,1,1] (f5_2_S x0 x1 x2 x3 x4 x5 y6 w7)) r:=Goes.jmp (by kernel_rfl) h
def f7_0_S  (x0 x1 y2:TV):ASt:=⟨[AV.one CA.junk,AV.one (CA.ptr 0 0),AV.one CA.junk,AV.tv x0,AV.tv x1] ++ List.replicate 82 (AV.one CA.junk),[some (BC.cells [CA.t y2])] ++ List.replicate 110 (none),[]⟩
def f7_1_S  (x0 x1 x2 y3:TV):ASt:=⟨[AV.one CA.junk,AV.one (CA.ptr 0 0),AV.one CA.junk,AV.tv x0,AV.tv x1,AV.tv x2] ++ List.replicate 81 (AV.one CA.junk),[some (BC.cells [CA.t y3])] ++ List.replicate 110 (none),[]⟩
def f7_2_S  (x0 x1 x2 x3 y4 y5 y6 y7 y8 y9 y10 y11 y12 y13 y14 y15 y16 y17 y18:TV):ASt:=⟨[AV.one CA.junk,AV.one (CA.ptr 0 0),AV.one CA.junk,AV.tv x0,AV.tv x1,AV.tv x2,AV.one (CA.ptr 1 0),AV.tv x3] ++ List.replicate 79 (AV.one CA.junk),[some (BC.cells [CA.t y4]),some (BC.cells [CA.t y5,CA.t y6,CA.t y7,CA.t y8,CA.t y9,CA.t y10,CA.t y11,CA.t y12,CA.t y13,CA.t y14,CA.t y15,CA.t y16,CA.t y17,CA.t y18])] ++ List.replicate 109 (none),[]⟩
def f7_M (x0:TV):Prg TV :=
 chk (TV.isAgg x0 1) (
 tv (plen (.slice 38) (cell x0 0)) fun v0 =>
 tv (pbin (.int .i64) .gtr v0 (I 20)) fun v1 =>
 Prg.ite (asBool v1) (
 ret (B false)) (
 jmp [0,0,1,0,1,1,1] (f7_0_S (I 0) (I 0) (cell x0 0))))
def f7_0  (x0 x1 y2:TV):Prg TV :=
 tv (plen (.slice 38) y2) fun v2 =>
 tv (pbin (.int .i64) .lss x1 v2) fun v3 =>
 Prg.ite (asBool v3) (
 tvs (pidx 3 y2 x1) fun e4 =>
 chk (Nat.blt 2 (List.length e4)) (
 tv (plen (.slice 49) (nth hole e4 2)) fun v5 =>
 tv (pbin (.int .i64) .gtr v5 (I 70)) fun v6 =>
 Prg.ite (asBool v6) (
 ret (B false)) (
 jmp [0,0,1,1,0,0,1,0,0,1,0,1,1,1] (f7_1_S x0 x1 (I 0) y2)))) (
 tv (pbin (.int .i64) .leq x0 (I 2000)) fun v7 =>
 ret v7)
def f7_1  (x0 x1 x2 y3:TV):Prg TV :=
 tvs (pidx 3 y3 x1) fun e8 =>
 chk (Nat.blt 2 (List.length e8)) (
 tv (plen (.slice 49) (nth hole e8 2)) fun v9 =>
 tv (pbin (.int .i64) .lss x2 v9) fun v10 =>
 Prg.ite (asBool v10) (
 tvs (pidx 3 y3 x1) fun e11 =>
 chk (Nat.blt 2 (List.length e11)) (
 tvs (pidx 14 (nth hole e11 2) x2) fun e12 =>
 chk (Nat.ble 14 (List.length e12)) (
 tv (plen (.slice 41) (nth hole e12 5)) fun v13 =>
 tv (pbin (.int .i64) .gtr v13 (I 70)) fun v14 =>
 Prg.ite (asBool v14) (
 ret (B false)) (
 tv (plen (.slice 39) (nth hole e12 2)) fun v15 =>
 tv (pbin (.int .i64) .gtr v15 (I 20)) fun v16 =>
 Prg.ite (asBool v16) (
 ret (B false)) (
 tv (plen (.slice 3) (nth hole e12 10)) fun v17 =>
 tv (pbin (.int .i64) .gtr v17 (I 20)) fun v18 =>
 Prg.ite (asBool v18) (
 ret (B false)) (
 tv (plen (.slice 41) (nth hole e12 5)) fun v19 =>
 tv (pbin (.int .i64) .add x0 v19) fun v20 =>
 jmp [0,0,1,1,1,1,0,0,1,0,0,1,1,0,0,1,0,0,1,0,1,1,1] (f7_2_S v20 x1 x2 (I 0) y3 (nth hole e12 0) (nth hole e12 1) (nth hole e12 2) (nth hole e12 3) (nth hole e12 4) (nth hole e12 5) (nth hole e12 6) (nth hole e12 7) (nth hole e12 8) (nth hole e12 9) (nth hole e12 10) (nth hole e12 11) (nth hole e12 12) (nth hole e12 13)))))))) (
 tv (pbin (.int .i64) .add x1 (I 1)) fun v21 =>
 jmp [0,0,1,0,1,1,1] (f7_0_S x0 v21 y3)))
def f7_2  (x0 x1 x2 x3 y4 y5 y6 y7 y8 y9 y10 y11 y12 y13 y14 y15 y16 y17 y18:TV):Prg TV :=
 tv (plen (.slice 41) y10) fun v22 =>
 tv (pbin (.int .i64) .lss x3 v22) fun v23 =>
 Prg.ite (asBool v23) (
 tvs (pidx 7 y10 x3) fun e24 =>
 chk (Nat.blt 6 (List.length e24)) (
 tv (plen (.slice 3) (nth hole e24 6)) fun v25 =>
 tv (pbin (.int .i64) .gtr v25 (I 20)) fun v26 =>
 Prg.ite (asBool v26) (
 ret (B false)) (
 tv (pbin (.int .i64) .add x3 (I 1)) fun v27 =>
 jmp [0,0,1,1,1,1,0,0,1,0,0,1,1,0,0,1,0,0,1,0,1,1,1] (f7_2_S x0 x1 x2 v27 y4 y5 y6 y7 y8 y9 y10 y11 y12 y13 y14 y15 y16 y17 y18)))) (
 tv (pbin (.int .i64) .add x2 (I 1)) fun v28 =>
 jmp [0,0,1,1,0,0,1,0,0,1,0,1,1,1] (f7_1_S x0 x1 v28 y4))
theorem f7_MR (x0:TV):startQ prog 7 [x0]=f7_M x0:=by kernel_rfl
theorem f7_0_J  {x0 x1 y2:TV} {r:TV} (h:Goes prog 7 (f7_0 x0 x1 y2) r):Goes prog 7 (.jmp [0,0,1,0,1,1,1] (f7_0_S x0 x1 y2)) r:=Goes.jmp (by kernel_rfl) h
theorem f7_1_J  {x0 x1 x2 y3:TV} {r:TV} (h:Goes prog 7 (f7_1 x0 x1 x2 y3) r):Goes prog 7 (.jmp [0,0,1,1,0,0,1,0,0,1,0,1,1,1] (f7_1_S x0 x1 x2 y3)) r:=Goes.jmp (by kernel_rfl) h
theorem f7_2_J  {x0 x1 x2 x3 y4 y5 y6 y7 y8 y9 y10 y11 y12 y13 y14 y15 y16 y17 y18:TV} {r:TV} (h:Goes prog 7 (f7_2 x0 x1 x2 x3 y4 y5 y6 y7 y8 y9 y10 y11 y12 y13 y14 y15 y16 y17 y18) r):Goes prog 7 (.jmp [0,0,1,1,1,1,0,0,1,0,0,1,1,0,0,1,0,0,1,0,1,1,1] (f7_2_S x0 x1 x2 x3 y4 y5 y6 y7 y8 y9 y10 y11 y12 y13 y14 y15 y16 y17 y18)) r:=Goes.jmp (by kernel_rfl) h
def f9_0_S  (x0 x1 w2 y3:TV):ASt:=⟨[AV.one (CA.sref 0 0 []),AV.clo 21 [CA.ptr 1 0]] ++ List.replicate 5 (AV.one CA.junk) ++ [AV.tv x0,AV.tv x1] ++ List.replicate 10 (AV.one CA.junk),[some (BC.tree [w2]),some (BC.cells [CA.t y3])] ++ List.replicate 105 (none),(List.replicate 22 (AV.one CA.junk) ++ [AV.one (CA.sref 0 0 []),AV.clo 21 [CA.ptr 1 0]] ++ List.replicate 40 (AV.one CA.junk))⟩
def f9_1_S  (x0 w1:TV):ASt:=⟨[AV.one (CA.sref 0 0 []),AV.one CA.junk,AV.one CA.junk,AV.tv x0] ++ List.replicate 57 (AV.one CA.junk),[some (BC.tree [w1])] ++ List.replicate 106 (none),List.replicate 22 (AV.one CA.junk)⟩
def f9_2_S  (x0 x1 w2 y3:TV):ASt:=⟨[AV.one (CA.sref 0 0 []),AV.clo 21 [CA.ptr 1 0],AV.one CA.junk,AV.one CA.junk,AV.one CA.junk,AV.tv x0,AV.tv x1] ++ List.replicate 35 (AV.one CA.junk),[some (BC.tree [w2]),some (BC.cells [CA.t y3])] ++ List.replicate 86 (none),List.replicate 22 (AV.one CA.junk)⟩
def f9_3_S  (x0:TV) (lo1 len2:Nat) (x3 w4:TV):ASt:=⟨[AV.one (CA.sref 0 0 []),AV.one CA.junk,AV.one CA.junk,AV.tv x0,AV.one (CA.swin 0 0 [] lo1 len2),AV.tv x3] ++ List.replicate 55 (AV.one CA.junk),[some (BC.tree [w4])] ++ List.replicate 106 (none),List.replicate 22 (AV.one CA.junk)⟩
def f9_4_S  (x0 w1:TV):ASt:=⟨[AV.one (CA.sref 0 0 [])] ++ List.replicate 4 (AV.one CA.junk) ++ [AV.tv x0] ++ List.replicate 36 (AV.one CA.junk),[some (BC.tree [w1])] ++ List.replicate 87 (none),List.replicate 22 (AV.one CA.junk)⟩
def f9_5_S  (x0 w1:TV):ASt:=⟨[AV.one (CA.sref 0 0 []),AV.one CA.junk,AV.one CA.junk,AV.tv x0] ++ List.replicate 57 (AV.one CA.junk),[some (BC.tree [w1])] ++ List.replicate 106 (none),List.replicate 22 (AV.one CA.junk)⟩
def f9_M (x0 x1:TV):Prg TV :=
 chk (TV.isAgg x0 1) (
 call 18 [agg [cell x0 0],x1] fun v0 =>
 chk (fitsAt zBool [v0] 0) (
 tv (pun .not v0) fun v1 =>
 Prg.ite (asBool v1) (
 chk true (
 ret (TV.lit nilV))) (
 tvs (pidx 3 (cell x0 0) x1) fun e2 =>
 chk (Nat.ble 3 (List.length e2)) (
 call 20 [agg [nth hole e2 0,nth hole e2 1,nth hole e2 2]] fun v3 =>
 chk (fitsAt zSl [v3] 0) (
 tv (plen (.slice 3) v3) fun v4 =>
 jmp [0,0,1,0,1,6,0,1,16,0,1,1] (f9_0_S v4 (I 0) v3 (cell x0 0)))))))
def f9_0  (x0 x1 w2 y3:TV):Prg TV :=
 tv (pbin (.int .i64) .lss x1 x0) fun v5 =>
 Prg.ite (asBool v5) (
 nat (slLen w2) fun n6 =>
 nat (asNat x1) fun n7 =>
 chk (Bool.and (slSize w2 1) (Nat.blt n7 n6)) (
 tvs (pel w2 n7) fun e8 =>
 chk (fitsAt zInt e8 0) (
 call 18 [agg [y3],nth hole e8 0] fun v9 =>
 chk (fitsAt zBool [v9] 0) (
 tv (pun .not v9) fun v10 =>
 Prg.ite (asBool v10) (
 tv (pbin (.int .i64) .eql x1 (TV.lit (Value.int IntKind.i64 (-1)))) fun v11 =>
 Prg.ite (asBool v11) (
 call 22 [w2] fun v12 =>
 tv (pput 0 w2 v12) fun v13 =>
 tv (plen (.slice 3) v13) fun v14 =>
 tv (pbin (.int .i64) .lss v14 (I 2)) fun v15 =>
 Prg.ite (asBool v15) (
 chk (isOwn v13) (
 ret v13)) (
 jmp [0,0,1,0,1,1,4,0,1,1,1,1] (f9_1_S (I 1) v13))) (
 tv (pbin (.int .i64) .add x1 (I 1)) fun v16 =>
 jmp [0,0,1,0,1,1,1,16,0,1,1] (f9_2_S x1 v16 w2 y3))) (
 tv (pbin (.int .i64) .add x1 (I 1)) fun v17 =>
 jmp [0,0,1,0,1,6,0,1,16,0,1,1] (f9_0_S x0 v17 w2 y3)))))) (
 tv (pbin (.int .i64) .eql (TV.lit (Value.int IntKind.i64 (-1))) (TV.lit (Value.int IntKind.i64 (-1)))) fun v18 =>
 Prg.ite (asBool v18) (
 call 22 [w2] fun v19 =>
 tv (pput 0 w2 v19) fun v20 =>
 tv (plen (.slice 3) v20) fun v21 =>
 tv (pbin (.int .i64) .lss v21 (I 2)) fun v22 =>
 Prg.ite (asBool v22) (
 chk (isOwn v20) (
 ret v20)) (
 jmp [0,0,1,0,1,1,4,0,1,1,1,1] (f9_1_S (I 1) v20))) (
 tv (pbin (.int .i64) .add (TV.lit (Value.int IntKind.i64 (-1))) (I 1)) fun v23 =>
 jmp [0,0,1,0,1,1,1,16,0,1,1] (f9_2_S (TV.lit (Value.int IntKind.i64 (-1))) v23 w2 y3)))
def f9_1  (x0 w1:TV):Prg TV :=
 tv (plen (.slice 3) w1) fun v24 =>
 tv (pbin (.int .i64) .lss x0 v24) fun v25 =>
 Prg.ite (asBool v25) (
 nat (slLen w1) fun n26 =>
 nat (asNat x0) fun n27 =>
 chk (Bool.and (slSize w1 1) (Nat.blt n27 n26)) (
 tvs (pel w1 n27) fun e28 =>
 chk (fitsAt zInt e28 0) (
 tv (pbin (.int .i64) .sub x0 (I 1)) fun v29 =>
 nat (slLen w1) fun n30 =>
 nat (asNat v29) fun n31 =>
 chk (Bool.and (slSize w1 1) (Nat.blt n31 n30)) (
 tvs (pel w1 n31) fun e32 =>
 chk (fitsAt zInt e32 0) (
 tv (pbin (.int .i64) .eql (nth hole e28 0) (nth hole e32 0)) fun v33 =>
 Prg.ite (asBool v33) (
 nat (slLen w1) fun n34 =>
 nat (asNat x0) fun n35 =>
 chk (Bool.and (Bool.and (slSize w1 1) (Nat.ble (Option.getD (some n35) 0) (Option.getD none n34))) (Nat.ble (Option.getD none n34) n34)) (
 jmp [0,0,1,0,1,0,1,0,0,1,0,0,1,0,1,1,4,0,1,1,1,1] (f9_3_S x0 (Option.getD (some n35) 0) ((Option.getD none n34) - (Option.getD (some n35) 0)) (I 1) w1))) (
 tv (pbin (.int .i64) .add x0 (I 1)) fun v36 =>
 jmp [0,0,1,0,1,1,4,0,1,1,1,1] (f9_1_S v36 w1))))))) (
 chk (isOwn w1) (
 ret w1))
def f9_2  (x0 x1 w2 y3:TV):Prg TV :=
 tv (plen (.slice 3) w2) fun v37 =>
 tv (pbin (.int .i64) .lss x1 v37) fun v38 =>
 Prg.ite (asBool v38) (
 nat (slLen w2) fun n39 =>
 nat (asNat x1) fun n40 =>
 chk (Bool.and (slSize w2 1) (Nat.blt n40 n39)) (
 tvs (pel w2 n40) fun e41 =>
 chk (fitsAt zInt e41 0) (
 call 18 [agg [y3],nth hole e41 0] fun v42 =>
 chk (fitsAt zBool [v42] 0) (
 tv (pun .not v42) fun v43 =>
 tv (pun .not v43) fun v44 =>
 Prg.ite (asBool v44) (
 nat (slLen w2) fun n45 =>
 nat (asNat x0) fun n46 =>
 chk (Bool.and (slSize w2 1) (Nat.blt n46 n45)) (
 tvs (pel w2 n46) fun e47 =>
 chk (fitsAt zInt e47 0) (
 tv (setC [] w2 n46 0 [nth hole e41 0]) fun v48 =>
 tv (pbin (.int .i64) .add x0 (I 1)) fun v49 =>
 tv (pbin (.int .i64) .add x1 (I 1)) fun v50 =>
 jmp [0,0,1,0,1,1,1,16,0,1,1] (f9_2_S v49 v50 v48 y3)))) (
 tv (pbin (.int .i64) .add x1 (I 1)) fun v51 =>
 jmp [0,0,1,0,1,1,1,16,0,1,1] (f9_2_S x0 v51 w2 y3)))))) (
 jmp [1,1,1,1,16,0,1,1] (f9_4_S x0 w2))
def f9_3  (x0:TV) (lo1 len2:Nat) (x3 w4:TV):Prg TV :=
 tv (winP lo1 len2 w4) fun v52 =>
 tv (plen (.slice 3) v52) fun v53 =>
 tv (pbin (.int .i64) .lss x3 v53) fun v54 =>
 Prg.ite (asBool v54) (
 nat (asNat x3) fun n55 =>
 chk (Bool.and (slSize w4 1) (Nat.blt n55 len2)) (
 tvs (pel w4 (lo1 + n55)) fun e56 =>
 chk (fitsAt zInt e56 0) (
 tv (pbin (.int .i64) .sub x3 (I 1)) fun v57 =>
 nat (asNat v57) fun n58 =>
 chk (Bool.and (slSize w4 1) (Nat.blt n58 len2)) (
 tvs (pel w4 (lo1 + n58)) fun e59 =>
 chk (fitsAt zInt e59 0) (
 tv (pbin (.int .i64) .neq (nth hole e56 0) (nth hole e59 0)) fun v60 =>
 Prg.ite (asBool v60) (
 nat (asNat x3) fun n61 =>
 chk (Bool.and (slSize w4 1) (Nat.blt n61 len2)) (
 tvs (pel w4 (lo1 + n61)) fun e62 =>
 chk (fitsAt zInt e62 0) (
 nat (slLen w4) fun n63 =>
 nat (asNat x0) fun n64 =>
 chk (Bool.and (slSize w4 1) (Nat.blt n64 n63)) (
 tvs (pel w4 n64) fun e65 =>
 chk (fitsAt zInt e65 0) (
 tv (setC [] w4 n64 0 [nth hole e62 0]) fun v66 =>
 tv (pbin (.int .i64) .add x0 (I 1)) fun v67 =>
 tv (pbin (.int .i64) .add x3 (I 1)) fun v68 =>
 jmp [0,0,1,0,1,0,1,0,0,1,0,0,1,0,1,1,4,0,1,1,1,1] (f9_3_S v67 lo1 len2 v68 v66)))))) (
 tv (pbin (.int .i64) .add x3 (I 1)) fun v69 =>
 jmp [0,0,1,0,1,0,1,0,0,1,0,0,1,0,1,1,4,0,1,1,1,1] (f9_3_S x0 lo1 len2 v69 w4))))))) (
 jmp [1,1,0,1,0,0,1,0,0,1,0,1,1,4,0,1,1,1,1] (f9_5_S x0 w4))
def f9_4  (x0 w1:TV):Prg TV :=
 nat (slLen w1) fun n70 =>
 nat (asNat x0) fun n71 =>
 chk (Bool.and (Bool.and (slSize w1 1) (Nat.ble (Option.getD (some n71) 0) (Option.getD none n70))) (Nat.ble (Option.getD none n70) n70)) (
 tv (pclear 1 [I 0] (Option.getD (some n71) 0) ((Option.getD none n70) - (Option.getD (some n71) 0)) w1) fun v72 =>
 nat (slLen v72) fun n73 =>
 nat (asNat x0) fun n74 =>
 chk (Bool.and (Bool.and (slSize v72 1) (Nat.ble 0 (Option.getD (some n74) n73))) (Nat.ble (Option.getD (some n74) n73) n73)) (
 tv (winP 0 ((Option.getD (some n74) n73) - 0) v72) fun v75 =>
 call 22 [v75] fun v76 =>
 tv (pput 0 v72 v76) fun v77 =>
 tv (winP 0 ((Option.getD (some n74) n73) - 0) v77) fun v78 =>
 tv (plen (.slice 3) v78) fun v79 =>
 tv (pbin (.int .i64) .lss v79 (I 2)) fun v80 =>
 Prg.ite (asBool v80) (
 tv (winP 0 ((Option.getD (some n74) n73) - 0) v77) fun v81 =>
 chk (isOwn v81) (
 ret v81)) (
 tv (winP 0 ((Option.getD (some n74) n73) - 0) v77) fun v82 =>
 jmp [0,0,1,0,1,1,4,0,1,1,1,1] (f9_1_S (I 1) v82))))
def f9_5  (x0 w1:TV):Prg TV :=
 nat (slLen w1) fun n83 =>
 nat (asNat x0) fun n84 =>
 chk (Bool.and (Bool.and (slSize w1 1) (Nat.ble (Option.getD (some n84) 0) (Option.getD none n83))) (Nat.ble (Option.getD none n83) n83)) (
 tv (pclear 1 [I 0] (Option.getD (some n84) 0) ((Option.getD none n83) - (Option.getD (some n84) 0)) w1) fun v85 =>
 nat (slLen v85) fun n86 =>
 nat (asNat x0) fun n87 =>
 chk (Bool.and (Bool.and (slSize v85 1) (Nat.ble 0 (Option.getD (some n87) n86))) (Nat.ble (Option.getD (some n87) n86) n86)) (
 tv (winP 0 ((Option.getD (some n87) n86) - 0) v85) fun v88 =>
 chk (isOwn v88) (
 ret v88)))
theorem f9_MR (x0 x1:TV):startQ prog 9 [x0,x1]=f9_M x0 x1:=by kernel_rfl
theorem f9_0_J  {x0 x1 w2 y3:TV} {r:TV} (h:Goes prog 9 (f9_0 x0 x1 w2 y3) r):Goes prog 9 (.jmp [0,0,1,0,1,6,0,1,16,0,1,1] (f9_0_S x0 x1 w2 y3)) r:=Goes.jmp (by kernel_rfl) h
theorem f9_1_J  {x0 w1:TV} {r:TV} (h:Goes prog 9 (f9_1 x0 w1) r):Goes prog 9 (.jmp [0,0,1,0,1,1,4,0,1,1,1,1] (f9_1_S x0 w1)) r:=Goes.jmp (by kernel_rfl) h
theorem f9_2_J  {x0 x1 w2 y3:TV} {r:TV} (h:Goes prog 9 (f9_2 x0 x1 w2 y3) r):Goes prog 9 (.jmp [0,0,1,0,1,1,1,16,0,1,1] (f9_2_S x0 x1 w2 y3)) r:=Goes.jmp (by kernel_rfl) h
theorem f9_3_J  {x0:TV} {lo1 len2:Nat} {x3 w4:TV} {r:TV} (h:Goes prog 9 (f9_3 x0 lo1 len2 x3 w4) r):Goes prog 9 (.jmp [0,0,1,0,1,0,1,0,0,1,0,0,1,0,1,1,4,0,1,1,1,1] (f9_3_S x0 lo1 len2 x3 w4)) r:=Goes.jmp (by kernel_rfl) h
theorem f9_4_J  {x0 w1:TV} {r:TV} (h:Goes prog 9 (f9_4 x0 w1) r):Goes prog 9 (.jmp [1,1,1,1,16,0,1,1] (f9_4_S x0 w1)) r:=Goes.jmp (by kernel_rfl) h
theorem f9_5_J  {x0 w1:TV} {r:TV} (h:Goes prog 9 (f9_5 x0 w1) r):Goes prog 9 (.jmp [1,1,0,1,0,0,1,0,0,1,0,1,1,4,0,1,1,1,1] (f9_5_S x0 w1)) r:=Goes.jmp (by kernel_rfl) h
end Go.Ab.C11
end
section
set_option linter.unusedVariables false
set_option maxRecDepth 100000
namespace Go.Ab.C11
open Go Go.Ab Go.Proofs
open Go.Ab.TV (hole cell comp isSl isSc isTup cellsL tup agg)
open Go.Ab.Prg (tv tvs rws nat chk call jmp ret)
def f11_M (x0 x1 x2:TV):Prg TV :=
 chk (TV.isAgg x0 1) (
 call 18 [agg [cell x0 0],x2] fun v0 =>
 chk (fitsAt zBool [v0] 0) (
 Prg.ite (asBool v0) (
 call 25 [agg [cell x0 0],x1] fun v1 =>
 chk (fitsAt zSl [v1] 0) (
 nat (slLen v1) fun n2 =>
 nat (asNat x2) fun n3 =>
 chk (Bool.and (slSize v1 1) (Nat.blt n3 n2)) (
 tvs (pel v1 n3) fun e4 =>
 chk (fitsAt zBool e4 0) (
 ret (nth hole e4 0))))) (
 ret (B false))))
theorem f11_MR (x0 x1 x2:TV):startQ prog 11 [x0,x1,x2]=f11_M x0 x1 x2:=by kernel_rfl
def f12_0_S  (x0 x1 x2:TV):ASt:=⟨[AV.tv x0,AV.tv x1,AV.one CA.junk,AV.one CA.junk,AV.one CA.junk,AV.tv x2] ++ List.replicate 12 (AV.one CA.junk),List.replicate 42 (none),[]⟩
def f12_M (x0 x1:TV):Prg TV :=
 jmp [0,0,1,0,1] (f12_0_S x0 x1 (I 0))
def f12_0  (x0 x1 x2:TV):Prg TV :=
 tv (plen (.slice 3) x0) fun v0 =>
 tv (pbin (.int .i64) .lss x2 v0) fun v1 =>
 Prg.ite (asBool v1) (
 tvs (pidx 1 x0 x2) fun e2 =>
 chk (Nat.blt 0 (List.length e2)) (
 tv (pbin (.int .i64) .eql (nth hole e2 0) x1) fun v3 =>
 Prg.ite (asBool v3) (
 ret (B true)) (
 tv (pbin (.int .i64) .add x2 (I 1)) fun v4 =>
 jmp [0,0,1,0,1] (f12_0_S x0 x1 v4)))) (
 ret (B false))
theorem f12_MR (x0 x1:TV):startQ prog 12 [x0,x1]=f12_M x0 x1:=by kernel_rfl
theorem f12_0_J  {x0 x1 x2:TV} {r:TV} (h:Goes prog 12 (f12_0 x0 x1 x2) r):Goes prog 12 (.jmp [0,0,1,0,1] (f12_0_S x0 x1 x2)) r:=Goes.jmp (by kernel_rfl) h
def f18_M (x0 x1:TV):Prg TV :=
 chk (TV.isAgg x0 1) (
 tv (pbin (.int .i64) .leq (I 0) x1) fun v0 =>
 Prg.ite (asBool v0) (
 tv (plen (.slice 38) (cell x0 0)) fun v1 =>
 tv (pbin (.int .i64) .lss x1 v1) fun v2 =>
 ret v2) (
 ret (B false)))
theorem f18_MR (x0 x1:TV):startQ prog 18 [x0,x1]=f18_M x0 x1:=by kernel_rfl
def f20_0_S  (x0 x1 x2 w3:TV):ASt:=⟨[AV.one CA.junk,AV.one CA.junk,AV.one CA.junk,AV.one (CA.sref 0 0 [])] ++ List.replicate 5 (AV.one CA.junk) ++ [AV.tv x0,AV.tv x1,AV.tv x2] ++ List.replicate 31 (AV.one CA.junk),[some (BC.tree [w3])] ++ List.replicate 66 (none),[]⟩
def f20_1_S  (x0 x1 x2 x3 x4 x5 w6 y7 y8 y9 y10 y11 y12 y13 y14 y15 y16 y17 y18 y19 y20:TV):ASt:=⟨[AV.one CA.junk,AV.one CA.junk,AV.one CA.junk,AV.one (CA.sref 0 0 []),AV.one CA.junk,AV.one (CA.ptr 1 0),AV.one CA.junk,AV.one CA.junk,AV.one CA.junk,AV.tv x0,AV.tv x1,AV.tv x2] ++ List.replicate 4 (AV.one CA.junk) ++ [AV.tv x3,AV.tv x4,AV.tv x5] ++ List.replicate 24 (AV.one CA.junk),[some (BC.tree [w6]),some (BC.cells [CA.t y7,CA.t y8,CA.t y9,CA.t y10,CA.t y11,CA.t y12,CA.t y13,CA.t y14,CA.t y15,CA.t y16,CA.t y17,CA.t y18,CA.t y19,CA.t y20])] ++ List.replicate 65 (none),[]⟩
def f20_2_S  (x0 x1 x2 w3 y4 y5 y6 y7 y8 y9 y10 y11 y12 y13 y14 y15 y16 y17:TV):ASt:=⟨[AV.one CA.junk,AV.one CA.junk,AV.one CA.junk,AV.one (CA.sref 0 0 []),AV.one CA.junk,AV.one (CA.ptr 1 0),AV.one CA.junk,AV.one CA.junk,AV.one CA.junk,AV.tv x0,AV.tv x1,AV.tv x2] ++ List.replicate 31 (AV.one CA.junk),[some (BC.tree [w3]),some (BC.cells [CA.t y4,CA.t y5,CA.t y6,CA.t y7,CA.t y8,CA.t y9,CA.t y10,CA.t y11,CA.t y12,CA.t y13,CA.t y14,CA.t y15,CA.t y16,CA.t y17])] ++ List.replicate 65 (none),[]⟩
def f20_M (x0:TV):Prg TV :=
 chk (TV.isAgg x0 3) (
 tv (plen (.slice 49) (cell x0 2)) fun v0 =>
 chk true (
 jmp [0,0,1,0,1,1] (f20_0_S (cell x0 2) v0 (I 0) (TV.lit nilV))))
def f20_0  (x0 x1 x2 w3:TV):Prg TV :=
 tv (pbin (.int .i64) .lss x2 x1) fun v1 =>
 Prg.ite (asBool v1) (
 tvs (pidx 14 x0 x2) fun e2 =>
 chk (Nat.ble 14 (List.length e2)) (
 tv (plen (.slice 41) (nth hole e2 5)) fun v3 =>
 jmp [0,0,1,0,1,0,0,1,1,0,0,1,0,1,1] (f20_1_S x0 x1 x2 (nth hole e2 5) v3 (I 0) w3 (nth hole e2 0) (nth hole e2 1) (nth hole e2 2) (nth hole e2 3) (nth hole e2 4) (nth hole e2 5) (nth hole e2 6) (nth hole e2 7) (nth hole e2 8) (nth hole e2 9) (nth hole e2 10) (nth hole e2 11) (nth hole e2 12) (nth hole e2 13)))) (
 chk (isOwn w3) (
 ret w3))
def f20_1  (x0 x1 x2 x3 x4 x5 w6 y7 y8 y9 y10 y11 y12 y13 y14 y15 y16 y17 y18 y19 y20:TV):Prg TV :=
 tv (pbin (.int .i64) .lss x5 x4) fun v4 =>
 Prg.ite (asBool v4) (
 tvs (pidx 7 x3 x5) fun e5 =>
 chk (Nat.ble 7 (List.length e5)) (
 tv (pbin (.int .i64) .eql (nth hole e5 0) (I 11)) fun v6 =>
 Prg.ite (asBool v6) (
 rws (pelems 1 (TV.sl true 1 (chunks 1 1 [nth hole e5 5]))) fun r7 =>
 tv (papp 1 w6 (lfLL r7)) fun v8 =>
 tv (pbin (.int .i64) .add x5 (I 1)) fun v9 =>
 jmp [0,0,1,0,1,0,0,1,1,0,0,1,0,1,1] (f20_1_S x0 x1 x2 x3 x4 v9 v8 y7 y8 y9 y10 y11 y12 y13 y14 y15 y16 y17 y18 y19 y20)) (
 tv (pbin (.int .i64) .add x5 (I 1)) fun v10 =>
 jmp [0,0,1,0,1,0,0,1,1,0,0,1,0,1,1] (f20_1_S x0 x1 x2 x3 x4 v10 w6 y7 y8 y9 y10 y11 y12 y13 y14 y15 y16 y17 y18 y19 y20)))) (
 jmp [1,1,0,0,1,1,0,0,1,0,1,1] (f20_2_S x0 x1 x2 w6 y7 y8 y9 y10 y11 y12 y13 y14 y15 y16 y17 y18 y19 y20))
def f20_2  (x0 x1 x2 w3 y4 y5 y6 y7 y8 y9 y10 y11 y12 y13 y14 y15 y16 y17:TV):Prg TV :=
 tv (pbin (.int .i64) .eql y10 (I 4)) fun v11 =>
 Prg.ite (asBool v11) (
 rws (pelems 1 (TV.sl true 1 (chunks 1 1 [y13]))) fun r12 =>
 tv (papp 1 w3 (lfLL r12)) fun v13 =>
 tv (pbin (.int .i64) .add x2 (I 1)) fun v14 =>
 jmp [0,0,1,0,1,1] (f20_0_S x0 x1 v14 v13)) (
 tv (pbin (.int .i64) .add x2 (I 1)) fun v15 =>
 jmp [0,0,1,0,1,1] (f20_0_S x0 x1 v15 w3))
theorem f20_MR (x0:TV):startQ prog 20 [x0]=f20_M x0:=by kernel_rfl
theorem f20_0_J  {x0 x1 x2 w3:TV} {r:TV} (h:Goes prog 20 (f20_0 x0 x1 x2 w3) r):Goes prog 20 (.jmp [0,0,1,0,1,1] (f20_0_S x0 x1 x2 w3)) r:=Goes.jmp (by kernel_rfl) h
theorem f20_1_J  {x0 x1 x2 x3 x4 x5 w6 y7 y8 y9 y10 y11 y12 y13 y14 y15 y16 y17 y18 y19 y20:TV} {r:TV} (h:Goes prog 20 (f20_1 x0 x1 x2 x3 x4 x5 w6 y7 y8 y9 y10 y11 y12 y13 y14 y15 y16 y17 y18 y19 y20) r):Goes prog 20 (.jmp [0,0,1,0,1,0,0,1,1,0,0,1,0,1,1] (f20_1_S x0 x1 x2 x3 x4 x5 w6 y7 y8 y9 y10 y11 y12 y13 y14 y15 y16 y17 y18 y19 y20)) r:=Goes.jmp (by kernel_rfl) h
theorem f20_2_J  {x0 x1 x2 w3 y4 y5 y6 y7 y8 y9 y10 y11 y12 y13 y14 y15 y16 y17:TV} {r:TV} (h:Goes prog 20 (f20_2 x0 x1 x2 w3 y4 y5 y6 y7 y8 y9 y10 y11 y12 y13 y14 y15 y16 y17) r):Goes prog 20 (.jmp [1,1,0,0,1,1,0,0,1,0,1,1] (f20_2_S x0 x1 x2 w3 y4 y5 y6 y7 y8 y9 y10 y11 y12 y13 y14 y15 y16 y17)) r:=Goes.jmp (by kernel_rfl) h
def f25_0_S  (y0 w1 w2:TV):ASt:=⟨[AV.one CA.junk,AV.one CA.junk,AV.one (CA.ptr 0 0),AV.one CA.junk,AV.one CA.junk,AV.one (CA.sref 1 0 []),AV.one (CA.sref 2 0 [])] ++ List.replicate 36 (AV.one CA.junk),[some (BC.cells [CA.t y0]),some (BC.tree [w1]),some (BC.tree [w2])] ++ List.replicate 64 (none),[]⟩
def f25_M (x0 x1:TV):Prg TV :=
 chk (TV.isAgg x0 1) (
 tv (plen (.slice 38) (cell x0 0)) fun v0 =>
 nat (asNat v0) fun n1 =>
 nat (asNat v0) fun n2 =>
 chk (Bool.and (Nat.ble n1 n2) (Nat.ble n2 4294967296)) (
 call 9 [agg [cell x0 0],x1] fun v3 =>
 chk (fitsAt zSl [v3] 0) (
 jmp [0,0,0,1,1,1] (f25_0_S (cell x0 0) (TV.sl true 1 (List.replicate n1 [B false])) v3))))
def f25_0  (y0 w1 w2:TV):Prg TV :=
 tv (plen (.slice 3) w2) fun v4 =>
 tv (pbin (.int .i64) .gtr v4 (I 0)) fun v5 =>
 Prg.ite (asBool v5) (
 tv (plen (.slice 3) w2) fun v6 =>
 tv (pbin (.int .i64) .sub v6 (I 1)) fun v7 =>
 nat (slLen w2) fun n8 =>
 nat (asNat v7) fun n9 =>
 chk (Bool.and (slSize w2 1) (Nat.blt n9 n8)) (
 tvs (pel w2 n9) fun e10 =>
 chk (fitsAt zInt e10 0) (
 nat (slLen w2) fun n11 =>
 nat (asNat v7) fun n12 =>
 chk (Bool.and (Bool.and (slSize w2 1) (Nat.ble 0 (Option.getD (some n12) n11))) (Nat.ble (Option.getD (some n12) n11) n11)) (
 nat (slLen w1) fun n13 =>
 nat (asNat (nth hole e10 0)) fun n14 =>
 chk (Bool.and (slSize w1 1) (Nat.blt n14 n13)) (
 tvs (pel w1 n14) fun e15 =>
 chk (fitsAt zBool e15 0) (
 tv (pun .not (nth hole e15 0)) fun v16 =>
 Prg.ite (asBool v16) (
 nat (slLen w1) fun n17 =>
 nat (asNat (nth hole e10 0)) fun n18 =>
 chk (Bool.and (slSize w1 1) (Nat.blt n18 n17)) (
 tvs (pel w1 n18) fun e19 =>
 chk (fitsAt zBool e19 0) (
 tv (setC [] w1 n18 0 [B true]) fun v20 =>
 call 9 [agg [y0],nth hole e10 0] fun v21 =>
 chk (fitsAt zSl [v21] 0) (
 rws (pelems 1 v21) fun r22 =>
 tv (winP 0 ((Option.getD (some n12) n11) - 0) w2) fun v23 =>
 tv (papp 1 v23 (lfLL r22)) fun v24 =>
 jmp [0,0,0,1,1,1] (f25_0_S y0 v20 v24))))) (
 tv (winP 0 ((Option.getD (some n12) n11) - 0) w2) fun v25 =>
 jmp [0,0,0,1,1,1] (f25_0_S y0 w1 v25)))))))) (
 chk (isOwn w1) (
 ret w1))
theorem f25_MR (x0 x1:TV):startQ prog 25 [x0,x1]=f25_M x0 x1:=by kernel_rfl
theorem f25_0_J  {y0 w1 w2:TV} {r:TV} (h:Goes prog 25 (f25_0 y0 w1 w2) r):Goes prog 25 (.jmp [0,0,0,1,1,1] (f25_0_S y0 w1 w2)) r:=Goes.jmp (by kernel_rfl) h
end Go.Ab.C11
end
section
set_option linter.unusedVariables false
set_option maxRecDepth 10000
namespace Go.Ab
theorem asNat_nat {k:Nat} (h:k≤9223372036854775807):asNat (I (k:Int))=some k:=by
 simp [asNat]; omega
end Go.Ab
namespace Go.Ab.C11
open Go Go.Ab Go.Proofs
end Go.Ab.C11
end
section
set_option linter.unusedVariables false
set_option maxRecDepth 10000
namespace Go.Ab
def shortB (b:DBlock):Prop:=b.ins.length≤70∧b.pad.catches.length≤20∧b.fin.args.length≤20∧∀ i,i < b.ins.length→∀ x,b.ins[i]? = some x→x.args.length≤20
def shortF (f:DFunc):Prop:=f.blocks.length≤70∧∀ i,i < f.blocks.length→∀ b,f.blocks[i]? = some b→shortB b
def shortM (m:DMod):Prop:=m.funcs.length≤20∧∀ i,i < m.funcs.length→∀ f,m.funcs[i]? = some f→shortF f
section
variable {α:Type} {s:Nat} {R S:Nat→List TV→α→Prop} {x:TV} {l:List α}
theorem setNth_len {β:Type}:∀ (l:List β) (n:Nat) (b:β),(setNth l n b).length=l.length
 | [],_,_=>rfl
 | _ :: _,0,_=>rfl
 | a :: l,n + 1,b=>by simp [setNth,setNth_len l n b]
end
theorem RL.isFr {α:Type} {s:Nat} {R:List TV→α→Prop} {x:TV} {l:List α} (h:RL (some false) s R x l):x.isFr=true:=by
 rcases h with ⟨rfl,rfl⟩ | ⟨o,xs,rfl,hq,h,hb⟩
 ·rfl
 ·rw [hq false rfl]; rfl
theorem isOwnLL_all:∀ (xs:List (List TV)),(∀ e ∈ xs,isOwnL e=true)→isOwnLL xs=true
 | [],_=>rfl
 | e :: xs,h=>by
  simp only [isOwnLL,Bool.and_eq_true]
  exact ⟨h e List.mem_cons_self,isOwnLL_all xs fun e he=>h e (List.mem_cons_of_mem _ he)⟩
theorem F2.memL {α β:Type} {R:α→β→Prop} {xs:List α} {l:List β} (h:F2 R xs l) {e:α} (he:e ∈ xs):∃ a,a ∈ l∧R e a:=by
 obtain ⟨i,hi,rfl⟩:=List.mem_iff_getElem.1 he
 obtain ⟨a,ha,hr⟩:=h.getL (List.getElem?_eq_getElem hi)
 exact ⟨a,List.mem_of_getElem? ha,hr⟩
theorem RL.own {α:Type} {s:Nat} {R:List TV→α→Prop} {x:TV} {l:List α} (h:RL (some true) s R x l) (hm:∀ e a,R e a→isOwnL e=true):isOwn x=true:=by
 rcases h with ⟨rfl,rfl⟩ | ⟨o,xs,rfl,hq,h,hb⟩
 ·rfl
 ·rw [hq true rfl]
  simp only [isOwn,Bool.true_and]
  refine isOwnLL_all _ fun e he=>?_
  obtain ⟨a,_,hr⟩:=h.memL he
  exact hm _ _ hr
theorem RI1.own {e:List TV} {n:Int} (h:RI1 e n):isOwnL e=true:=by obtain ⟨rfl,_⟩:=h; rfl
end Go.Ab
namespace Go.Ab.C11
open Go Go.Ab Go.Proofs
theorem r7 {q : Option Bool} {e : List TV} {m : DMod} (hm : RMod q e m) : ∃ b, Runs prog 7 [.agg e] (B b) ∧ (b = true → shortM m) := by
 obtain ⟨x,rfl,hx⟩:=hm
 have no:∀ {p:Prg TV},Goes prog 7 p (B false)→∃ b,Goes prog 7 p (B b)∧(b=true→shortM m):=fun h=>⟨false,h,fun h=>nomatch h⟩
 by_cases hlen:m.funcs.length≤20
 ·have outer : ∀ d i (n : Int), i + d = m.funcs.length → 0 ≤ n → n ≤ (i : Int) * 4900 → (∀ j, j < i → ∀ f, m.funcs[j]? = some f → shortF f) → ∃ b, Goes prog 7 (f7_0 (I n) (I i) x) (B b) ∧ (b = true → shortM m) := by
   intro d
   induction d with
   | zero =>
    intro i n hi h0 hn hs
    have hi:i=m.funcs.length:=by omega
    subst hi
    refine ⟨decide (n≤2000),?_,fun _=>⟨hlen,hs⟩⟩
    unfold f7_0
    refine Goes.tv (RL.len (by assumption)) (Goes.tv rfl (Goes.ite asB_end (fun h=>nomatch h) fun _=>?_))
    exact Goes.tv rfl Goes.ret
   | succ d ih =>
    intro i n hi h0 hn hs
    have hk:i < m.funcs.length:=by omega
    have ha:m.funcs[i]? = some m.funcs[i]:=List.getElem?_eq_getElem hk
    obtain ⟨e,he,hr⟩:=hx.idx (k:=.i64) ha
    generalize m.funcs[i]=f at ha hr
    obtain ⟨y,rfl,hy,_⟩:=hr
    by_cases hbl:f.blocks.length≤70
    ·have mid : ∀ d k (n : Int), k + d = f.blocks.length → 0 ≤ n → n ≤ (i : Int) * 4900 + k * 70 → (∀ j, j < k → ∀ b, f.blocks[j]? = some b → shortB b) → ∃ b, Goes prog 7 (f7_1 (I n) (I i) (I k) x) (B b) ∧ (b = true → shortM m) := by
      intro d
      induction d with
      | zero =>
       intro k n hk' h0 hn hsb
       have hk':k=f.blocks.length:=by omega
       subst hk'
       obtain ⟨b,hb,himp⟩:=ih (i + 1) n (by omega) h0 (by simp; omega) (fun j hj g hg=>by
        by_cases hji:j=i
        ·subst hji; rw [ha] at hg; cases hg; exact ⟨hbl,fun j hj=>hsb j hj⟩
        ·exact hs j (by omega) g hg)
       refine ⟨b,?_,himp⟩
       unfold f7_1
       refine Goes.tvs he (Goes.chk rfl (Goes.tv hy.len (Goes.tv rfl (Goes.ite asB_end (fun h=>nomatch h) fun _=>?_))))
       exact Goes.tv (inc hk hx.bnd) (f7_0_J hb)
      | succ d ihm =>
       intro k n hk' h0 hn hsb
       have hkb:k < f.blocks.length:=by omega
       have hab:f.blocks[k]? = some f.blocks[k]:=List.getElem?_eq_getElem hkb
       obtain ⟨e2,he2,hr2⟩:=hy.idx (k:=.i64) hab
       generalize f.blocks[k]=b at hab hr2
       obtain ⟨c,is,g,rfl,hc,hd,his,hg,ho⟩:=hr2
       have start:∀ r,(¬ (b.ins.length≤70∧b.pad.catches.length≤20∧b.fin.args.length≤20)→r=B false)→(b.ins.length≤70∧b.pad.catches.length≤20∧b.fin.args.length≤20→Goes prog 7 (f7_2 (I (n + b.ins.length)) (I i) (I k) (I (0:Nat)) x (B b.landing) (I b.pad.dst) c (B b.pad.all) (B b.pad.cleanup) is (I b.fin.kind) (I b.fin.a) (I b.fin.dst) (I b.fin.f) g (I b.fin.to) (I b.fin.els) (I b.fin.pad)) r)→Goes prog 7 (f7_1 (I n) (I i) (I k) x) r:=by
        intro r h1 h2
        unfold f7_1
        refine Goes.tvs he (Goes.chk rfl (Goes.tv hy.len (Goes.tv rfl (Goes.ite (asB_lt hkb) (fun _=>?_) fun h=>nomatch h))))
        refine Goes.tvs he (Goes.chk rfl (Goes.tvs he2 (Goes.chk rfl (Goes.tv his.len (Goes.tv rfl (Goes.ite rfl (fun h=>?_) fun g1=>?_))))))
        ·rw [h1 (by simp at h; omega)]; exact Goes.ret
        ·refine Goes.tv hc.len (Goes.tv rfl (Goes.ite rfl (fun h=>?_) fun g2=>?_))
         ·rw [h1 (by simp at h; omega)]; exact Goes.ret
         ·refine Goes.tv hg.len (Goes.tv rfl (Goes.ite rfl (fun h=>?_) fun g3=>?_))
          ·rw [h1 (by simp at h; omega)]; exact Goes.ret
          ·simp at g1 g2 g3
           refine Goes.tv his.len (Goes.tv (padd (by constructor <;> omega)) (f7_2_J (h2 ⟨by omega,by omega,by omega⟩)))
       by_cases hsz:b.ins.length≤70∧b.pad.catches.length≤20∧b.fin.args.length≤20
       ·have inner:∀ d j,j + d=b.ins.length→(∀ t,t < j→∀ x,b.ins[t]? = some x→x.args.length≤20)→∃ r,Goes prog 7 (f7_2 (I (n + b.ins.length)) (I i) (I k) (I j) x (B b.landing) (I b.pad.dst) c (B b.pad.all) (B b.pad.cleanup) is (I b.fin.kind) (I b.fin.a) (I b.fin.dst) (I b.fin.f) g (I b.fin.to) (I b.fin.els) (I b.fin.pad)) (B r)∧(r=true→shortM m):=by
         intro d
         induction d with
         | zero =>
          intro j hj hs2
          have hj:j=b.ins.length:=by omega
          subst hj
          obtain ⟨r,hb,himp⟩:=ihm (k + 1) (n + b.ins.length) (by omega) (by omega) (by simp; omega) (fun j hj g hg=>by
           by_cases hji:j=k
           ·subst hji; rw [hab] at hg; cases hg; exact ⟨hsz.1,hsz.2.1,hsz.2.2,hs2⟩
           ·exact hsb j (by omega) g hg)
          refine ⟨r,?_,himp⟩
          unfold f7_2
          refine Goes.tv (RL.len (by assumption)) (Goes.tv rfl (Goes.ite asB_end (fun h=>nomatch h) fun _=>?_))
          exact Goes.tv (inc hkb hy.bnd) (f7_1_J hb)
         | succ d ihi =>
          intro j hj hs2
          have hjb:j < b.ins.length:=by omega
          have hax:b.ins[j]? = some b.ins[j]:=List.getElem?_eq_getElem hjb
          obtain ⟨e3,he3,hr3⟩:=his.idx (k:=.i64) hax
          generalize b.ins[j]=u at hax hr3
          obtain ⟨v,rfl,hv,_⟩:=hr3
          by_cases hu:u.args.length≤20
          ·obtain ⟨r,hb,himp⟩:=ihi (j + 1) (by omega) (fun t ht z hz=>by
            by_cases htj:t=j
            ·subst htj; rw [hax] at hz; cases hz; exact hu
            ·exact hs2 t (by omega) z hz)
           refine ⟨r,?_,himp⟩
           unfold f7_2
           refine Goes.tv (RL.len (by assumption)) (Goes.tv rfl (Goes.ite (asB_lt hjb) (fun _=>?_) fun h=>nomatch h))
           refine Goes.tvs he3 (Goes.chk rfl (Goes.tv hv.len (Goes.tv rfl (Goes.ite rfl (fun h=>?_) fun _=>?_))))
           ·simp at h; omega
           ·exact Goes.tv (inc hjb his.bnd) (f7_2_J hb)
          ·refine no ?_
           unfold f7_2
           refine Goes.tv (RL.len (by assumption)) (Goes.tv rfl (Goes.ite (asB_lt hjb) (fun _=>?_) fun h=>nomatch h))
           refine Goes.tvs he3 (Goes.chk rfl (Goes.tv hv.len (Goes.tv rfl (Goes.ite rfl (fun h=>Goes.ret) fun h=>?_))))
           simp at h; omega
        obtain ⟨r,hb,himp⟩:=inner b.ins.length 0 (by omega) (fun t ht=>by omega)
        exact ⟨r,start _ (fun h=>absurd hsz h) (fun _=>hb),himp⟩
       ·exact no (start _ (fun _=>rfl) (fun h=>absurd h hsz))
     obtain ⟨b,hb,himp⟩:=mid f.blocks.length 0 n (by omega) h0 (by simp; omega) (fun j hj=>by omega)
     refine ⟨b,?_,himp⟩
     unfold f7_0
     refine Goes.tv (RL.len (by assumption)) (Goes.tv rfl (Goes.ite (asB_lt hk) (fun _=>?_) fun h=>nomatch h))
     refine Goes.tvs he (Goes.chk rfl (Goes.tv hy.len (Goes.tv rfl (Goes.ite rfl (fun h=>?_) fun _=>?_))))
     ·simp at h; omega
     ·exact f7_1_J hb
    ·refine no ?_
     unfold f7_0
     refine Goes.tv (RL.len (by assumption)) (Goes.tv rfl (Goes.ite (asB_lt hk) (fun _=>?_) fun h=>nomatch h))
     refine Goes.tvs he (Goes.chk rfl (Goes.tv hy.len (Goes.tv rfl (Goes.ite rfl (fun h=>Goes.ret) fun h=>?_))))
     simp at h; omega
  obtain ⟨b,hb,himp⟩:=outer m.funcs.length 0 0 (by omega) (by omega) (by simp) (fun j hj=>by omega)
  refine ⟨b,?_,himp⟩
  refine Runs.of (f7_MR _) ?_
  unfold f7_M
  refine Goes.chk rfl (Goes.tv hx.len (Goes.tv rfl (Goes.ite rfl (fun h=>?_) fun _=>f7_0_J hb)))
  simp at h; omega
 ·refine ⟨false,?_,fun h=>nomatch h⟩
  refine Runs.of (f7_MR _) ?_
  unfold f7_M
  refine Goes.chk rfl (Goes.tv hx.len (Goes.tv rfl (Goes.ite rfl (fun _=>Goes.ret) fun h=>?_)))
  simp at h; omega
end Go.Ab.C11
end
section
set_option linter.unusedVariables false
set_option maxRecDepth 10000
namespace Go.Ab
section
variable {α β:Type} {p:Way} {w y:TV} {s:Nat} {R:List TV→α→Prop} {Q:TV→β→Prop} {G:List α→DMod} {l:List α}
theorem RL.at (hy:RL (some true) s R y l) {k:Nat} {e:List TV} (he:Go.Ab.pel y k=some e):∃ xs,y=.sl true s xs∧xs[k]? = some e∧F2 R xs l∧xs.length≤9223372036854775807:=by
 rcases hy with ⟨rfl,rfl⟩ | ⟨o,xs,rfl,hq,h,hb⟩
 ·simp [Go.Ab.pel] at he
 ·have:o=true:=hq true rfl
  subst this
  exact ⟨xs,rfl,he,h,hb⟩
end
end Go.Ab
namespace Go.Ab.C11
open Go Go.Ab Go.Proofs
end Go.Ab.C11
end
section
set_option linter.unusedVariables false
set_option maxRecDepth 10000
namespace Go.Ab
section
variable {α:Type} {s:Nat} {R:List TV→α→Prop} {y:TV} {l:List α}
theorem RL.setAt (hy:RL (some true) s R y l) {i:Nat} {e:List TV} (he:Go.Ab.pel y i=some e) {d:Nat} {ys:List TV} {a:α} (hR:R (setCells e d ys) a):∃ y',setC [] y i d ys=some y'∧RL (some true) s R y' (l.set i a):=by
 obtain ⟨xs,rfl,hk,hf,hb⟩:=hy.at he
 refine ⟨.sl true s (setNth xs i (setCells e d ys)),by simp only [setC,getP,setEl,hk,setP],.sl (by simp) (hf.set hR) (by rw [setNth_len]; exact hb)⟩
theorem RL.app (hy:RL (some true) s R y l) {e:List TV} {a:α} (hR:R e a) (hl:l.length + 1≤4294967296):∃ y',papp s y [e]=some y'∧RL (some true) s R y' (l ++ [a]):=by
 rcases hy with ⟨rfl,rfl⟩ | ⟨o,xs,rfl,hq,h,hb⟩
 ·refine ⟨.sl true s [e],by simp [papp,nilV,room,rowT],.sl (by simp) (.cons hR .nil) (by simp)⟩
 ·have:o=true:=hq true rfl
  subst this
  have hxl:=h.length
  refine ⟨.sl true s (xs ++ [e]),?_,.sl (by simp) (h.append (.cons hR .nil)) (by simp; omega)⟩
  simp [papp,room]; omega
theorem RL.win {q:Option Bool} (hy:RL q s R y l) {k:Nat} (hk:k≤l.length):∃ y',winP 0 k y=some y'∧RL q s R y' (l.take k):=by
 rcases hy with ⟨rfl,rfl⟩ | ⟨o,xs,rfl,hq,h,hb⟩
 ·have:k=0:=by simpa using hk
  subst this
  exact ⟨.lit nilV,rfl,by simpa using RL.nil⟩
 ·have hxl:=h.length
  refine ⟨.sl o s ((xs.drop 0).take k),?_,.sl hq (by simpa using h.take k) (by simp; omega)⟩
  simp [winP]; omega
end
end Go.Ab
namespace Go.Ab.C11
open Go Go.Ab Go.Proofs
end Go.Ab.C11
end
section
set_option linter.unusedVariables false
set_option maxRecDepth 10000
namespace Go.Ab
def thereB (n:Nat) (g:Int):Bool:=decide (0≤g∧g < (n:Int))
theorem filter_takeS {P:Int→Bool} {l:List Int} {j:Nat} {a:Int} (h:l[j]? = some a):(l.take (j + 1)).filter P=(l.take j).filter P ++ (if P a then [a] else []):=by
 rw [List.take_add_one,h,List.filter_append]
 cases hp:P a <;> simp [hp]
section
variable {s:Nat} {α:Type} {R:List TV→α→Prop} {y:TV} {l:List α}
theorem RL.clr (hy:RL (some true) s R y l) {k:Nat} (hk:k≤l.length) (z:List TV):∃ y',pclear s z k (l.length - k) y=some y'∧Go.Ab.slLen y'=some l.length∧Go.Ab.slSize y' s=true∧∃ y'',winP 0 k y'=some y''∧RL (some true) s R y'' (l.take k):=by
 rcases hy with ⟨rfl,rfl⟩ | ⟨o,xs,rfl,hq,h,hb⟩
 ·have:k=0:=by simpa using hk
  subst this
  exact ⟨.lit nilV,rfl,rfl,rfl,.lit nilV,rfl,by simpa using RL.nil⟩
 ·have:o=true:=hq true rfl
  subst this
  have hxl:=h.length
  refine ⟨.sl true s (xs.take k ++ (List.replicate (l.length - k) z ++ xs.drop (k + (l.length - k)))),by simp only [pclear]; rw [if_pos ⟨trivial,by omega⟩],?_,by simp [Go.Ab.slSize],.sl true s (xs.take k),?_,.sl (by simp) (h.take k) (by simp; omega)⟩
  ·simp [Go.Ab.slLen]; omega
  ·simp only [winP]
   rw [if_pos (by simp; omega),List.drop_zero,List.take_append_of_le_length (by simp; omega),List.take_take,Nat.min_self]
end
end Go.Ab
namespace Go.Ab.C11
open Go Go.Ab Go.Proofs
theorem fit_slc {v:TV} (h:v.isSl=true):fitsAt zSl [v] 0=true:=by
 show (v.isSl && true)=true
 rw [h]; rfl
end Go.Ab.C11
end
section
set_option linter.unusedVariables false
set_option maxRecDepth 10000
namespace Go.Ab
theorem take_get {α:Type} {l:List α} {j:Nat} {a:α} (h:l[j]? = some a):l.take (j + 1)=l.take j ++ [a]:=by
 rw [List.take_add_one,h]; rfl
end Go.Ab
namespace Go.Ab.C11
open Go Go.Ab Go.Proofs
section
variable {q:Option Bool} {b:TV} {bs:List DBlock} (hb:RL q 14 (RBlock q) b bs)
include hb
end
theorem r75 {q:Option Bool} {x:TV} {l:List Int} (hx:RInts q x l) (n:Int):Runs prog 12 [x,I n] (B (decide (n ∈ l))):=by
 have hbn:=hx.bnd
 have loop:∀ (d j:Nat),j + d=l.length→n ∉ l.take j→Goes prog 12 (f12_0 x (I n) (I j)) (B (decide (n ∈ l))):=by
  intro d
  induction d with
  | zero =>
   intro j hj hn
   have hj:j=l.length:=by omega
   subst hj
   rw [List.take_length] at hn
   unfold f12_0
   exact Goes.tv hx.len (Goes.tv rfl (Goes.ite asB_end (fun h=>nomatch h) fun _=>goes_ret.2 (by simp [hn])))
  | succ d ih =>
   intro j hj hn
   have hjl:j < l.length:=by omega
   obtain ⟨a,haa⟩:∃ a,a=l[j]:=⟨_,rfl⟩
   have hla:l[j]? = some a:=by rw [haa]; exact List.getElem?_eq_getElem hjl
   obtain ⟨e,he,rfl,hea⟩:=hx.idx (k:=.i64) hla
   unfold f12_0
   refine Goes.tv hx.len (Goes.tv rfl (Goes.ite (asB_lt hjl) (fun _=>Goes.tvs he (Goes.chk rfl (Goes.tv rfl (Goes.ite rfl (fun h=>?_) fun h=>?_)))) fun h=>nomatch h))
   ·have ha:a=n:=by simpa using h
    have:n ∈ l:=by rw [← ha]; exact List.mem_of_getElem? hla
    exact goes_ret.2 (by simp [this])
   ·have ha:¬ a=n:=by simpa using h
    exact Goes.tv (inc hjl hbn) (f12_0_J (ih (j + 1) (by omega) (by rw [take_get hla]; simp [hn]; exact fun h=>ha h.symm)))
 refine Runs.of (f12_MR _ _) ?_
 unfold f12_M
 exact f12_0_J (loop l.length 0 (by omega) (by simp))
end Go.Ab.C11
end
section
set_option linter.unusedVariables false
set_option linter.unusedSimpArgs false
set_option linter.unusedSectionVars false
set_option maxRecDepth 10000
namespace Go.Ab
def callsF (u:DFunc) (k:Nat):Prop:=∃ b ∈ u.blocks,(∃ x ∈ b.ins,x.op=11∧x.f=(k:Int))∨b.fin.kind=4∧b.fin.f=(k:Int)
def ofP (m:DMod) (a k:Nat):Prop:=k < m.funcs.length∧∃ u,m.funcs[a]? = some u∧callsF u k
inductive Co (m:DMod) (a:Nat):Nat→Prop
 | one {b:Nat} (h:ofP m a b):Co m a b
 | more {b c:Nat} (h:Co m a b) (h':ofP m b c):Co m a c
theorem Co.lt {m:DMod} {a b:Nat} (h:Co m a b):a < m.funcs.length∧b < m.funcs.length:=by
 induction h with
 | one h =>
  obtain ⟨h1,u,hu,_⟩:=h
  exact ⟨(List.getElem?_eq_some_iff.1 hu).1,h1⟩
 | more _ h ih=>exact ⟨ih.1,h.1⟩
theorem Co.trans {m:DMod} {a b c:Nat} (h:Co m a b) (h':Co m b c):Co m a c:=by
 induction h' with
 | one h2=>exact .more h h2
 | more _ h2 ih=>exact .more ih h2
theorem Co.less {m c:DMod} {x y:Nat} (h:∀ a k,ofP c a k ↔ ofP m a k∨(a=x∧k=y)) {i k:Nat}:Co c i k ↔ Co m i k∨((i=x∨Co m i x)∧(k=y∨Co m y k)):=by
 constructor
 ·intro hc
  induction hc with
  | one h1 =>
   rcases (h _ _).1 h1 with h2 | ⟨rfl,rfl⟩
   ·exact .inl (.one h2)
   ·exact .inr ⟨.inl rfl,.inl rfl⟩
  | @more b d _ h1 ih =>
   rcases (h _ _).1 h1 with h2 | ⟨rfl,rfl⟩
   ·rcases ih with ih | ⟨g1,g2⟩
    ·exact .inl (.more ih h2)
    ·refine .inr ⟨g1,.inr ?_⟩
     rcases g2 with rfl | g2
     ·exact .one h2
     ·exact .more g2 h2
   ·rcases ih with ih | ⟨g1,_⟩
    ·exact .inr ⟨.inr ih,.inl rfl⟩
    ·exact .inr ⟨g1,.inl rfl⟩
 ·have old:∀ {a b:Nat},Co m a b→Co c a b:=fun hc=>by
   induction hc with
   | one h1=>exact .one ((h _ _).2 (.inl h1))
   | more _ h1 ih=>exact .more ih ((h _ _).2 (.inl h1))
  have xy:Co c x y:=.one ((h _ _).2 (.inr ⟨rfl,rfl⟩))
  rintro (h1 | ⟨h1,h2⟩)
  ·exact old h1
  ·have a:Co c i y:=by
    rcases h1 with rfl | h1
    ·exact xy
    ·exact (old h1).trans xy
   rcases h2 with rfl | h2
   ·exact a
   ·exact a.trans (old h2)
end Go.Ab
end
section
set_option linter.unusedVariables false
set_option linter.unusedSimpArgs false
set_option linter.unusedSectionVars false
set_option maxRecDepth 10000
namespace Go.Ab
def insC (l:List DIns):List Int:=(l.filter fun x=>decide (x.op=11)).map fun x=>x.f
theorem insC_succ {l:List DIns} {j:Nat} {x:DIns} (h:l[j]? = some x):insC (l.take (j + 1))=insC (l.take j) ++ (if x.op=11 then [x.f] else []):=by
 unfold insC
 rw [List.take_add_one,h,List.filter_append,List.map_append]
 by_cases hp:x.op=11 <;> simp [hp]
theorem insC_len (l:List DIns):(insC l).length≤l.length:=by
 unfold insC
 rw [List.length_map]
 exact List.length_filter_le _ _
def blkC (b:DBlock):List Int:=insC b.ins ++ (if b.fin.kind=4 then [b.fin.f] else [])
def namedL (bs:List DBlock):List Int:=(bs.map blkC).flatten
theorem namedL_succ {l:List DBlock} {j:Nat} {b:DBlock} (h:l[j]? = some b):namedL (l.take (j + 1))=namedL (l.take j) ++ blkC b:=by
 unfold namedL
 rw [List.take_add_one,h]
 simp
theorem named_mem {u:DFunc} {k:Nat}:(k:Int) ∈ namedL u.blocks ↔ callsF u k:=by
 constructor
 ·intro h
  obtain ⟨l,hl,hk⟩:=List.mem_flatten.1 h
  obtain ⟨b,hb,rfl⟩:=List.mem_map.1 hl
  rcases List.mem_append.1 hk with h | h
  ·obtain ⟨x,hx,h2⟩:=List.mem_map.1 h
   obtain ⟨hx,h1⟩:=List.mem_filter.1 hx
   exact ⟨b,hb,.inl ⟨x,hx,by simpa using h1,h2⟩⟩
  ·split at h
   ·rename_i h4
    exact ⟨b,hb,.inr ⟨h4,(List.mem_singleton.1 h).symm⟩⟩
   ·cases h
 ·rintro ⟨b,hb,h⟩
  refine List.mem_flatten.2 ⟨blkC b,List.mem_map.2 ⟨b,hb,rfl⟩,List.mem_append.2 ?_⟩
  rcases h with ⟨x,hx,h1,h2⟩ | ⟨h1,h2⟩
  ·exact .inl (List.mem_map.2 ⟨x,List.mem_filter.2 ⟨hx,by simpa using h1⟩,h2⟩)
  ·exact .inr (by rw [if_pos h1,h2]; exact List.mem_singleton.2 rfl)
def smallF (u:DFunc):Prop:=u.blocks.length≤100∧∀ b ∈ u.blocks,b.ins.length≤100
def smallM (m:DMod):Prop:=m.funcs.length≤100∧∀ u ∈ m.funcs,smallF u
theorem blkC_len {b:DBlock} (h:b.ins.length≤100):(blkC b).length≤101:=by
 unfold blkC
 have:=insC_len b.ins
 rw [List.length_append]
 split <;> simp <;> omega
theorem namedL_len:∀ (bs:List DBlock),(∀ b ∈ bs,b.ins.length≤100)→(namedL bs).length≤101 * bs.length
 | [],_=>Nat.le_refl _
 | b :: bs,h=>by
  have h1:=blkC_len (h b List.mem_cons_self)
  have h2:=namedL_len bs fun b hb=>h b (List.mem_cons_of_mem _ hb)
  unfold namedL at *
  rw [List.map_cons,List.flatten_cons,List.length_append,List.length_cons]
  omega
end Go.Ab
namespace Go.Ab.C11
open Go Go.Ab Go.Proofs
theorem rThere11 {q:Option Bool} {b:TV} {fs:List DFunc} (hb:RL q 3 (RFunc q) b fs) (n:Int):Runs prog 18 [.agg [b],I n] (B (thereB fs.length n)):=by
 refine Runs.of (f18_MR _ _) ?_
 unfold f18_M
 refine Goes.chk rfl (Goes.tv rfl (Goes.ite rfl (fun h=>Goes.tv hb.len (Goes.tv rfl ?_)) fun h=>?_))
 ·refine goes_ret.2 ?_
  have h:0≤n:=by simpa using h
  simp [thereB,h]
 ·refine goes_ret.2 ?_
  have h:¬ 0≤n:=by simpa using h
  simp [thereB,h]
theorem namedIns {q:Option Bool} {b:TV} {i:TV} {l:List DIns} (hi:RL q 7 (RIns q) i l) {x1 x2:TV} {d0 d1 d2 d3 d4 d5 d6 d7 d8 d9 d10 d11 d12 d13:TV} {Z:TV→Prop} {pre:List Int} (hpl:pre.length≤100000) (hll:l.length≤100)
  (hk:∀ w,RInts (some true) w (pre ++ insC l)→∃ y,Goes prog 20 (f20_2 b x1 x2 w d0 d1 d2 d3 d4 d5 d6 d7 d8 d9 d10 d11 d12 d13) y∧Z y) :
  ∀ (d j:Nat) (w:TV),j + d=l.length→RInts (some true) w (pre ++ insC (l.take j))→∃ y,Goes prog 20 (f20_1 b x1 x2 i (I l.length) (I j) w d0 d1 d2 d3 d4 d5 d6 d7 d8 d9 d10 d11 d12 d13) y∧Z y:=by
 intro d
 induction d with
 | zero =>
  intro j w hj hw
  have hj:j=l.length:=by omega
  subst hj
  rw [List.take_length] at hw
  obtain ⟨y,hy,hz⟩:=hk w hw
  refine ⟨y,?_,hz⟩
  unfold f20_1
  exact Goes.tv rfl (Goes.ite asB_end (fun h=>nomatch h) fun _=>f20_2_J hy)
 | succ d ih =>
  intro j w hj hw
  have hjl:j < l.length:=by omega
  obtain ⟨x,hx⟩:∃ x,l[j]? = some x:=⟨_,List.getElem?_eq_getElem hjl⟩
  obtain ⟨e,he,hR⟩:=hi.idx (k:=.i64) hx
  obtain ⟨g,rfl,hg,ho⟩:=hR
  have hil:=insC_len (l.take j)
  rw [List.length_take] at hil
  by_cases h11:x.op=11
  ·obtain ⟨w',hw',hr⟩:=hw.app (e:=[I x.f]) (a:=x.f) ⟨rfl,ho.2.2.2.2.2⟩ (by rw [List.length_append]; omega)
   obtain ⟨y,hy,hz⟩:=ih (j + 1) w' (by omega) (by rw [insC_succ hx,if_pos h11,← List.append_assoc]; exact hr)
   refine ⟨y,?_,hz⟩
   unfold f20_1
   refine Goes.tv rfl (Goes.ite (asB_lt hjl) (fun _=>Goes.tvs he (Goes.chk rfl (Goes.tv rfl ?_))) fun h=>nomatch h)
   refine Goes.ite (v:=true) (by simp [asBool,h11]) (fun _=>?_) fun h=>nomatch h
   exact Goes.rws rfl (Goes.tv hw' (Goes.tv (inc hjl (by omega)) (f20_1_J hy)))
  ·obtain ⟨y,hy,hz⟩:=ih (j + 1) w (by omega) (by rw [insC_succ hx,if_neg h11,List.append_nil]; exact hw)
   refine ⟨y,?_,hz⟩
   unfold f20_1
   refine Goes.tv rfl (Goes.ite (asB_lt hjl) (fun _=>Goes.tvs he (Goes.chk rfl (Goes.tv rfl ?_))) fun h=>nomatch h)
   refine Goes.ite (v:=false) (by simp [asBool,h11]) (fun h=>nomatch h) fun _=>?_
   exact Goes.tv (inc hjl (by omega)) (f20_1_J hy)
section
variable {q:Option Bool} {b:TV} {bs:List DBlock} (hb:RL q 14 (RBlock q) b bs) (hs:bs.length≤100∧∀ b ∈ bs,b.ins.length≤100)
include hb hs
theorem namedBlk:∀ (d j:Nat) (w:TV),j + d=bs.length→RInts (some true) w (namedL (bs.take j))→∃ y,Goes prog 20 (f20_0 b (I bs.length) (I j) w) y∧RInts (some true) y (namedL bs):=by
 intro d
 induction d with
 | zero =>
  intro j w hj hw
  have hj:j=bs.length:=by omega
  subst hj
  rw [List.take_length] at hw
  refine ⟨w,?_,hw⟩
  unfold f20_0
  exact Goes.tv rfl (Goes.ite asB_end (fun h=>nomatch h) fun _=>Goes.chk (hw.own fun _ _ h=>h.own) Goes.ret)
 | succ d ih =>
  intro j w hj hw
  have hjl:j < bs.length:=by omega
  obtain ⟨x,hx⟩:∃ x,bs[j]? = some x:=⟨_,List.getElem?_eq_getElem hjl⟩
  have hxm:x ∈ bs:=List.mem_of_getElem? hx
  obtain ⟨e,he,hR⟩:=hb.idx (k:=.i64) hx
  obtain ⟨c,i,g,rfl,hc,hd,hi,hg,ho⟩:=hR
  have hnl:=namedL_len (bs.take j) fun b hb=>hs.2 b (List.mem_of_mem_take hb)
  rw [List.length_take] at hnl
  have hil:=insC_len x.ins
  have hx100:=hs.2 x hxm
  have h1:=hs.1
  obtain ⟨y,hy,hz⟩:=namedIns hi (pre:=namedL (bs.take j)) (x1:=I bs.length) (x2:=I j) (b:=b) (d0:=B x.landing) (d1:=I x.pad.dst) (d2:=c) (d3:=B x.pad.all) (d4:=B x.pad.cleanup) (d5:=i) (d6:=I x.fin.kind) (d7:=I x.fin.a) (d8:=I x.fin.dst) (d9:=I x.fin.f) (d10:=g) (d11:=I x.fin.to) (d12:=I x.fin.els) (d13:=I x.fin.pad) (Z:=fun y=>RInts (some true) y (namedL bs)) (by omega) hx100 (fun w hw=>by
   by_cases h4:x.fin.kind=4
   ·obtain ⟨w',hw',hr⟩:=hw.app (e:=[I x.fin.f]) (a:=x.fin.f) ⟨rfl,ho.2.2.2.1⟩ (by rw [List.length_append]; omega)
    obtain ⟨y,hy,hz⟩:=ih (j + 1) w' (by omega) (by rw [namedL_succ hx,blkC,if_pos h4,← List.append_assoc]; exact hr)
    refine ⟨y,?_,hz⟩
    unfold f20_2
    exact Goes.tv rfl (Goes.ite (v:=true) (by simp [asBool,h4]) (fun _=>Goes.rws rfl (Goes.tv hw' (Goes.tv (inc hjl (by omega)) (f20_0_J hy)))) fun h=>nomatch h)
   ·obtain ⟨y,hy,hz⟩:=ih (j + 1) w (by omega) (by rw [namedL_succ hx,blkC,if_neg h4,List.append_nil]; exact hw)
    refine ⟨y,?_,hz⟩
    unfold f20_2
    exact Goes.tv rfl (Goes.ite (v:=false) (by simp [asBool,h4]) (fun h=>nomatch h) fun _=>Goes.tv (inc hjl (by omega)) (f20_0_J hy))) x.ins.length 0 w (by omega) (by simpa [insC] using hw)
  refine ⟨y,?_,hz⟩
  unfold f20_0
  exact Goes.tv rfl (Goes.ite (asB_lt hjl) (fun _=>Goes.tvs he (Goes.chk rfl (Goes.tv hi.len (f20_1_J hy)))) fun h=>nomatch h)
end
theorem rNamed {q:Option Bool} {e:List TV} {u:DFunc} (he:RFunc q e u) (hs:smallF u):∃ y,Runs prog 20 [.agg e] y∧RInts (some true) y (namedL u.blocks):=by
 obtain ⟨b,rfl,hb,_⟩:=he
 obtain ⟨y,hy,hr⟩:=namedBlk hb hs u.blocks.length 0 (.lit nilV) (by omega) (by simpa [namedL] using RL.nil)
 refine ⟨y,?_,hr⟩
 refine Runs.of (f20_MR _) ?_
 unfold f20_M
 exact Goes.chk rfl (Goes.tv hb.len (Goes.chk rfl (f20_0_J hy)))
end Go.Ab.C11
end
section
namespace Go.Ab
open Go.RowKit
set_option linter.unusedVariables false
theorem nth_eq {α:Type} (d:α):∀ (l:List α) (n:Nat),nth d l n=(l[n]?).getD d
 | [],n=>by simp [nth]
 | a :: l,0=>rfl
 | a :: l,n + 1=>by simp [nth,nth_eq d l n]
theorem setNth_eq {α:Type}:∀ (l:List α) (n:Nat) (b:α),setNth l n b=l.set n b
 | [],n,b=>by simp [setNth]
 | a :: l,0,b=>rfl
 | a :: l,n + 1,b=>by simp [setNth,setNth_eq l n b]
theorem nth_some {α:Type} {d:α} {l:List α} {n:Nat} {a:α} (h:l[n]? = some a):nth d l n=a:=by rw [nth_eq,h]; rfl
theorem beq_iff (a b:Nat):a.beq b=true ↔ a=b:=⟨Nat.eq_of_beq_eq_true,fun h=>h ▸ Nat.beq_refl a⟩
theorem memB_iff (n:Nat):∀ l:List Nat,memB n l=true ↔ n ∈ l
 | []=>by simp [memB]
 | a :: l => by
  cases h:a.beq n
  ·have:a≠n:=fun e=>by simp [e] at h
   simp only [memB,h,cond_false,memB_iff n l,List.mem_cons]
   constructor
   ·exact .inr
   ·rintro (e | e)
    ·exact absurd e.symm this
    ·exact e
  ·simp only [memB,h,cond_true,List.mem_cons,true_iff]
   exact .inl ((beq_iff a n).1 h).symm
theorem add_block (a:Addr) (k:Nat):(a.add k).block=a.block:=by unfold Addr.add; split <;> rfl
theorem add_spot {a:Addr} (h:a.spot=none) (k:Nat):(a.add k).spot=none:=by unfold Addr.add; split <;> simp [h]
theorem add_add (a:Addr) (i j:Nat):(a.add i).add j=a.add (i + j):=by
 unfold Addr.add
 by_cases hi:i=0 <;> by_cases hj:j=0 <;> simp [hi,hj,Nat.add_assoc]
theorem add_lit (b o k:Nat):(⟨b,o,none⟩:Addr).add k=⟨b,o + k,none⟩:=by unfold Addr.add; split <;> simp_all
def spl {α:Type} (l:List α) (o:Nat) (ys:List α):List α:=l.take o ++ ys ++ l.drop (o + ys.length)
theorem spl_len {α:Type} {l ys:List α} {o:Nat} (h:o + ys.length≤l.length):(spl l o ys).length=l.length:=by
 simp only [spl,List.length_append,List.length_take,List.length_drop]
 omega
theorem spl_get {α:Type} {l ys:List α} {o:Nat} (h:o + ys.length≤l.length) (k:Nat):(spl l o ys)[k]? = if o≤k∧k < o + ys.length then ys[k - o]? else l[k]? := by
 have e1:(l.take o).length=o:=by simp; omega
 unfold spl
 by_cases h1:k < o
 ·rw [List.append_assoc,List.getElem?_append_left (by omega),List.getElem?_take,if_pos h1,if_neg (by omega)]
 ·by_cases h2:k < o + ys.length
  ·rw [List.append_assoc,List.getElem?_append_right (by omega),e1,List.getElem?_append_left (by omega),if_pos (by omega)]
  ·rw [List.getElem?_append_right (by simp; omega),List.getElem?_drop,if_neg (by omega)]
   congr 1
   simp
   omega
theorem setCells_eq {α:Type}:∀ (ps l:List α) (off:Nat),off + ps.length≤l.length→setCells l off ps=spl l off ps
 | [],l,off,h=>by simp [setCells,spl]
 | p :: ps, l, off, h => by
  have hlt:off < l.length:=by simp at h; omega
  simp only [setCells]
  rw [setNth_eq,setCells_eq ps (l.set off p) (off + 1) (by simp at h ⊢; omega)]
  apply List.ext_getElem?
  intro k
  rw [spl_get (by simp at h ⊢; omega),spl_get h]
  simp only [List.length_cons,List.getElem?_set]
  by_cases h1:k < off
  ·rw [if_neg (by omega),if_neg (by omega),if_neg (by omega)]
  ·by_cases h2:k=off
   ·subst h2
    rw [if_neg (by omega),if_pos (by omega)]
    simp [hlt]
   ·by_cases h3:k < off + (ps.length + 1)
    ·rw [if_pos (by omega),if_pos (by omega)]
     rw [show k - off=(k - (off + 1)) + 1 by omega,List.getElem?_cons_succ]
    ·rw [if_neg (by omega),if_neg (by omega),if_neg (by omega)]
theorem takeN_spec {α:Type}:∀ (l:List α) (o n:Nat) (r:List α),takeN l o n=some r→r.length=n∧(n=0∨o + n≤l.length)∧∀ j,j < n→r[j]? = l[o + j]?
 | l,o,0,r,h=>by cases l <;> simp [takeN] at h <;> subst h <;> simp
 | [],o,n + 1,r,h=>by simp [takeN] at h
 | a :: l, 0, n + 1, r, h => by
  simp only [takeN] at h
  cases h1:takeN l 0 n with
  | none=>simp [h1] at h
  | some r' =>
   simp only [h1,Option.some.injEq] at h
   subst h
   obtain ⟨i1,i2,i3⟩:=takeN_spec l 0 n r' h1
   refine ⟨by simp [i1],.inr (by simp; omega),fun j hj=>?_⟩
   cases j with
   | zero=>simp
   | succ j=>simpa using i3 j (by omega)
 | a :: l,o + 1,n + 1,r,h=>by
  simp only [takeN] at h
  obtain ⟨i1,i2,i3⟩:=takeN_spec l o (n + 1) r h
  refine ⟨i1,.inr (by rcases i2 with i2 | i2 <;> simp <;> omega),fun j hj=>?_⟩
  rw [i3 j hj,show o + 1 + j=(o + j) + 1 by omega,List.getElem?_cons_succ]
theorem flat_len {α:Type} {s:Nat}:∀ {xs:List (List α)},(∀ x ∈ xs,x.length=s)→xs.flatten.length=xs.length * s
 | [],_=>by simp
 | x :: xs,h=>by
  simp only [List.flatten_cons,List.length_append,List.length_cons,h x List.mem_cons_self,flat_len (fun y hy=>h y (List.mem_cons_of_mem _ hy)),Nat.add_mul]
  omega
theorem flat_get {α:Type} {s:Nat}:∀ {xs:List (List α)} {i j:Nat} {x:List α} {c:α},(∀ x ∈ xs,x.length=s)→xs[i]? = some x→x[j]? = some c→xs.flatten[i * s + j]? = some c
 | x :: xs,0,j,_,c,h,hi,hj=>by
  simp at hi
  subst hi
  rw [List.flatten_cons,List.getElem?_append_left (by simp; exact (List.getElem?_eq_some_iff.1 hj).1)]
  simpa using hj
 | x :: xs,i + 1,j,y,c,h,hi,hj=>by
  simp at hi
  have hx:=h x List.mem_cons_self
  rw [List.flatten_cons,List.getElem?_append_right (by rw [hx,Nat.add_mul]; omega),hx,show (i + 1) * s + j - s=i * s + j by rw [Nat.add_mul]; omega]
  exact flat_get (fun z hz=>h z (List.mem_cons_of_mem _ hz)) hi hj
theorem take_add {α:Type} {x l:List α} {s n:Nat} (h:x.length=s):(x ++ l).take (s + n)=x ++ l.take n:=by
 subst h
 exact List.take_length_add_append n
theorem drop_add {α:Type} {x l:List α} {s n:Nat} (h:x.length=s):(x ++ l).drop (s + n)=l.drop n:=by
 subst h
 exact List.drop_length_add_append n
theorem succ_mul' (n s:Nat):(n + 1) * s=s + n * s:=by rw [Nat.add_mul]; omega
theorem flat_take {α:Type} {s:Nat}:∀ {xs:List (List α)} (n:Nat),(∀ x ∈ xs,x.length=s)→(xs.take n).flatten=xs.flatten.take (n * s)
 | [],n,_=>by simp
 | x :: xs,0,_=>by simp
 | x :: xs,n + 1,h=>by
  have hx:=h x List.mem_cons_self
  rw [List.take_succ_cons,List.flatten_cons,List.flatten_cons,flat_take n (fun z hz=>h z (List.mem_cons_of_mem _ hz)),succ_mul',take_add hx]
theorem flat_drop {α:Type} {s:Nat}:∀ {xs:List (List α)} (n:Nat),(∀ x ∈ xs,x.length=s)→(xs.drop n).flatten=xs.flatten.drop (n * s)
 | [],n,_=>by simp
 | x :: xs,0,_=>by simp
 | x :: xs,n + 1,h=>by
  have hx:=h x List.mem_cons_self
  rw [List.drop_succ_cons,List.flatten_cons,flat_drop n (fun z hz=>h z (List.mem_cons_of_mem _ hz)),succ_mul',drop_add hx]
theorem flat_set {α:Type} {s:Nat}:∀ {xs:List (List α)} {i:Nat} {x y:List α},(∀ x ∈ xs,x.length=s)→xs[i]? = some x→y.length=s→(xs.set i y).flatten=spl xs.flatten (i * s) y
 | x :: xs,0,_,y,h,hi,hy=>by
  simp at hi
  subst hi
  have hx:=h x List.mem_cons_self
  simp only [List.set_cons_zero,List.flatten_cons,Nat.zero_mul,spl,List.take_zero,List.nil_append,Nat.zero_add,hy,List.drop_append,hx,Nat.sub_self,List.drop_zero]
  rw [List.drop_of_length_le (by omega),List.nil_append]
 | x :: xs,i + 1,z,y,h,hi,hy=>by
  simp at hi
  have hx:=h x List.mem_cons_self
  have ih:=flat_set (fun z hz=>h z (List.mem_cons_of_mem _ hz)) hi hy
  simp only [List.set_cons_succ,List.flatten_cons,ih,spl,succ_mul',take_add hx,hy]
  rw [show s + i * s + s=s + (i * s + s) by omega,drop_add hx]
  simp only [List.append_assoc]
theorem set_all {α:Type} {s:Nat} {xs:List (List α)} {i:Nat} {y:List α} (h:∀ x ∈ xs,x.length=s) (hy:y.length=s):∀ x ∈ xs.set i y,x.length=s:=by
 intro x hx
 rcases List.mem_or_eq_of_mem_set hx with h' | h'
 ·exact h x h'
 ·rw [h']; exact hy
theorem flat_spl {α:Type} {s:Nat} {xs:List (List α)} {i j:Nat} {x ys:List α} (h:∀ x ∈ xs,x.length=s) (hi:xs[i]? = some x) (hj:j + ys.length≤x.length) :
  (xs.set i (spl x j ys)).flatten=spl xs.flatten (i * s + j) ys∧i * s + j + ys.length≤xs.flatten.length:=by
 have hx:=h x (List.mem_of_getElem? hi)
 have hlt:i < xs.length:=(List.getElem?_eq_some_iff.1 hi).1
 have hle:i * s + s≤xs.flatten.length:=by
  rw [flat_len h]
  have:=Nat.mul_le_mul_right s (Nat.succ_le_of_lt hlt)
  rw [Nat.succ_mul] at this
  exact this
 refine ⟨?_,by omega⟩
 rw [flat_set h hi (by rw [spl_len hj,hx])]
 apply List.ext_getElem?
 intro k
 rw [spl_get (l:=xs.flatten) (ys:=spl x j ys) (by rw [spl_len hj]; omega),spl_get (l:=xs.flatten) (ys:=ys) (by omega),spl_len hj,hx]
 by_cases h1:i * s≤k∧k < i * s + s
 ·rw [if_pos h1,spl_get hj]
  by_cases h2:j≤k - i * s∧k - i * s < j + ys.length
  ·rw [if_pos h2,if_pos (by omega)]
   congr 1
   omega
  ·rw [if_neg h2,if_neg (by omega)]
   have hk:k - i * s < x.length:=by omega
   have:=flat_get h hi (List.getElem?_eq_getElem hk)
   rw [show i * s + (k - i * s)=k by omega] at this
   rw [this,List.getElem?_eq_getElem hk]
 ·rw [if_neg h1,if_neg (by omega)]
inductive Rep (w:World) (I:Nat→Prop):TV→Value→Prop
 | lit (v:Value):Rep w I (.lit v) v
 | hole (v:Value):Rep w I .hole v
 | buf {s:ByteArray} (e:TypeId) (h:s.size=0):Rep w I (.buf s e) nilV
 | sl {size : Nat} {xs : List (List TV)} {a : Addr} {cap : Nat} (cell : Nat → Value) (hI : 0 < xs.length → I a.block) (hc : xs.length ≤ cap) (hm : cap ≤ maxLen)
   (hl:∀ x ∈ xs,x.length=size) (hcell:∀ k,k < xs.length * size→w.cell? (a.add k)=some (cell k)) (h1:∀ k,k < xs.length * size→(cell k).oneCell'=true)
   (hr:∀ (i:Nat) (x:List TV),xs[i]? = some x→∀ (j:Nat) (c:TV),x[j]? = some c→Rep w I c (cell (i * size + j))):Rep w I (.sl false size xs) (.slice (some a) xs.length cap)
 | agg {cs : List TV} {vs : Array Value} (hl : vs.size = cs.length) (h1 : ∀ j, j < vs.size → (vs.getD j undef).oneCell' = true)
   (hr:∀ (j:Nat) (c:TV),cs[j]? = some c→Rep w I c (vs.getD j undef)):Rep w I (.agg cs) (.agg vs)
 | tup {cs:List TV} {vs:Array Value} (hl:vs.size=cs.length) (hr:∀ (j:Nat) (c:TV),cs[j]? = some c→Rep w I c (vs.getD j undef)):Rep w I (.tup cs) (.tuple vs)
theorem Rep.mv {w w':World} {I I':Nat→Prop} (hh:∀ b,I b→w'.heap[b]? = w.heap[b]?) (hI:∀ b,I b→I' b) {x:TV} {v:Value} (h:Rep w I x v):Rep w' I' x v:=by
 induction h with
 | lit v=>exact .lit v
 | hole v=>exact .hole v
 | buf e h=>exact .buf e h
 | sl cell i c m l hcell h1 _ ih =>
  exact .sl cell (fun h=>hI _ (i h)) c m l (fun k hk=>by rw [← hcell k hk]; exact World.cell?_of_block (by rw [add_block]; exact hh _ (i (Nat.pos_of_ne_zero (fun e=>by simp [e] at hk))))) h1 ih
 | agg hl h1 _ ih=>exact .agg hl h1 ih
 | tup hl _ ih=>exact .tup hl ih
structure Row (w:World) (a:Addr) (n cap size:Nat) (us:List Value) (vs:Array Value) (ty:TypeId):Prop where
 heap:w.heap[a.block]? = some (.cells vs ty (0,0))
 spot:a.spot=none
 le:n≤cap
 max:cap≤maxLen
 fit:a.off + cap * size≤vs.size
 len:us.length=n * size
 cells:∀ k,k < n * size→vs[a.off + k]? = us[k]?
 one:∀ u ∈ us,u.oneCell'=true
theorem Row.cell {w:World} {a:Addr} {n cap size:Nat} {us:List Value} {vs:Array Value} {ty:TypeId} (h:Row w a n cap size us vs ty) {k:Nat} {u:Value} (hk:us[k]? = some u):w.cell? (a.add k)=some u:=by
 have hlt:k < n * size:=by rw [← h.len]; exact (List.getElem?_eq_some_iff.1 hk).1
 have:a.add k=⟨a.block,a.off + k,none⟩:=by
  have:=h.spot
  obtain ⟨b,o,sp⟩:=a
  simp at this
  subst this
  exact add_lit b o k
 rw [this]
 simp only [World.cell?,h.heap]
 simp only [Option.isSome_none,Bool.false_eq_true,if_false]
 rw [h.cells k hlt,hk]
inductive RepO (w:World) (I:Nat→Prop):TV→Value→(Nat→Prop)→Prop
 | fr {x:TV} {v:Value} {S:Nat→Prop} (h:Rep w I x v):RepO w I x v S
 | sl {size : Nat} {xs : List (List TV)} {a : Addr} {cap : Nat} {S : Nat → Prop} (us : List Value) (vs : Array Value) (ty : TypeId) (F : Nat → Nat → Prop) (hS : S a.block)
   (row:Row w a xs.length cap size us vs ty) (hl:∀ x ∈ xs,x.length=size) (hr:∀ (k:Nat) (c:TV),xs.flatten[k]? = some c→RepO w I c (us.getD k undef) (F k))
   (hF:∀ k b,F k b→S b∧b≠a.block) (hd:∀ k k' b,F k b→F k' b→k=k'):RepO w I (.sl true size xs) (.slice (some a) xs.length cap) S
 | agg {cs : List TV} {vs : Array Value} {S : Nat → Prop} (F : Nat → Nat → Prop) (hl : vs.size = cs.length) (h1 : ∀ j, j < vs.size → (vs.getD j undef).oneCell' = true)
   (hr:∀ (j:Nat) (c:TV),cs[j]? = some c→RepO w I c (vs.getD j undef) (F j)) (hF:∀ j b,F j b→S b) (hd:∀ k k' b,F k b→F k' b→k=k'):RepO w I (.agg cs) (.agg vs) S
 | buf {s:ByteArray} {e:TypeId} {v:Value} {S:Nat→Prop} (h:w.ownsRowF 0 e 1 v s.size (Lib.strCells s)) (hS:∀ b,v.ownBlock=some b→S b):RepO w I (.buf s e) v S
 | tup {cs : List TV} {vs : Array Value} {S : Nat → Prop} (F : Nat → Nat → Prop) (hl : vs.size = cs.length)
   (hr:∀ (j:Nat) (c:TV),cs[j]? = some c→RepO w I c (vs.getD j undef) (F j)) (hF:∀ j b,F j b→S b) (hd:∀ k k' b,F k b→F k' b→k=k'):RepO w I (.tup cs) (.tuple vs) S
theorem _root_.Go.World.ownsRowF.moved {w w':World} {base:Nat} {e:TypeId} {size:Nat} {v:Value} {n:Nat} {xs:List Value} (h:w.ownsRowF base e size v n xs) (hh:∀ b,v.ownBlock=some b→w'.heap[b]? = w.heap[b]?):w'.ownsRowF base e size v n xs:=by
 refine ⟨h.1,?_⟩
 rcases h.2 with hn | ⟨g,cap,cur,fz,rfl,hb,hgg,rest⟩
 ·exact .inl hn
 ·exact .inr ⟨g,cap,cur,fz,rfl,hb,by rw [hh g rfl]; exact hgg,rest⟩
theorem RepO.mv {w w':World} {I I':Nat→Prop} (hI:∀ b,I b→w'.heap[b]? = w.heap[b]?) (hs:∀ b,I b→I' b) {x:TV} {v:Value} {S:Nat→Prop} (h:RepO w I x v S) :
  ∀ {S':Nat→Prop},(∀ b,S b→w'.heap[b]? = w.heap[b]?)→(∀ b,S b→S' b)→RepO w' I' x v S':=by
 induction h with
 | fr h=>intro S' _ _; exact .fr (h.mv hI hs)
 | @sl size xs a cap S us vs ty F hS row hl hr hF hd ih =>
  intro S' hh hSS
  exact .sl us vs ty F (hSS _ hS) ⟨by rw [hh _ hS]; exact row.heap,row.spot,row.le,row.max,row.fit,row.len,row.cells,row.one⟩ hl (fun k c hk=>ih k c hk (fun b hb=>hh b (hF k b hb).1) (fun b hb=>hb))
   (fun k b hb=>⟨hSS b (hF k b hb).1,(hF k b hb).2⟩) hd
 | @buf s e v S h hS =>
  intro S' hh hSS
  exact .buf (h.moved (fun b hb=>hh b (hS b hb))) (fun b hb=>hSS b (hS b hb))
 | @agg cs vs S F hl h1 hr hF hd ih =>
  intro S' hh hSS
  exact .agg F hl h1 (fun k c hk=>ih k c hk (fun b hb=>hh b (hF k b hb)) (fun b hb=>hb)) (fun k b hb=>hSS b (hF k b hb)) hd
 | @tup cs vs S F hl hr hF hd ih =>
  intro S' hh hSS
  exact .tup F hl (fun k c hk=>ih k c hk (fun b hb=>hh b (hF k b hb)) (fun b hb=>hb)) (fun k b hb=>hSS b (hF k b hb)) hd
theorem RepO.mono {w:World} {I:Nat→Prop} {x:TV} {v:Value} {S S':Nat→Prop} (h:RepO w I x v S) (hS:∀ b,S b→S' b):RepO w I x v S' :=
 h.mv (fun _ _=>rfl) (fun _ h=>h) (fun _ _=>rfl) hS
theorem rep_lit {w:World} {I:Nat→Prop} {v u:Value} (h:Rep w I (.lit v) u):u=v:=by cases h; rfl
theorem repO_lit {w:World} {I:Nat→Prop} {v u:Value} {S:Nat→Prop} (h:RepO w I (.lit v) u S):u=v:=by cases h with | fr h=>exact rep_lit h
theorem repO_frz {w:World} {I:Nat→Prop} {s:Nat} {xs:List (List TV)} {u:Value} {S:Nat→Prop} (h:RepO w I (.sl false s xs) u S):Rep w I (.sl false s xs) u:=by cases h with | fr h=>exact h
theorem repO_sl {w:World} {I:Nat→Prop} {o:Bool} {s:Nat} {xs:List (List TV)} {u:Value} {S:Nat→Prop} (h:RepO w I (.sl o s xs) u S):∃ a cap,u=.slice (some a) xs.length cap:=by
 cases h with
 | fr h=>cases h; exact ⟨_,_,rfl⟩
 | sl=>exact ⟨_,_,rfl⟩
theorem repO_isSl {w:World} {I:Nat→Prop} {x:TV} {u:Value} {S:Nat→Prop} (h:RepO w I x u S) (hx:x.isSl=true):∃ a n cap,u=.slice a n cap:=by
 cases x with
 | lit v =>
  have:=repO_lit h
  subst this
  cases u <;> simp [TV.isSl,isSlV] at hx ⊢
 | sl o s xs=>obtain ⟨a,cap,rfl⟩:=repO_sl h; exact ⟨_,_,_,rfl⟩
 | _=>simp [TV.isSl] at hx
theorem scV_one {v:Value} (h:scV v=true):v.oneCell'=true:=by cases v <;> first | rfl | simp [scV] at h
theorem repO_isSc {w:World} {I:Nat→Prop} {x:TV} {u:Value} {S:Nat→Prop} (h:RepO w I x u S) (hx:x.isSc=true):x=.lit u∧scV u=true:=by
 cases x with
 | lit v =>
  have:=repO_lit h
  subst this
  exact ⟨rfl,hx⟩
 | _=>simp [TV.isSc] at hx
theorem repO_lf {w:World} {I:Nat→Prop} {x:TV} {u:Value} {S:Nat→Prop} (h:RepO w I x u S):Rep w I x.lf u:=by
 cases x with
 | lit v=>have:=repO_lit h; subst this; exact .lit _
 | _=>exact .hole _
theorem frzL_eq:∀ l:List TV,frzL l=l.map frz
 | []=>rfl
 | x :: l=>by simp [frzL,frzL_eq l]
theorem frzLL_eq:∀ l:List (List TV),frzLL l=l.map fun x=>x.map frz
 | []=>rfl
 | x :: l=>by simp [frzLL,frzLL_eq l,frzL_eq]
theorem lfL_eq:∀ l:List TV,lfL l=l.map TV.lf
 | []=>rfl
 | x :: l=>by simp [lfL,lfL_eq l]
theorem lfLL_eq:∀ l:List (List TV),lfLL l=l.map fun x=>x.map TV.lf
 | []=>rfl
 | x :: l=>by simp [lfLL,lfLL_eq l,lfL_eq]
theorem Rep.frz {w:World} {I:Nat→Prop} {x:TV} {v:Value} (h:Rep w I x v):Rep w I (frz x) v:=by
 induction h with
 | lit v=>exact .lit v
 | hole v=>exact .hole v
 | buf e h=>exact .hole _
 | @sl size xs a cap cell hI hc hm hl hcell h1 _ ih =>
  simp only [Ab.frz,frzLL_eq]
  have hlen:(xs.map fun x=>x.map Ab.frz).length=xs.length:=by simp
  have key:Rep w I (.sl false size (xs.map fun x=>x.map Ab.frz)) (.slice (some a) (xs.map fun x=>x.map Ab.frz).length cap):=by
   refine .sl cell (by rw [hlen]; exact hI) (by rw [hlen]; exact hc) hm (fun x hx=>?_) (by rw [hlen]; exact hcell) (by rw [hlen]; exact h1) (fun i y hy j c hj=>?_)
   ·obtain ⟨y,hy,rfl⟩:=List.mem_map.1 hx
    simpa using hl y hy
   ·rw [List.getElem?_map] at hy
    cases hxi:xs[i]? with
    | none=>simp [hxi] at hy
    | some x =>
     simp only [hxi,Option.map_some,Option.some.injEq] at hy
     subst hy
     rw [List.getElem?_map] at hj
     cases hxj:x[j]? with
     | none=>simp [hxj] at hj
     | some c' =>
      simp only [hxj,Option.map_some,Option.some.injEq] at hj
      subst hj
      exact ih i x hxi j c' hxj
  rwa [hlen] at key
 | @agg cs vs hl h1 _ ih =>
  simp only [Ab.frz,frzL_eq]
  refine .agg (by simpa using hl) h1 (fun j c hj=>?_)
  rw [List.getElem?_map] at hj
  cases hxj:cs[j]? with
  | none=>simp [hxj] at hj
  | some c'=>simp only [hxj,Option.map_some,Option.some.injEq] at hj; subst hj; exact ih j c' hxj
 | @tup cs vs hl _ ih =>
  simp only [Ab.frz,frzL_eq]
  refine .tup (by simpa using hl) (fun j c hj=>?_)
  rw [List.getElem?_map] at hj
  cases hxj:cs[j]? with
  | none=>simp [hxj] at hj
  | some c'=>simp only [hxj,Option.map_some,Option.some.injEq] at hj; subst hj; exact ih j c' hxj
theorem RepO.frz {w:World} {I I':Nat→Prop} (hI:∀ b,I b→I' b) {x:TV} {v:Value} {S:Nat→Prop} (h:RepO w I x v S):(∀ b,S b→I' b)→Rep w I' (frz x) v:=by
 induction h with
 | fr h=>intro _; exact (h.mv (fun _ _=>rfl) hI).frz
 | buf _ _=>intro _; exact .hole _
 | @sl size xs a cap S us vs ty F hS row hl hr hF hd ih =>
  intro hSI
  simp only [Ab.frz,frzLL_eq]
  have hlen:(xs.map fun x=>x.map Ab.frz).length=xs.length:=by simp
  have key:Rep w I' (.sl false size (xs.map fun x=>x.map Ab.frz)) (.slice (some a) (xs.map fun x=>x.map Ab.frz).length cap):=by
   refine .sl (fun k=>us.getD k undef) (fun _=>hSI _ hS) (by rw [hlen]; exact row.le) row.max (fun x hx=>?_) (fun k hk=>?_) (fun k hk=>?_) (fun i y hy j c hj=>?_)
   ·obtain ⟨y,hy,rfl⟩:=List.mem_map.1 hx
    simpa using hl y hy
   ·rw [hlen] at hk
    have:k < us.length:=by rw [row.len]; exact hk
    exact row.cell (by simp [List.getElem?_eq_getElem this])
   ·rw [hlen] at hk
    have:k < us.length:=by rw [row.len]; exact hk
    simp only [List.getD_eq_getElem?_getD,List.getElem?_eq_getElem this,Option.getD_some]
    exact row.one _ (List.getElem_mem this)
   ·rw [List.getElem?_map] at hy
    cases hxi:xs[i]? with
    | none=>simp [hxi] at hy
    | some x =>
     simp only [hxi,Option.map_some,Option.some.injEq] at hy
     subst hy
     rw [List.getElem?_map] at hj
     cases hxj:x[j]? with
     | none=>simp [hxj] at hj
     | some c' =>
      simp only [hxj,Option.map_some,Option.some.injEq] at hj
      subst hj
      exact ih _ c' (flat_get hl hxi hxj) (fun b hb=>hSI b (hF _ b hb).1)
  rwa [hlen] at key
 | @agg cs vs S F hl h1 hr hF hd ih =>
  intro hSI
  simp only [Ab.frz,frzL_eq]
  refine .agg (by simpa using hl) h1 (fun j c hj=>?_)
  rw [List.getElem?_map] at hj
  cases hxj:cs[j]? with
  | none=>simp [hxj] at hj
  | some c'=>simp only [hxj,Option.map_some,Option.some.injEq] at hj; subst hj; exact ih j c' hxj (fun b hb=>hSI b (hF j b hb))
 | @tup cs vs S F hl hr hF hd ih =>
  intro hSI
  simp only [Ab.frz,frzL_eq]
  refine .tup (by simpa using hl) (fun j c hj=>?_)
  rw [List.getElem?_map] at hj
  cases hxj:cs[j]? with
  | none=>simp [hxj] at hj
  | some c'=>simp only [hxj,Option.map_some,Option.some.injEq] at hj; subst hj; exact ih j c' hxj (fun b hb=>hSI b (hF j b hb))
theorem isOwnL_mem:∀ {l:List TV},isOwnL l=true→∀ x ∈ l,isOwn x=true
 | [],_,x,hx=>by simp at hx
 | y :: l,h,x,hx=>by
  simp only [isOwnL,Bool.and_eq_true] at h
  rcases List.mem_cons.1 hx with rfl | hx
  ·exact h.1
  ·exact isOwnL_mem h.2 x hx
theorem isOwnLL_mem:∀ {l:List (List TV)},isOwnLL l=true→∀ x ∈ l,isOwnL x=true
 | [],_,x,hx=>by simp at hx
 | y :: l,h,x,hx=>by
  simp only [isOwnLL,Bool.and_eq_true] at h
  rcases List.mem_cons.1 hx with rfl | hx
  ·exact h.1
  ·exact isOwnLL_mem h.2 x hx
theorem Rep.own {w:World} {I I':Nat→Prop} {x:TV} {v:Value} (h:Rep w I x v):isOwn x=true→Rep w I' x v:=by
 induction h with
 | lit v=>intro _; exact .lit v
 | hole v=>intro _; exact .hole v
 | buf e h=>intro _; exact .buf e h
 | sl=>intro h; simp [isOwn] at h
 | @agg cs vs hl h1 _ ih=>intro h; simp only [isOwn] at h; exact .agg hl h1 (fun j c hj=>ih j c hj (isOwnL_mem h c (List.mem_of_getElem? hj)))
 | @tup cs vs hl _ ih=>intro h; simp only [isOwn] at h; exact .tup hl (fun j c hj=>ih j c hj (isOwnL_mem h c (List.mem_of_getElem? hj)))
theorem RepO.own {w:World} {I I':Nat→Prop} {x:TV} {v:Value} {S:Nat→Prop} (h:RepO w I x v S):isOwn x=true→RepO w I' x v S:=by
 induction h with
 | fr h=>intro ho; exact .fr (h.own ho)
 | buf h hS=>intro _; exact .buf h hS
 | @sl size xs a cap S us vs ty F hS row hl hr hF hd ih =>
  intro ho
  simp only [isOwn,Bool.true_and] at ho
  refine .sl us vs ty F hS row hl (fun k c hk=>ih k c hk ?_) hF hd
  obtain ⟨x,hx,hc⟩:=List.mem_flatten.1 (List.mem_of_getElem? hk)
  exact isOwnL_mem (isOwnLL_mem ho x hx) c hc
 | @agg cs vs S F hl h1 hr hF hd ih=>intro ho; simp only [isOwn] at ho; exact .agg F hl h1 (fun j c hj=>ih j c hj (isOwnL_mem ho c (List.mem_of_getElem? hj))) hF hd
 | @tup cs vs S F hl hr hF hd ih=>intro ho; simp only [isOwn] at ho; exact .tup F hl (fun j c hj=>ih j c hj (isOwnL_mem ho c (List.mem_of_getElem? hj))) hF hd
end Go.Ab
end

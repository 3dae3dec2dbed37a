import Derived.Test.YtdfmiamebejhoaaHT12T
import Derived.Test.YtdfmiamebejhoaaHT12Xa
import Derived.Test.YtdfmiamebejhoaaHT12Xb
set_option linter.all false
section
set_option maxRecDepth 100000
namespace Go.Ab.T12
open Go Go.Ab Go.Proofs
open Go.Ab.TV (hole cell comp isSl isSc isTup cellsL tup agg)
open Go.Ab.Prg (tv tvs rws nat chk call jmp ret)
def f30_0_S  (x0 x1 x2 y3:TV):ASt:=⟨[AV.one CA.junk,AV.one (CA.ptr 0 0)] ++ List.replicate 22 (AV.one CA.junk) ++ [AV.tv x0,AV.tv x1,AV.tv x2] ++ List.replicate 8 (AV.one CA.junk),[some (BC.cells [CA.t y3])] ++ List.replicate 58 (none),[]⟩
def f30_M (x0:TV):Prg TV :=
 chk (TV.isAgg x0 1) (
 tv (plen (.slice 53) (cell x0 0)) fun v0 =>
 tv (pbin (.int .i64) .lss v0 (I 1)) fun v1 =>
 Prg.ite (asBool v1) (
 ret (B false)) (
 tv (plen (.slice 53) (cell x0 0)) fun v2 =>
 tv (pbin (.int .i64) .gtr v2 (I 16)) fun v3 =>
 Prg.ite (asBool v3) (
 ret (B false)) (
 tvs (pidx 3 (cell x0 0) (I 0)) fun e4 =>
 chk (Nat.blt 0 (List.length e4)) (
 tv (pbin (.int .i64) .neq (nth hole e4 0) (I 0)) fun v5 =>
 Prg.ite (asBool v5) (
 ret (B false)) (
 tv (plen (.slice 53) (cell x0 0)) fun v6 =>
 jmp [0,0,1,0,1,1] (f30_0_S (cell x0 0) v6 (I 0) (cell x0 0)))))))
def f30_0  (x0 x1 x2 y3:TV):Prg TV :=
 tv (pbin (.int .i64) .lss x2 x1) fun v7 =>
 Prg.ite (asBool v7) (
 tvs (pidx 3 x0 x2) fun e8 =>
 chk (Nat.ble 3 (List.length e8)) (
 call 50 [agg [y3],agg [nth hole e8 0,nth hole e8 1,nth hole e8 2]] fun v9 =>
 chk (ac aj [v9] 0) (
 tv (pun .not v9) fun v10 =>
 Prg.ite (asBool v10) (
 ret (B false)) (
 tv (pbin (.int .i64) .add x2 (I 1)) fun v11 =>
 jmp [0,0,1,0,1,1] (f30_0_S x0 x1 v11 y3))))) (
 ret (B true))
theorem f30_MR (x0:TV):aR prog 30 [x0]=f30_M x0:=by kernel_rfl
theorem f30_0_J  {x0 x1 x2 y3:TV} {r:TV} (h:aa prog 30 (f30_0 x0 x1 x2 y3) r):aa prog 30 (.jmp [0,0,1,0,1,1] (f30_0_S x0 x1 x2 y3)) r:=aa.jmp (by kernel_rfl) h
def f37_M (x0 x1:TV):Prg TV :=
 call 53 [x0,x1] fun v0 =>
 chk (ac Cb [v0] 0) (
 tv (pbin (.int .i64) .geq v0 (I 0)) fun v1 =>
 ret v1)
theorem f37_MR (x0 x1:TV):aR prog 37 [x0,x1]=f37_M x0 x1:=by kernel_rfl
def f38_0_S  (x0 y1 y2 y3 y4 y5 y6 y7:TV):ASt:=⟨[AV.one CA.junk,AV.one CA.junk,AV.one (CA.ptr 0 0),AV.one CA.junk,AV.one CA.junk,AV.one (CA.ptr 1 0),AV.tv x0] ++ List.replicate 69 (AV.one CA.junk),[some (BC.cells [CA.t y1,CA.t y2,CA.t y3]),some (BC.cells [CA.t y4,CA.t y5,CA.t y6,CA.t y7])] ++ List.replicate 98 (none),[]⟩
def f38_1_S  (x0 x1 y2 y3 y4 y5 y6 y7 y8:TV):ASt:=⟨[AV.one CA.junk,AV.one CA.junk,AV.one (CA.ptr 0 0),AV.one CA.junk,AV.one CA.junk,AV.one (CA.ptr 1 0),AV.tv x0,AV.tv x1] ++ List.replicate 68 (AV.one CA.junk),[some (BC.cells [CA.t y2,CA.t y3,CA.t y4]),some (BC.cells [CA.t y5,CA.t y6,CA.t y7,CA.t y8])] ++ List.replicate 98 (none),[]⟩
def f38_2_S  (y0 y1 y2 y3 y4 y5 y6:TV):ASt:=⟨[AV.one CA.junk,AV.one CA.junk,AV.one (CA.ptr 0 0),AV.one CA.junk,AV.one CA.junk,AV.one (CA.ptr 1 0)] ++ List.replicate 70 (AV.one CA.junk),[some (BC.cells [CA.t y0,CA.t y1,CA.t y2]),some (BC.cells [CA.t y3,CA.t y4,CA.t y5,CA.t y6])] ++ List.replicate 98 (none),[]⟩
def f38_M (x0 x1:TV):Prg TV :=
 chk (TV.isAgg x0 3) (
 chk (TV.isAgg x1 14) (
 tv (pun .not (cell x1 0)) fun v0 =>
 Prg.ite (asBool v0) (
 tv (pbin (.int .i64) .eql (cell x1 1) (I 0)) fun v1 =>
 Prg.ite (asBool v1) (
 tv (plen (.slice 35) (cell x1 2)) fun v2 =>
 tv (pbin (.int .i64) .eql v2 (I 0)) fun v3 =>
 Prg.ite (asBool v3) (
 tv (pun .not (cell x1 3)) fun v4 =>
 Prg.ite (asBool v4) (
 tv (pun .not (cell x1 4)) fun v5 =>
 ret v5) (
 ret (B false))) (
 ret (B false))) (
 ret (B false))) (
 jmp [0,0,1,0,1,1,1] (f38_0_S (I 0) (cell x0 0) (cell x0 1) (cell x0 2) (cell x1 1) (cell x1 2) (cell x1 3) (cell x1 4)))))
def f38_0  (x0 y1 y2 y3 y4 y5 y6 y7:TV):Prg TV :=
 tv (plen (.slice 35) y5) fun v6 =>
 tv (pbin (.int .i64) .lss x0 v6) fun v7 =>
 Prg.ite (asBool v7) (
 tv (pbin (.int .i64) .geq x0 (I 8)) fun v8 =>
 Prg.ite (asBool v8) (
 ret (B false)) (
 jmp [0,0,1,1,0,0,1,0,0,1,0,1,1,1] (f38_1_S x0 (I 0) y1 y2 y3 y4 y5 y6 y7))) (
 jmp [1,1,1,1] (f38_2_S y1 y2 y3 y4 y5 y6 y7))
def f38_1  (x0 x1 y2 y3 y4 y5 y6 y7 y8:TV):Prg TV :=
 tv (pbin (.int .i64) .lss x1 x0) fun v9 =>
 Prg.ite (asBool v9) (
 tvs (pidx 1 y6 x1) fun e10 =>
 chk (Nat.blt 0 (List.length e10)) (
 tvs (pidx 1 y6 x0) fun e11 =>
 chk (Nat.blt 0 (List.length e11)) (
 tv (pbin (.int .u16) .eql (nth hole e10 0) (nth hole e11 0)) fun v12 =>
 Prg.ite (asBool v12) (
 ret (B false)) (
 tv (pbin (.int .i64) .add x1 (I 1)) fun v13 =>
 jmp [0,0,1,1,0,0,1,0,0,1,0,1,1,1] (f38_1_S x0 v13 y2 y3 y4 y5 y6 y7 y8))))) (
 tv (pbin (.int .i64) .add x0 (I 1)) fun v14 =>
 jmp [0,0,1,0,1,1,1] (f38_0_S v14 y2 y3 y4 y5 y6 y7 y8))
def f38_2  (y0 y1 y2 y3 y4 y5 y6:TV):Prg TV :=
 call 54 [y3,y1] fun v15 =>
 chk (ac aj [v15] 0) (
 Prg.ite (asBool v15) (
 tv (plen (.slice 35) y4) fun v16 =>
 tv (pbin (.int .i64) .gtr v16 (I 0)) fun v17 =>
 Prg.ite (asBool v17) (
 ret (B true)) (
 Prg.ite (asBool y5) (
 ret (B true)) (
 ret y6))) (
 ret (B false)))
theorem f38_MR (x0 x1:TV):aR prog 38 [x0,x1]=f38_M x0 x1:=by kernel_rfl
theorem f38_0_J  {x0 y1 y2 y3 y4 y5 y6 y7:TV} {r:TV} (h:aa prog 38 (f38_0 x0 y1 y2 y3 y4 y5 y6 y7) r):aa prog 38 (.jmp [0,0,1,0,1,1,1] (f38_0_S x0 y1 y2 y3 y4 y5 y6 y7)) r:=aa.jmp (by kernel_rfl) h
theorem f38_1_J  {x0 x1 y2 y3 y4 y5 y6 y7 y8:TV} {r:TV} (h:aa prog 38 (f38_1 x0 x1 y2 y3 y4 y5 y6 y7 y8) r):aa prog 38 (.jmp [0,0,1,1,0,0,1,0,0,1,0,1,1,1] (f38_1_S x0 x1 y2 y3 y4 y5 y6 y7 y8)) r:=aa.jmp (by kernel_rfl) h
theorem f38_2_J  {y0 y1 y2 y3 y4 y5 y6:TV} {r:TV} (h:aa prog 38 (f38_2 y0 y1 y2 y3 y4 y5 y6) r):aa prog 38 (.jmp [1,1,1,1] (f38_2_S y0 y1 y2 y3 y4 y5 y6)) r:=aa.jmp (by kernel_rfl) h
def f39_0_S  (x0 x1 x2 x3 y4 y5 y6 y7 y8 y9 y10 y11 y12 y13 y14 y15:TV):ASt:=⟨[AV.one CA.junk,AV.one CA.junk,AV.one CA.junk,AV.one (CA.ptr 0 0),AV.one (CA.ptr 1 0),AV.one (CA.ptr 2 0),AV.one CA.junk,AV.tv x0,AV.tv x1,AV.tv x2] ++ List.replicate 30 (AV.one CA.junk) ++ [AV.tv x3] ++ List.replicate 117 (AV.one CA.junk),[some (BC.cells [CA.t y4]),some (BC.cells [CA.t y5,CA.t y6,CA.t y7]),some (BC.cells [CA.t y8,CA.t y9,CA.t y10,CA.t y11,CA.t y12,CA.t y13,CA.t y14,CA.t y15])] ++ List.replicate 179 (none),[]⟩
def f39_1_S  (x0 x1 x2 x3 x4 y5 y6 y7 y8 y9 y10 y11 y12 y13 y14 y15 y16:TV):ASt:=⟨[AV.one CA.junk,AV.one CA.junk,AV.one CA.junk,AV.one (CA.ptr 0 0),AV.one (CA.ptr 1 0),AV.one (CA.ptr 2 0),AV.one CA.junk,AV.tv x0,AV.tv x1,AV.tv x2] ++ List.replicate 30 (AV.one CA.junk) ++ [AV.tv x3,AV.tv x4] ++ List.replicate 116 (AV.one CA.junk),[some (BC.cells [CA.t y5]),some (BC.cells [CA.t y6,CA.t y7,CA.t y8]),some (BC.cells [CA.t y9,CA.t y10,CA.t y11,CA.t y12,CA.t y13,CA.t y14,CA.t y15,CA.t y16])] ++ List.replicate 179 (none),[]⟩
def f39_M (x0 x1 x2:TV):Prg TV :=
 chk (TV.isAgg x0 1) (
 chk (TV.isAgg x1 3) (
 chk (TV.isAgg x2 8) (
 call 54 [cell x2 1,cell x1 1] fun v0 =>
 chk (ac aj [v0] 0) (
 call 54 [cell x2 2,cell x1 1] fun v1 =>
 chk (ac aj [v1] 0) (
 tv (pbin (.int .i64) .eql (cell x2 2) (I 0)) fun v2 =>
 Prg.ite (asBool v2) (
 tv (pbin (.int .i64) .eql (cell x2 3) (I 0)) fun v3 =>
 Prg.ite (asBool v3) (
 tv (plen (.slice 3) (cell x2 4)) fun v4 =>
 tv (pbin (.int .i64) .eql v4 (I 0)) fun v5 =>
 Prg.ite (asBool v5) (
 tv (pbin (.int .i64) .eql (cell x2 7) (I 0)) fun v6 =>
 jmp [1,0,1,1,1] (f39_0_S v0 v1 v6 (cell x2 0) (cell x0 0) (cell x1 0) (cell x1 1) (cell x1 2) (cell x2 0) (cell x2 1) (cell x2 2) (cell x2 3) (cell x2 4) (cell x2 5) (cell x2 6) (cell x2 7))) (
 jmp [1,0,1,1,1] (f39_0_S v0 v1 (B false) (cell x2 0) (cell x0 0) (cell x1 0) (cell x1 1) (cell x1 2) (cell x2 0) (cell x2 1) (cell x2 2) (cell x2 3) (cell x2 4) (cell x2 5) (cell x2 6) (cell x2 7)))) (
 jmp [1,0,1,1,1] (f39_0_S v0 v1 (B false) (cell x2 0) (cell x0 0) (cell x1 0) (cell x1 1) (cell x1 2) (cell x2 0) (cell x2 1) (cell x2 2) (cell x2 3) (cell x2 4) (cell x2 5) (cell x2 6) (cell x2 7)))) (
 jmp [1,0,1,1,1] (f39_0_S v0 v1 (B false) (cell x2 0) (cell x0 0) (cell x1 0) (cell x1 1) (cell x1 2) (cell x2 0) (cell x2 1) (cell x2 2) (cell x2 3) (cell x2 4) (cell x2 5) (cell x2 6) (cell x2 7))))))))
def f39_0  (x0 x1 x2 x3 y4 y5 y6 y7 y8 y9 y10 y11 y12 y13 y14 y15:TV):Prg TV :=
 tv (pbin (.int .i64) .eql x3 (I 1)) fun v7 =>
 Prg.ite (asBool v7) (
 jmp [1,0,1,0,1,1,1] (f39_1_S x0 x1 x2 x3 v7 y4 y5 y6 y7 y8 y9 y10 y11 y12 y13 y14 y15)) (
 tv (pbin (.int .i64) .eql x3 (I 5)) fun v8 =>
 jmp [1,0,1,0,1,1,1] (f39_1_S x0 x1 x2 x3 v8 y4 y5 y6 y7 y8 y9 y10 y11 y12 y13 y14 y15))
def f39_1  (x0 x1 x2 x3 x4 y5 y6 y7 y8 y9 y10 y11 y12 y13 y14 y15 y16:TV):Prg TV :=
 Prg.ite (asBool x4) (
 Prg.ite (asBool x0) (
 Prg.ite (asBool x2) (
 tv (pbin (.int .i64) .eql y14 (I 0)) fun v9 =>
 Prg.ite (asBool v9) (
 tv (pbin (.int .i64) .eql y15 (I 0)) fun v10 =>
 ret v10) (
 ret (B false))) (
 ret (B false))) (
 ret (B false))) (
 tv (pbin (.int .i64) .eql x3 (I 2)) fun v11 =>
 Prg.ite (asBool v11) (
 tv (pbin (.int .i64) .eql y10 (I 0)) fun v12 =>
 Prg.ite (asBool v12) (
 Prg.ite (asBool x2) (
 call 55 [agg [y6,y7,y8],y14] fun v13 =>
 chk (ac aj [v13] 0) (
 Prg.ite (asBool v13) (
 tv (pbin (.int .i64) .eql y15 (I 0)) fun v14 =>
 ret v14) (
 ret (B false)))) (
 ret (B false))) (
 ret (B false))) (
 tv (pbin (.int .i64) .eql x3 (I 3)) fun v15 =>
 Prg.ite (asBool v15) (
 Prg.ite (asBool x0) (
 Prg.ite (asBool x2) (
 call 55 [agg [y6,y7,y8],y14] fun v16 =>
 chk (ac aj [v16] 0) (
 Prg.ite (asBool v16) (
 call 55 [agg [y6,y7,y8],y15] fun v17 =>
 chk (ac aj [v17] 0) (
 ret v17)) (
 ret (B false)))) (
 ret (B false))) (
 ret (B false))) (
 tv (pbin (.int .i64) .eql x3 (I 4)) fun v18 =>
 Prg.ite (asBool v18) (
 tv (pbin (.int .i64) .eql y10 (I 0)) fun v19 =>
 Prg.ite (asBool v19) (
 Prg.ite (asBool x1) (
 call 56 [agg [y5],agg [y6,y7,y8],y12,y13] fun v20 =>
 chk (ac aj [v20] 0) (
 Prg.ite (asBool v20) (
 call 55 [agg [y6,y7,y8],y14] fun v21 =>
 chk (ac aj [v21] 0) (
 Prg.ite (asBool v21) (
 tv (pbin (.int .i64) .eql y15 (I 0)) fun v22 =>
 Prg.ite (asBool v22) (
 tv (plen (.slice 50) y8) fun v23 =>
 call 54 [y16,v23] fun v24 =>
 chk (ac aj [v24] 0) (
 Prg.ite (asBool v24) (
 tvs (pidx 14 y8 y16) fun e25 =>
 chk (Nat.blt 0 (List.length e25)) (
 ret (nth hole e25 0))) (
 ret (B false)))) (
 ret (B false))) (
 ret (B false)))) (
 ret (B false)))) (
 ret (B false))) (
 ret (B false))) (
 tv (pbin (.int .i64) .eql x3 (I 6)) fun v26 =>
 Prg.ite (asBool v26) (
 tv (pbin (.int .i64) .eql y10 (I 0)) fun v27 =>
 Prg.ite (asBool v27) (
 Prg.ite (asBool x2) (
 tv (pbin (.int .i64) .eql y14 (I 0)) fun v28 =>
 Prg.ite (asBool v28) (
 tv (pbin (.int .i64) .eql y15 (I 0)) fun v29 =>
 ret v29) (
 ret (B false))) (
 ret (B false))) (
 ret (B false))) (
 ret (B false))))))
theorem f39_MR (x0 x1 x2:TV):aR prog 39 [x0,x1,x2]=f39_M x0 x1 x2:=by kernel_rfl
theorem f39_0_J  {x0 x1 x2 x3 y4 y5 y6 y7 y8 y9 y10 y11 y12 y13 y14 y15:TV} {r:TV} (h:aa prog 39 (f39_0 x0 x1 x2 x3 y4 y5 y6 y7 y8 y9 y10 y11 y12 y13 y14 y15) r):aa prog 39 (.jmp [1,0,1,1,1] (f39_0_S x0 x1 x2 x3 y4 y5 y6 y7 y8 y9 y10 y11 y12 y13 y14 y15)) r:=aa.jmp (by kernel_rfl) h
theorem f39_1_J  {x0 x1 x2 x3 x4 y5 y6 y7 y8 y9 y10 y11 y12 y13 y14 y15 y16:TV} {r:TV} (h:aa prog 39 (f39_1 x0 x1 x2 x3 x4 y5 y6 y7 y8 y9 y10 y11 y12 y13 y14 y15 y16) r):aa prog 39 (.jmp [1,0,1,0,1,1,1] (f39_1_S x0 x1 x2 x3 x4 y5 y6 y7 y8 y9 y10 y11 y12 y13 y14 y15 y16)) r:=aa.jmp (by kernel_rfl) h
def f40_0_S  (x0 x1 x2 x3 x4 y5 y6 y7 y8 y9 y10 y11 y12 y13 y14 y15:TV):ASt:=⟨[AV.one CA.junk,AV.one CA.junk,AV.one CA.junk,AV.one (CA.ptr 0 0),AV.one (CA.ptr 1 0),AV.one (CA.ptr 2 0),AV.one CA.junk,AV.tv x0,AV.tv x1,AV.tv x2] ++ List.replicate 16 (AV.one CA.junk) ++ [AV.tv x3] ++ List.replicate 24 (AV.one CA.junk) ++ [AV.tv x4] ++ List.replicate 134 (AV.one CA.junk),[some (BC.cells [CA.t y5]),some (BC.cells [CA.t y6,CA.t y7,CA.t y8]),some (BC.cells [CA.t y9,CA.t y10,CA.t y11,CA.t y12,CA.t y13,CA.t y14,CA.t y15])] ++ List.replicate 207 (none),[]⟩
def f40_1_S  (x0 x1 x2 x3 x4 y5 y6 y7 y8 y9 y10 y11 y12 y13 y14 y15:TV):ASt:=⟨[AV.one CA.junk,AV.one CA.junk,AV.one CA.junk,AV.one (CA.ptr 0 0),AV.one (CA.ptr 1 0),AV.one (CA.ptr 2 0),AV.one CA.junk,AV.tv x0,AV.tv x1,AV.tv x2] ++ List.replicate 16 (AV.one CA.junk) ++ [AV.tv x3] ++ List.replicate 45 (AV.one CA.junk) ++ [AV.tv x4] ++ List.replicate 113 (AV.one CA.junk),[some (BC.cells [CA.t y5]),some (BC.cells [CA.t y6,CA.t y7,CA.t y8]),some (BC.cells [CA.t y9,CA.t y10,CA.t y11,CA.t y12,CA.t y13,CA.t y14,CA.t y15])] ++ List.replicate 207 (none),[]⟩
def f40_M (x0 x1 x2:TV):Prg TV :=
 chk (TV.isAgg x0 1) (
 chk (TV.isAgg x1 3) (
 chk (TV.isAgg x2 7) (
 call 54 [cell x2 1,cell x1 1] fun v0 =>
 chk (ac aj [v0] 0) (
 call 54 [cell x2 2,cell x1 1] fun v1 =>
 chk (ac aj [v1] 0) (
 call 54 [cell x2 3,cell x1 1] fun v2 =>
 chk (ac aj [v2] 0) (
 tv (pbin (.int .i64) .eql (cell x2 0) (I 1)) fun v3 =>
 Prg.ite (asBool v3) (
 Prg.ite (asBool v0) (
 tv (pbin (.int .i64) .eql (cell x2 2) (I 0)) fun v4 =>
 Prg.ite (asBool v4) (
 tv (pbin (.int .i64) .eql (cell x2 3) (I 0)) fun v5 =>
 Prg.ite (asBool v5) (
 tv (pbin (.int .i64) .eql (cell x2 5) (I 0)) fun v6 =>
 Prg.ite (asBool v6) (
 tv (plen (.slice 3) (cell x2 6)) fun v7 =>
 tv (pbin (.int .i64) .eql v7 (I 0)) fun v8 =>
 ret v8) (
 ret (B false))) (
 ret (B false))) (
 ret (B false))) (
 ret (B false))) (
 tv (pbin (.int .i64) .eql (cell x2 0) (I 2)) fun v9 =>
 Prg.ite (asBool v9) (
 jmp [1,1,1,0,1,0,1,1] (f40_0_S v0 v1 v2 (cell x2 0) v9 (cell x0 0) (cell x1 0) (cell x1 1) (cell x1 2) (cell x2 0) (cell x2 1) (cell x2 2) (cell x2 3) (cell x2 4) (cell x2 5) (cell x2 6))) (
 tv (pbin (.int .i64) .eql (cell x2 0) (I 9)) fun v10 =>
 jmp [1,1,1,0,1,0,1,1] (f40_0_S v0 v1 v2 (cell x2 0) v10 (cell x0 0) (cell x1 0) (cell x1 1) (cell x1 2) (cell x2 0) (cell x2 1) (cell x2 2) (cell x2 3) (cell x2 4) (cell x2 5) (cell x2 6))))))))))
def f40_0  (x0 x1 x2 x3 x4 y5 y6 y7 y8 y9 y10 y11 y12 y13 y14 y15:TV):Prg TV :=
 Prg.ite (asBool x4) (
 Prg.ite (asBool x0) (
 Prg.ite (asBool x1) (
 tv (pbin (.int .i64) .eql y12 (I 0)) fun v11 =>
 Prg.ite (asBool v11) (
 call 57 [y13,y14,y15] fun v12 =>
 chk (ac aj [v12] 0) (
 ret v12)) (
 ret (B false))) (
 ret (B false))) (
 ret (B false))) (
 tv (pbin (.int .i64) .eql x3 (I 3)) fun v13 =>
 Prg.ite (asBool v13) (
 jmp [1,1,1,1,1,0,1,0,1,1] (f40_1_S x0 x1 x2 x3 v13 y5 y6 y7 y8 y9 y10 y11 y12 y13 y14 y15)) (
 tv (pbin (.int .i64) .eql x3 (I 4)) fun v14 =>
 Prg.ite (asBool v14) (
 jmp [1,1,1,1,1,0,1,0,1,1] (f40_1_S x0 x1 x2 x3 v14 y5 y6 y7 y8 y9 y10 y11 y12 y13 y14 y15)) (
 tv (pbin (.int .i64) .eql x3 (I 5)) fun v15 =>
 Prg.ite (asBool v15) (
 jmp [1,1,1,1,1,0,1,0,1,1] (f40_1_S x0 x1 x2 x3 v15 y5 y6 y7 y8 y9 y10 y11 y12 y13 y14 y15)) (
 tv (pbin (.int .i64) .eql x3 (I 6)) fun v16 =>
 Prg.ite (asBool v16) (
 jmp [1,1,1,1,1,0,1,0,1,1] (f40_1_S x0 x1 x2 x3 v16 y5 y6 y7 y8 y9 y10 y11 y12 y13 y14 y15)) (
 tv (pbin (.int .i64) .eql x3 (I 7)) fun v17 =>
 Prg.ite (asBool v17) (
 jmp [1,1,1,1,1,0,1,0,1,1] (f40_1_S x0 x1 x2 x3 v17 y5 y6 y7 y8 y9 y10 y11 y12 y13 y14 y15)) (
 tv (pbin (.int .i64) .eql x3 (I 8)) fun v18 =>
 jmp [1,1,1,1,1,0,1,0,1,1] (f40_1_S x0 x1 x2 x3 v18 y5 y6 y7 y8 y9 y10 y11 y12 y13 y14 y15)))))))
def f40_1  (x0 x1 x2 x3 x4 y5 y6 y7 y8 y9 y10 y11 y12 y13 y14 y15:TV):Prg TV :=
 Prg.ite (asBool x4) (
 Prg.ite (asBool x0) (
 Prg.ite (asBool x1) (
 Prg.ite (asBool x2) (
 call 57 [y13,y14,y15] fun v19 =>
 chk (ac aj [v19] 0) (
 ret v19)) (
 ret (B false))) (
 ret (B false))) (
 ret (B false))) (
 tv (pbin (.int .i64) .eql x3 (I 10)) fun v20 =>
 Prg.ite (asBool v20) (
 tv (pbin (.int .i64) .eql y10 (I 0)) fun v21 =>
 Prg.ite (asBool v21) (
 Prg.ite (asBool x1) (
 Prg.ite (asBool x2) (
 call 57 [y13,y14,y15] fun v22 =>
 chk (ac aj [v22] 0) (
 ret v22)) (
 ret (B false))) (
 ret (B false))) (
 ret (B false))) (
 tv (pbin (.int .i64) .eql x3 (I 11)) fun v23 =>
 Prg.ite (asBool v23) (
 Prg.ite (asBool x0) (
 tv (pbin (.int .i64) .eql y11 (I 0)) fun v24 =>
 Prg.ite (asBool v24) (
 tv (pbin (.int .i64) .eql y12 (I 0)) fun v25 =>
 Prg.ite (asBool v25) (
 tv (pbin (.int .u16) .eql y13 (W 0)) fun v26 =>
 Prg.ite (asBool v26) (
 call 56 [agg [y5],agg [y6,y7,y8],y14,y15] fun v27 =>
 chk (ac aj [v27] 0) (
 ret v27)) (
 ret (B false))) (
 ret (B false))) (
 ret (B false))) (
 ret (B false))) (
 tv (pbin (.int .i64) .eql x3 (I 12)) fun v28 =>
 Prg.ite (asBool v28) (
 tv (pbin (.int .i64) .eql y10 (I 0)) fun v29 =>
 Prg.ite (asBool v29) (
 Prg.ite (asBool x1) (
 tv (pbin (.int .i64) .eql y12 (I 0)) fun v30 =>
 Prg.ite (asBool v30) (
 call 57 [y13,y14,y15] fun v31 =>
 chk (ac aj [v31] 0) (
 ret v31)) (
 ret (B false))) (
 ret (B false))) (
 ret (B false))) (
 tv (pbin (.int .i64) .eql x3 (I 13)) fun v32 =>
 Prg.ite (asBool v32) (
 Prg.ite (asBool x0) (
 tv (pbin (.int .i64) .eql y11 (I 0)) fun v33 =>
 Prg.ite (asBool v33) (
 tv (pbin (.int .i64) .eql y12 (I 0)) fun v34 =>
 Prg.ite (asBool v34) (
 call 57 [y13,y14,y15] fun v35 =>
 chk (ac aj [v35] 0) (
 ret v35)) (
 ret (B false))) (
 ret (B false))) (
 ret (B false))) (
 ret (B false))))))
theorem f40_MR (x0 x1 x2:TV):aR prog 40 [x0,x1,x2]=f40_M x0 x1 x2:=by kernel_rfl
theorem f40_0_J  {x0 x1 x2 x3 x4 y5 y6 y7 y8 y9 y10 y11 y12 y13 y14 y15:TV} {r:TV} (h:aa prog 40 (f40_0 x0 x1 x2 x3 x4 y5 y6 y7 y8 y9 y10 y11 y12 y13 y14 y15) r):aa prog 40 (.jmp [1,1,1,0,1,0,1,1] (f40_0_S x0 x1 x2 x3 x4 y5 y6 y7 y8 y9 y10 y11 y12 y13 y14 y15)) r:=aa.jmp (by kernel_rfl) h
theorem f40_1_J  {x0 x1 x2 x3 x4 y5 y6 y7 y8 y9 y10 y11 y12 y13 y14 y15:TV} {r:TV} (h:aa prog 40 (f40_1 x0 x1 x2 x3 x4 y5 y6 y7 y8 y9 y10 y11 y12 y13 y14 y15) r):aa prog 40 (.jmp [1,1,1,1,1,0,1,0,1,1] (f40_1_S x0 x1 x2 x3 x4 y5 y6 y7 y8 y9 y10 y11 y12 y13 y14 y15)) r:=aa.jmp (by kernel_rfl) h
def f50_0_S  (x0 x1 x2 y3 y4 y5 y6:TV):ASt:=⟨List.replicate 5 (AV.one CA.junk) ++ [AV.one (CA.ptr 0 0)] ++ List.replicate 44 (AV.one CA.junk) ++ [AV.tv x0,AV.tv x1,AV.tv x2] ++ List.replicate 8 (AV.one CA.junk),[some (BC.cells [CA.t y3,CA.t y4,CA.t y5,CA.t y6])] ++ List.replicate 84 (none),[]⟩
def f50_M (x0 x1:TV):Prg TV :=
 chk (TV.isAgg x0 1) (
 chk (TV.isAgg x1 3) (
 tv (pbin (.int .i64) .lss (cell x1 0) (I 0)) fun v0 =>
 Prg.ite (asBool v0) (
 ret (B false)) (
 tv (pbin (.int .i64) .gtr (cell x1 0) (I 8)) fun v1 =>
 Prg.ite (asBool v1) (
 ret (B false)) (
 tv (pbin (.int .i64) .lss (cell x1 1) (cell x1 0)) fun v2 =>
 Prg.ite (asBool v2) (
 ret (B false)) (
 tv (pbin (.int .i64) .gtr (cell x1 1) (I 256)) fun v3 =>
 Prg.ite (asBool v3) (
 ret (B false)) (
 tv (plen (.slice 50) (cell x1 2)) fun v4 =>
 tv (pbin (.int .i64) .lss v4 (I 1)) fun v5 =>
 Prg.ite (asBool v5) (
 ret (B false)) (
 tv (plen (.slice 50) (cell x1 2)) fun v6 =>
 tv (pbin (.int .i64) .gtr v6 (I 64)) fun v7 =>
 Prg.ite (asBool v7) (
 ret (B false)) (
 tvs (pidx 14 (cell x1 2) (I 0)) fun e8 =>
 chk (Nat.blt 0 (List.length e8)) (
 Prg.ite (asBool (nth hole e8 0)) (
 ret (B false)) (
 tv (plen (.slice 50) (cell x1 2)) fun v9 =>
 jmp [0,0,1,0,1,1,1,1] (f50_0_S (cell x1 2) v9 (I 0) (cell x0 0) (cell x1 0) (cell x1 1) (cell x1 2))))))))))))
def f50_0  (x0 x1 x2 y3 y4 y5 y6:TV):Prg TV :=
 tv (pbin (.int .i64) .lss x2 x1) fun v10 =>
 Prg.ite (asBool v10) (
 tvs (pidx 14 x0 x2) fun e11 =>
 chk (Nat.ble 14 (List.length e11)) (
 call 66 [agg [y3,y4,y5,y6],agg [nth hole e11 0,nth hole e11 1,nth hole e11 2,nth hole e11 3,nth hole e11 4,nth hole e11 5,nth hole e11 6,nth hole e11 7,nth hole e11 8,nth hole e11 9,nth hole e11 10,nth hole e11 11,nth hole e11 12,nth hole e11 13]] fun v12 =>
 chk (ac aj [v12] 0) (
 tv (pun .not v12) fun v13 =>
 Prg.ite (asBool v13) (
 ret (B false)) (
 tv (pbin (.int .i64) .add x2 (I 1)) fun v14 =>
 jmp [0,0,1,0,1,1,1,1] (f50_0_S x0 x1 v14 y3 y4 y5 y6))))) (
 ret (B true))
theorem f50_MR (x0 x1:TV):aR prog 50 [x0,x1]=f50_M x0 x1:=by kernel_rfl
theorem f50_0_J  {x0 x1 x2 y3 y4 y5 y6:TV} {r:TV} (h:aa prog 50 (f50_0 x0 x1 x2 y3 y4 y5 y6) r):aa prog 50 (.jmp [0,0,1,0,1,1,1,1] (f50_0_S x0 x1 x2 y3 y4 y5 y6)) r:=aa.jmp (by kernel_rfl) h
def f53_0_S  (x0 x1 x2 x3:TV):ASt:=⟨[AV.tv x0,AV.tv x1] ++ List.replicate 5 (AV.one CA.junk) ++ [AV.tv x2,AV.tv x3] ++ List.replicate 10 (AV.one CA.junk),List.replicate 43 (none),[]⟩
def f53_M (x0 x1:TV):Prg TV :=
 tv (plen (.slice 3) x0) fun v0 =>
 jmp [0,0,1,0,1] (f53_0_S x0 x1 v0 (I 0))
def f53_0  (x0 x1 x2 x3:TV):Prg TV :=
 tv (pbin (.int .i64) .lss x3 x2) fun v1 =>
 Prg.ite (asBool v1) (
 tvs (pidx 1 x0 x3) fun e2 =>
 chk (Nat.blt 0 (List.length e2)) (
 tv (pbin (.int .i64) .eql x1 (nth hole e2 0)) fun v3 =>
 Prg.ite (asBool v3) (
 ret x3) (
 tv (pbin (.int .i64) .add x3 (I 1)) fun v4 =>
 jmp [0,0,1,0,1] (f53_0_S x0 x1 x2 v4)))) (
 ret (TV.lit (Value.int IntKind.i64 (-1))))
theorem f53_MR (x0 x1:TV):aR prog 53 [x0,x1]=f53_M x0 x1:=by kernel_rfl
theorem f53_0_J  {x0 x1 x2 x3:TV} {r:TV} (h:aa prog 53 (f53_0 x0 x1 x2 x3) r):aa prog 53 (.jmp [0,0,1,0,1] (f53_0_S x0 x1 x2 x3)) r:=aa.jmp (by kernel_rfl) h
def f54_M (x0 x1:TV):Prg TV :=
 tv (pbin (.int .i64) .geq x0 (I 0)) fun v0 =>
 Prg.ite (asBool v0) (
 tv (pbin (.int .i64) .lss x0 x1) fun v1 =>
 ret v1) (
 ret (B false))
theorem f54_MR (x0 x1:TV):aR prog 54 [x0,x1]=f54_M x0 x1:=by kernel_rfl
def f55_M (x0 x1:TV):Prg TV :=
 chk (TV.isAgg x0 3) (
 tv (plen (.slice 50) (cell x0 2)) fun v0 =>
 call 54 [x1,v0] fun v1 =>
 chk (ac aj [v1] 0) (
 Prg.ite (asBool v1) (
 tvs (pidx 14 (cell x0 2) x1) fun e2 =>
 chk (Nat.blt 0 (List.length e2)) (
 tv (pun .not (nth hole e2 0)) fun v3 =>
 ret v3)) (
 ret (B false))))
theorem f55_MR (x0 x1:TV):aR prog 55 [x0,x1]=f55_M x0 x1:=by kernel_rfl
def f56_0_S  (x0 x1 y2 y3 y4:TV):ASt:=⟨[AV.one CA.junk,AV.one CA.junk,AV.one CA.junk,AV.tv x0,AV.one CA.junk,AV.one (CA.ptr 0 0),AV.one CA.junk,AV.one CA.junk,AV.one CA.junk,AV.tv x1] ++ List.replicate 31 (AV.one CA.junk),[some (BC.cells [CA.t y2,CA.t y3,CA.t y4])] ++ List.replicate 64 (none),[]⟩
def f56_M (x0 x1 x2 x3:TV):Prg TV :=
 chk (TV.isAgg x0 1) (
 chk (TV.isAgg x1 3) (
 tv (plen (.slice 53) (cell x0 0)) fun v0 =>
 call 54 [x2,v0] fun v1 =>
 chk (ac aj [v1] 0) (
 tv (pun .not v1) fun v2 =>
 Prg.ite (asBool v2) (
 ret (B false)) (
 tv (plen (.slice 3) x3) fun v3 =>
 tvs (pidx 3 (cell x0 0) x2) fun e4 =>
 chk (Nat.blt 0 (List.length e4)) (
 tv (pbin (.int .i64) .neq v3 (nth hole e4 0)) fun v5 =>
 Prg.ite (asBool v5) (
 ret (B false)) (
 jmp [0,0,1,0,1,1] (f56_0_S x3 (I 0) (cell x1 0) (cell x1 1) (cell x1 2))))))))
def f56_0  (x0 x1 y2 y3 y4:TV):Prg TV :=
 tv (plen (.slice 3) x0) fun v6 =>
 tv (pbin (.int .i64) .lss x1 v6) fun v7 =>
 Prg.ite (asBool v7) (
 tvs (pidx 1 x0 x1) fun e8 =>
 chk (Nat.blt 0 (List.length e8)) (
 call 54 [nth hole e8 0,y3] fun v9 =>
 chk (ac aj [v9] 0) (
 tv (pun .not v9) fun v10 =>
 Prg.ite (asBool v10) (
 ret (B false)) (
 tv (pbin (.int .i64) .add x1 (I 1)) fun v11 =>
 jmp [0,0,1,0,1,1] (f56_0_S x0 v11 y2 y3 y4))))) (
 ret (B true))
theorem f56_MR (x0 x1 x2 x3:TV):aR prog 56 [x0,x1,x2,x3]=f56_M x0 x1 x2 x3:=by kernel_rfl
theorem f56_0_J  {x0 x1 y2 y3 y4:TV} {r:TV} (h:aa prog 56 (f56_0 x0 x1 y2 y3 y4) r):aa prog 56 (.jmp [0,0,1,0,1,1] (f56_0_S x0 x1 y2 y3 y4)) r:=aa.jmp (by kernel_rfl) h
def f57_M (x0 x1 x2:TV):Prg TV :=
 tv (pbin (.int .u16) .eql x0 (W 0)) fun v0 =>
 Prg.ite (asBool v0) (
 tv (pbin (.int .i64) .eql x1 (I 0)) fun v1 =>
 Prg.ite (asBool v1) (
 tv (plen (.slice 3) x2) fun v2 =>
 tv (pbin (.int .i64) .eql v2 (I 0)) fun v3 =>
 ret v3) (
 ret (B false))) (
 ret (B false))
theorem f57_MR (x0 x1 x2:TV):aR prog 57 [x0,x1,x2]=f57_M x0 x1 x2:=by kernel_rfl
def f66_0_S  (x0 x1 x2 y3 y4 y5 y6 y7 y8 y9 y10 y11 y12 y13 y14 y15 y16 y17 y18 y19 y20:TV):ASt:=⟨[AV.one CA.junk,AV.one CA.junk,AV.one (CA.ptr 0 0),AV.one (CA.ptr 1 0)] ++ List.replicate 17 (AV.one CA.junk) ++ [AV.tv x0,AV.tv x1,AV.tv x2] ++ List.replicate 12 (AV.one CA.junk),[some (BC.cells [CA.t y3,CA.t y4,CA.t y5,CA.t y6]),some (BC.cells [CA.t y7,CA.t y8,CA.t y9,CA.t y10,CA.t y11,CA.t y12,CA.t y13,CA.t y14,CA.t y15,CA.t y16,CA.t y17,CA.t y18,CA.t y19,CA.t y20])] ++ List.replicate 58 (none),[]⟩
def f66_1_S  (y0 y1 y2 y3 y4 y5 y6 y7 y8 y9 y10 y11 y12 y13 y14 y15 y16 y17:TV):ASt:=⟨[AV.one CA.junk,AV.one CA.junk,AV.one (CA.ptr 0 0),AV.one (CA.ptr 1 0)] ++ List.replicate 32 (AV.one CA.junk),[some (BC.cells [CA.t y0,CA.t y1,CA.t y2,CA.t y3]),some (BC.cells [CA.t y4,CA.t y5,CA.t y6,CA.t y7,CA.t y8,CA.t y9,CA.t y10,CA.t y11,CA.t y12,CA.t y13,CA.t y14,CA.t y15,CA.t y16,CA.t y17])] ++ List.replicate 58 (none),[]⟩
def f66_M (x0 x1:TV):Prg TV :=
 chk (TV.isAgg x0 4) (
 chk (TV.isAgg x1 14) (
 tv (plen (.slice 57) (cell x1 5)) fun v0 =>
 tv (pbin (.int .i64) .gtr v0 (I 64)) fun v1 =>
 Prg.ite (asBool v1) (
 ret (B false)) (
 call 76 [agg [cell x0 0,cell x0 1,cell x0 2,cell x0 3],cell x1 0,agg [cell x1 1,cell x1 2,cell x1 3,cell x1 4]] fun v2 =>
 chk (ac aj [v2] 0) (
 tv (pun .not v2) fun v3 =>
 Prg.ite (asBool v3) (
 ret (B false)) (
 tv (plen (.slice 57) (cell x1 5)) fun v4 =>
 jmp [0,0,1,0,1,1] (f66_0_S (cell x1 5) v4 (I 0) (cell x0 0) (cell x0 1) (cell x0 2) (cell x0 3) (cell x1 0) (cell x1 1) (cell x1 2) (cell x1 3) (cell x1 4) (cell x1 5) (cell x1 6) (cell x1 7) (cell x1 8) (cell x1 9) (cell x1 10) (cell x1 11) (cell x1 12) (cell x1 13)))))))
def f66_0  (x0 x1 x2 y3 y4 y5 y6 y7 y8 y9 y10 y11 y12 y13 y14 y15 y16 y17 y18 y19 y20:TV):Prg TV :=
 tv (pbin (.int .i64) .lss x2 x1) fun v5 =>
 Prg.ite (asBool v5) (
 tvs (pidx 7 x0 x2) fun e6 =>
 chk (Nat.ble 7 (List.length e6)) (
 call 77 [agg [y3,y4,y5,y6],agg [nth hole e6 0,nth hole e6 1,nth hole e6 2,nth hole e6 3,nth hole e6 4,nth hole e6 5,nth hole e6 6]] fun v7 =>
 chk (ac aj [v7] 0) (
 tv (pun .not v7) fun v8 =>
 Prg.ite (asBool v8) (
 ret (B false)) (
 tv (pbin (.int .i64) .add x2 (I 1)) fun v9 =>
 jmp [0,0,1,0,1,1] (f66_0_S x0 x1 v9 y3 y4 y5 y6 y7 y8 y9 y10 y11 y12 y13 y14 y15 y16 y17 y18 y19 y20))))) (
 jmp [1,1,1] (f66_1_S y3 y4 y5 y6 y7 y8 y9 y10 y11 y12 y13 y14 y15 y16 y17 y18 y19 y20))
def f66_1  (y0 y1 y2 y3 y4 y5 y6 y7 y8 y9 y10 y11 y12 y13 y14 y15 y16 y17:TV):Prg TV :=
 call 78 [agg [y0,y1,y2,y3],agg [y10,y11,y12,y13,y14,y15,y16,y17]] fun v10 =>
 chk (ac aj [v10] 0) (
 ret v10)
theorem f66_MR (x0 x1:TV):aR prog 66 [x0,x1]=f66_M x0 x1:=by kernel_rfl
theorem f66_0_J  {x0 x1 x2 y3 y4 y5 y6 y7 y8 y9 y10 y11 y12 y13 y14 y15 y16 y17 y18 y19 y20:TV} {r:TV} (h:aa prog 66 (f66_0 x0 x1 x2 y3 y4 y5 y6 y7 y8 y9 y10 y11 y12 y13 y14 y15 y16 y17 y18 y19 y20) r):aa prog 66 (.jmp [0,0,1,0,1,1] (f66_0_S x0 x1 x2 y3 y4 y5 y6 y7 y8 y9 y10 y11 y12 y13 y14 y15 y16 y17 y18 y19 y20)) r:=aa.jmp (by kernel_rfl) h
theorem f66_1_J  {y0 y1 y2 y3 y4 y5 y6 y7 y8 y9 y10 y11 y12 y13 y14 y15 y16 y17:TV} {r:TV} (h:aa prog 66 (f66_1 y0 y1 y2 y3 y4 y5 y6 y7 y8 y9 y10 y11 y12 y13 y14 y15 y16 y17) r):aa prog 66 (.jmp [1,1,1] (f66_1_S y0 y1 y2 y3 y4 y5 y6 y7 y8 y9 y10 y11 y12 y13 y14 y15 y16 y17)) r:=aa.jmp (by kernel_rfl) h
def f76_M (x0 x1 x2:TV):Prg TV :=
 chk (TV.isAgg x0 4) (
 chk (TV.isAgg x2 4) (
 tv (pun .not x1) fun v0 =>
 Prg.ite (asBool v0) (
 tv (pbin (.int .i64) .eql (cell x2 0) (I 0)) fun v1 =>
 Prg.ite (asBool v1) (
 tv (plen (.slice 35) (cell x2 1)) fun v2 =>
 tv (pbin (.int .i64) .eql v2 (I 0)) fun v3 =>
 Prg.ite (asBool v3) (
 tv (pun .not (cell x2 2)) fun v4 =>
 Prg.ite (asBool v4) (
 tv (pun .not (cell x2 3)) fun v5 =>
 ret v5) (
 ret (B false))) (
 ret (B false))) (
 ret (B false))) (
 call 81 [agg [cell x0 0,cell x0 1,cell x0 2,cell x0 3],B true,cell x2 0] fun v6 =>
 chk (ac aj [v6] 0) (
 Prg.ite (asBool v6) (
 tv (plen (.slice 35) (cell x2 1)) fun v7 =>
 tv (pbin (.int .i64) .leq v7 (I 8)) fun v8 =>
 Prg.ite (asBool v8) (
 call 82 [cell x2 1] fun v9 =>
 chk (ac aj [v9] 0) (
 Prg.ite (asBool v9) (
 tv (plen (.slice 35) (cell x2 1)) fun v10 =>
 tv (pbin (.int .i64) .gtr v10 (I 0)) fun v11 =>
 Prg.ite (asBool v11) (
 ret (B true)) (
 Prg.ite (asBool (cell x2 2)) (
 ret (B true)) (
 ret (cell x2 3)))) (
 ret (B false)))) (
 ret (B false))) (
 ret (B false))))))
theorem f76_MR (x0 x1 x2:TV):aR prog 76 [x0,x1,x2]=f76_M x0 x1 x2:=by kernel_rfl
def f77_M (x0 x1:TV):Prg TV :=
 chk (TV.isAgg x0 4) (
 chk (TV.isAgg x1 7) (
 call 83 [cell x1 0] fun v0 =>
 chk (ac Cb [v0] 0) (
 call 84 [v0,I 1] fun v1 =>
 chk (ac aj [v1] 0) (
 Prg.ite (asBool v1) (
 call 84 [v0,I 2] fun v2 =>
 chk (ac aj [v2] 0) (
 call 81 [agg [cell x0 0,cell x0 1,cell x0 2,cell x0 3],v2,cell x1 1] fun v3 =>
 chk (ac aj [v3] 0) (
 Prg.ite (asBool v3) (
 call 84 [v0,I 4] fun v4 =>
 chk (ac aj [v4] 0) (
 call 81 [agg [cell x0 0,cell x0 1,cell x0 2,cell x0 3],v4,cell x1 2] fun v5 =>
 chk (ac aj [v5] 0) (
 Prg.ite (asBool v5) (
 call 84 [v0,I 8] fun v6 =>
 chk (ac aj [v6] 0) (
 call 81 [agg [cell x0 0,cell x0 1,cell x0 2,cell x0 3],v6,cell x1 3] fun v7 =>
 chk (ac aj [v7] 0) (
 Prg.ite (asBool v7) (
 call 84 [v0,I 16] fun v8 =>
 chk (ac aj [v8] 0) (
 Prg.ite (asBool v8) (
 call 84 [v0,I 32] fun v9 =>
 chk (ac aj [v9] 0) (
 call 85 [agg [cell x0 0,cell x0 1,cell x0 2,cell x0 3],v9,cell x1 5,cell x1 6] fun v10 =>
 chk (ac aj [v10] 0) (
 ret v10))) (
 tv (pbin (.int .u16) .eql (cell x1 4) (W 0)) fun v11 =>
 Prg.ite (asBool v11) (
 call 84 [v0,I 32] fun v12 =>
 chk (ac aj [v12] 0) (
 call 85 [agg [cell x0 0,cell x0 1,cell x0 2,cell x0 3],v12,cell x1 5,cell x1 6] fun v13 =>
 chk (ac aj [v13] 0) (
 ret v13))) (
 ret (B false))))) (
 ret (B false))))) (
 ret (B false))))) (
 ret (B false))))) (
 ret (B false))))))
theorem f77_MR (x0 x1:TV):aR prog 77 [x0,x1]=f77_M x0 x1:=by kernel_rfl
def f78_M (x0 x1:TV):Prg TV :=
 chk (TV.isAgg x0 4) (
 chk (TV.isAgg x1 8) (
 call 86 [cell x1 0] fun v0 =>
 chk (ac Cb [v0] 0) (
 call 84 [v0,I 1] fun v1 =>
 chk (ac aj [v1] 0) (
 Prg.ite (asBool v1) (
 call 84 [v0,I 4] fun v2 =>
 chk (ac aj [v2] 0) (
 call 81 [agg [cell x0 0,cell x0 1,cell x0 2,cell x0 3],v2,cell x1 1] fun v3 =>
 chk (ac aj [v3] 0) (
 Prg.ite (asBool v3) (
 call 84 [v0,I 2] fun v4 =>
 chk (ac aj [v4] 0) (
 call 81 [agg [cell x0 0,cell x0 1,cell x0 2,cell x0 3],v4,cell x1 2] fun v5 =>
 chk (ac aj [v5] 0) (
 Prg.ite (asBool v5) (
 call 84 [v0,I 32] fun v6 =>
 chk (ac aj [v6] 0) (
 call 85 [agg [cell x0 0,cell x0 1,cell x0 2,cell x0 3],v6,cell x1 3,cell x1 4] fun v7 =>
 chk (ac aj [v7] 0) (
 Prg.ite (asBool v7) (
 call 84 [v0,I 64] fun v8 =>
 chk (ac aj [v8] 0) (
 call 87 [agg [cell x0 0,cell x0 1,cell x0 2,cell x0 3],v8,cell x1 5,B false] fun v9 =>
 chk (ac aj [v9] 0) (
 Prg.ite (asBool v9) (
 call 84 [v0,I 128] fun v10 =>
 chk (ac aj [v10] 0) (
 call 87 [agg [cell x0 0,cell x0 1,cell x0 2,cell x0 3],v10,cell x1 6,B false] fun v11 =>
 chk (ac aj [v11] 0) (
 Prg.ite (asBool v11) (
 call 84 [v0,I 256] fun v12 =>
 chk (ac aj [v12] 0) (
 call 87 [agg [cell x0 0,cell x0 1,cell x0 2,cell x0 3],v12,cell x1 7,B true] fun v13 =>
 chk (ac aj [v13] 0) (
 ret v13))) (
 ret (B false))))) (
 ret (B false))))) (
 ret (B false))))) (
 ret (B false))))) (
 ret (B false))))) (
 ret (B false))))))
theorem f78_MR (x0 x1:TV):aR prog 78 [x0,x1]=f78_M x0 x1:=by kernel_rfl
def f80_M (x0 x1:TV):Prg TV :=
 call 90 [x0,x1] fun v0 =>
 chk (ac Cb [v0] 0) (
 tv (pbin (.int .i64) .geq v0 (I 0)) fun v1 =>
 ret v1)
theorem f80_MR (x0 x1:TV):aR prog 80 [x0,x1]=f80_M x0 x1:=by kernel_rfl
def f81_M (x0 x1 x2:TV):Prg TV :=
 chk (TV.isAgg x0 4) (
 tv (pun .not x1) fun v0 =>
 Prg.ite (asBool v0) (
 tv (pbin (.int .i64) .eql x2 (I 0)) fun v1 =>
 ret v1) (
 tv (pbin (.int .i64) .leq (I 0) x2) fun v2 =>
 Prg.ite (asBool v2) (
 tv (pbin (.int .i64) .lss x2 (cell x0 2)) fun v3 =>
 ret v3) (
 ret (B false))))
theorem f81_MR (x0 x1 x2:TV):aR prog 81 [x0,x1,x2]=f81_M x0 x1 x2:=by kernel_rfl
def f82_0_S  (x0 x1 x2 x3:TV):ASt:=⟨[AV.tv x0] ++ List.replicate 4 (AV.one CA.junk) ++ [AV.tv x1,AV.tv x2,AV.tv x3] ++ List.replicate 10 (AV.one CA.junk),List.replicate 42 (none),[]⟩
def f82_M (x0:TV):Prg TV :=
 tv (plen (.slice 35) x0) fun v0 =>
 jmp [0,0,1,0,1] (f82_0_S x0 x0 v0 (I 0))
def f82_0  (x0 x1 x2 x3:TV):Prg TV :=
 tv (pbin (.int .i64) .lss x3 x2) fun v1 =>
 Prg.ite (asBool v1) (
 tvs (pidx 1 x1 x3) fun e2 =>
 chk (Nat.blt 0 (List.length e2)) (
 nat (aF x3) fun n3 =>
 tv (pslice (.slice 35) 1 x0 none (some n3)) fun v4 =>
 call 80 [v4,nth hole e2 0] fun v5 =>
 chk (ac aj [v5] 0) (
 Prg.ite (asBool v5) (
 ret (B false)) (
 tv (pbin (.int .i64) .add x3 (I 1)) fun v6 =>
 jmp [0,0,1,0,1] (f82_0_S x0 x1 x2 v6))))) (
 ret (B true))
theorem f82_MR (x0:TV):aR prog 82 [x0]=f82_M x0:=by kernel_rfl
theorem f82_0_J  {x0 x1 x2 x3:TV} {r:TV} (h:aa prog 82 (f82_0 x0 x1 x2 x3) r):aa prog 82 (.jmp [0,0,1,0,1] (f82_0_S x0 x1 x2 x3)) r:=aa.jmp (by kernel_rfl) h
def f83_M (x0:TV):Prg TV :=
 tv (pbin (.int .i64) .eql x0 (I 1)) fun v0 =>
 Prg.ite (asBool v0) (
 ret (I 19)) (
 tv (pbin (.int .i64) .eql x0 (I 2)) fun v1 =>
 Prg.ite (asBool v1) (
 Prg.ite (asBool v1) (
 ret (I 7)) (
 tv (pbin (.int .i64) .eql x0 (I 3)) fun v2 =>
 Prg.ite (asBool v2) (
 Prg.ite (asBool v2) (
 ret (I 15)) (
 tv (pbin (.int .i64) .eql x0 (I 10)) fun v3 =>
 Prg.ite (asBool v3) (
 ret (I 13)) (
 tv (pbin (.int .i64) .eql x0 (I 11)) fun v4 =>
 Prg.ite (asBool v4) (
 ret (I 35)) (
 tv (pbin (.int .i64) .eql x0 (I 12)) fun v5 =>
 Prg.ite (asBool v5) (
 ret (I 5)) (
 tv (pbin (.int .i64) .eql x0 (I 13)) fun v6 =>
 Prg.ite (asBool v6) (
 ret (I 3)) (
 ret (I 0))))))) (
 tv (pbin (.int .i64) .eql x0 (I 4)) fun v7 =>
 Prg.ite (asBool v7) (
 Prg.ite (asBool v7) (
 ret (I 15)) (
 tv (pbin (.int .i64) .eql x0 (I 10)) fun v8 =>
 Prg.ite (asBool v8) (
 ret (I 13)) (
 tv (pbin (.int .i64) .eql x0 (I 11)) fun v9 =>
 Prg.ite (asBool v9) (
 ret (I 35)) (
 tv (pbin (.int .i64) .eql x0 (I 12)) fun v10 =>
 Prg.ite (asBool v10) (
 ret (I 5)) (
 tv (pbin (.int .i64) .eql x0 (I 13)) fun v11 =>
 Prg.ite (asBool v11) (
 ret (I 3)) (
 ret (I 0))))))) (
 tv (pbin (.int .i64) .eql x0 (I 5)) fun v12 =>
 Prg.ite (asBool v12) (
 Prg.ite (asBool v12) (
 ret (I 15)) (
 tv (pbin (.int .i64) .eql x0 (I 10)) fun v13 =>
 Prg.ite (asBool v13) (
 ret (I 13)) (
 tv (pbin (.int .i64) .eql x0 (I 11)) fun v14 =>
 Prg.ite (asBool v14) (
 ret (I 35)) (
 tv (pbin (.int .i64) .eql x0 (I 12)) fun v15 =>
 Prg.ite (asBool v15) (
 ret (I 5)) (
 tv (pbin (.int .i64) .eql x0 (I 13)) fun v16 =>
 Prg.ite (asBool v16) (
 ret (I 3)) (
 ret (I 0))))))) (
 tv (pbin (.int .i64) .eql x0 (I 6)) fun v17 =>
 Prg.ite (asBool v17) (
 Prg.ite (asBool v17) (
 ret (I 15)) (
 tv (pbin (.int .i64) .eql x0 (I 10)) fun v18 =>
 Prg.ite (asBool v18) (
 ret (I 13)) (
 tv (pbin (.int .i64) .eql x0 (I 11)) fun v19 =>
 Prg.ite (asBool v19) (
 ret (I 35)) (
 tv (pbin (.int .i64) .eql x0 (I 12)) fun v20 =>
 Prg.ite (asBool v20) (
 ret (I 5)) (
 tv (pbin (.int .i64) .eql x0 (I 13)) fun v21 =>
 Prg.ite (asBool v21) (
 ret (I 3)) (
 ret (I 0))))))) (
 tv (pbin (.int .i64) .eql x0 (I 7)) fun v22 =>
 Prg.ite (asBool v22) (
 Prg.ite (asBool v22) (
 ret (I 15)) (
 tv (pbin (.int .i64) .eql x0 (I 10)) fun v23 =>
 Prg.ite (asBool v23) (
 ret (I 13)) (
 tv (pbin (.int .i64) .eql x0 (I 11)) fun v24 =>
 Prg.ite (asBool v24) (
 ret (I 35)) (
 tv (pbin (.int .i64) .eql x0 (I 12)) fun v25 =>
 Prg.ite (asBool v25) (
 ret (I 5)) (
 tv (pbin (.int .i64) .eql x0 (I 13)) fun v26 =>
 Prg.ite (asBool v26) (
 ret (I 3)) (
 ret (I 0))))))) (
 tv (pbin (.int .i64) .eql x0 (I 8)) fun v27 =>
 Prg.ite (asBool v27) (
 ret (I 15)) (
 tv (pbin (.int .i64) .eql x0 (I 10)) fun v28 =>
 Prg.ite (asBool v28) (
 ret (I 13)) (
 tv (pbin (.int .i64) .eql x0 (I 11)) fun v29 =>
 Prg.ite (asBool v29) (
 ret (I 35)) (
 tv (pbin (.int .i64) .eql x0 (I 12)) fun v30 =>
 Prg.ite (asBool v30) (
 ret (I 5)) (
 tv (pbin (.int .i64) .eql x0 (I 13)) fun v31 =>
 Prg.ite (asBool v31) (
 ret (I 3)) (
 ret (I 0))))))))))))) (
 tv (pbin (.int .i64) .eql x0 (I 9)) fun v32 =>
 Prg.ite (asBool v32) (
 ret (I 7)) (
 tv (pbin (.int .i64) .eql x0 (I 3)) fun v33 =>
 Prg.ite (asBool v33) (
 Prg.ite (asBool v33) (
 ret (I 15)) (
 tv (pbin (.int .i64) .eql x0 (I 10)) fun v34 =>
 Prg.ite (asBool v34) (
 ret (I 13)) (
 tv (pbin (.int .i64) .eql x0 (I 11)) fun v35 =>
 Prg.ite (asBool v35) (
 ret (I 35)) (
 tv (pbin (.int .i64) .eql x0 (I 12)) fun v36 =>
 Prg.ite (asBool v36) (
 ret (I 5)) (
 tv (pbin (.int .i64) .eql x0 (I 13)) fun v37 =>
 Prg.ite (asBool v37) (
 ret (I 3)) (
 ret (I 0))))))) (
 tv (pbin (.int .i64) .eql x0 (I 4)) fun v38 =>
 Prg.ite (asBool v38) (
 Prg.ite (asBool v38) (
 ret (I 15)) (
 tv (pbin (.int .i64) .eql x0 (I 10)) fun v39 =>
 Prg.ite (asBool v39) (
 ret (I 13)) (
 tv (pbin (.int .i64) .eql x0 (I 11)) fun v40 =>
 Prg.ite (asBool v40) (
 ret (I 35)) (
 tv (pbin (.int .i64) .eql x0 (I 12)) fun v41 =>
 Prg.ite (asBool v41) (
 ret (I 5)) (
 tv (pbin (.int .i64) .eql x0 (I 13)) fun v42 =>
 Prg.ite (asBool v42) (
 ret (I 3)) (
 ret (I 0))))))) (
 tv (pbin (.int .i64) .eql x0 (I 5)) fun v43 =>
 Prg.ite (asBool v43) (
 Prg.ite (asBool v43) (
 ret (I 15)) (
 tv (pbin (.int .i64) .eql x0 (I 10)) fun v44 =>
 Prg.ite (asBool v44) (
 ret (I 13)) (
 tv (pbin (.int .i64) .eql x0 (I 11)) fun v45 =>
 Prg.ite (asBool v45) (
 ret (I 35)) (
 tv (pbin (.int .i64) .eql x0 (I 12)) fun v46 =>
 Prg.ite (asBool v46) (
 ret (I 5)) (
 tv (pbin (.int .i64) .eql x0 (I 13)) fun v47 =>
 Prg.ite (asBool v47) (
 ret (I 3)) (
 ret (I 0))))))) (
 tv (pbin (.int .i64) .eql x0 (I 6)) fun v48 =>
 Prg.ite (asBool v48) (
 Prg.ite (asBool v48) (
 ret (I 15)) (
 tv (pbin (.int .i64) .eql x0 (I 10)) fun v49 =>
 Prg.ite (asBool v49) (
 ret (I 13)) (
 tv (pbin (.int .i64) .eql x0 (I 11)) fun v50 =>
 Prg.ite (asBool v50) (
 ret (I 35)) (
 tv (pbin (.int .i64) .eql x0 (I 12)) fun v51 =>
 Prg.ite (asBool v51) (
 ret (I 5)) (
 tv (pbin (.int .i64) .eql x0 (I 13)) fun v52 =>
 Prg.ite (asBool v52) (
 ret (I 3)) (
 ret (I 0))))))) (
 tv (pbin (.int .i64) .eql x0 (I 7)) fun v53 =>
 Prg.ite (asBool v53) (
 Prg.ite (asBool v53) (
 ret (I 15)) (
 tv (pbin (.int .i64) .eql x0 (I 10)) fun v54 =>
 Prg.ite (asBool v54) (
 ret (I 13)) (
 tv (pbin (.int .i64) .eql x0 (I 11)) fun v55 =>
 Prg.ite (asBool v55) (
 ret (I 35)) (
 tv (pbin (.int .i64) .eql x0 (I 12)) fun v56 =>
 Prg.ite (asBool v56) (
 ret (I 5)) (
 tv (pbin (.int .i64) .eql x0 (I 13)) fun v57 =>
 Prg.ite (asBool v57) (
 ret (I 3)) (
 ret (I 0))))))) (
 tv (pbin (.int .i64) .eql x0 (I 8)) fun v58 =>
 Prg.ite (asBool v58) (
 ret (I 15)) (
 tv (pbin (.int .i64) .eql x0 (I 10)) fun v59 =>
 Prg.ite (asBool v59) (
 ret (I 13)) (
 tv (pbin (.int .i64) .eql x0 (I 11)) fun v60 =>
 Prg.ite (asBool v60) (
 ret (I 35)) (
 tv (pbin (.int .i64) .eql x0 (I 12)) fun v61 =>
 Prg.ite (asBool v61) (
 ret (I 5)) (
 tv (pbin (.int .i64) .eql x0 (I 13)) fun v62 =>
 Prg.ite (asBool v62) (
 ret (I 3)) (
 ret (I 0))))))))))))))
theorem f83_MR (x0:TV):aR prog 83 [x0]=f83_M x0:=by kernel_rfl
def f84_M (x0 x1:TV):Prg TV :=
 tv (pbin (.int .i64) .and x0 x1) fun v0 =>
 tv (pbin (.int .i64) .neq v0 (I 0)) fun v1 =>
 ret v1
theorem f84_MR (x0 x1:TV):aR prog 84 [x0,x1]=f84_M x0 x1:=by kernel_rfl
def f85_0_S  (x0 x1 x2 y3 y4 y5 y6:TV):ASt:=⟨List.replicate 4 (AV.one CA.junk) ++ [AV.one (CA.ptr 0 0)] ++ List.replicate 35 (AV.one CA.junk) ++ [AV.tv x0,AV.tv x1,AV.tv x2] ++ List.replicate 8 (AV.one CA.junk),[some (BC.cells [CA.t y3,CA.t y4,CA.t y5,CA.t y6])] ++ List.replicate 74 (none),[]⟩
def f85_M (x0 x1 x2 x3:TV):Prg TV :=
 chk (TV.isAgg x0 4) (
 tv (pun .not x1) fun v0 =>
 Prg.ite (asBool v0) (
 tv (pbin (.int .i64) .eql x2 (I 0)) fun v1 =>
 Prg.ite (asBool v1) (
 tv (plen (.slice 3) x3) fun v2 =>
 tv (pbin (.int .i64) .eql v2 (I 0)) fun v3 =>
 ret v3) (
 ret (B false))) (
 tv (pbin (.int .i64) .lss x2 (I 0)) fun v4 =>
 Prg.ite (asBool v4) (
 ret (B false)) (
 tv (plen (.slice 53) (cell x0 0)) fun v5 =>
 tv (pbin (.int .i64) .geq x2 v5) fun v6 =>
 Prg.ite (asBool v6) (
 ret (B false)) (
 tv (plen (.slice 3) x3) fun v7 =>
 tvs (pidx 3 (cell x0 0) x2) fun e8 =>
 chk (Nat.blt 0 (List.length e8)) (
 tv (pbin (.int .i64) .neq v7 (nth hole e8 0)) fun v9 =>
 Prg.ite (asBool v9) (
 ret (B false)) (
 tv (plen (.slice 3) x3) fun v10 =>
 jmp [0,0,1,0,1,1,1] (f85_0_S x3 v10 (I 0) (cell x0 0) (cell x0 1) (cell x0 2) (cell x0 3))))))))
def f85_0  (x0 x1 x2 y3 y4 y5 y6:TV):Prg TV :=
 tv (pbin (.int .i64) .lss x2 x1) fun v11 =>
 Prg.ite (asBool v11) (
 tvs (pidx 1 x0 x2) fun e12 =>
 chk (Nat.blt 0 (List.length e12)) (
 call 81 [agg [y3,y4,y5,y6],B true,nth hole e12 0] fun v13 =>
 chk (ac aj [v13] 0) (
 tv (pun .not v13) fun v14 =>
 Prg.ite (asBool v14) (
 ret (B false)) (
 tv (pbin (.int .i64) .add x2 (I 1)) fun v15 =>
 jmp [0,0,1,0,1,1,1] (f85_0_S x0 x1 v15 y3 y4 y5 y6))))) (
 ret (B true))
theorem f85_MR (x0 x1 x2 x3:TV):aR prog 85 [x0,x1,x2,x3]=f85_M x0 x1 x2 x3:=by kernel_rfl
theorem f85_0_J  {x0 x1 x2 y3 y4 y5 y6:TV} {r:TV} (h:aa prog 85 (f85_0 x0 x1 x2 y3 y4 y5 y6) r):aa prog 85 (.jmp [0,0,1,0,1,1,1] (f85_0_S x0 x1 x2 y3 y4 y5 y6)) r:=aa.jmp (by kernel_rfl) h
def f86_M (x0:TV):Prg TV :=
 tv (pbin (.int .i64) .eql x0 (I 1)) fun v0 =>
 Prg.ite (asBool v0) (
 Prg.ite (asBool v0) (
 ret (I 5)) (
 tv (pbin (.int .i64) .eql x0 (I 2)) fun v1 =>
 Prg.ite (asBool v1) (
 ret (I 65)) (
 tv (pbin (.int .i64) .eql x0 (I 3)) fun v2 =>
 Prg.ite (asBool v2) (
 ret (I 197)) (
 tv (pbin (.int .i64) .eql x0 (I 4)) fun v3 =>
 Prg.ite (asBool v3) (
 ret (I 355)) (
 tv (pbin (.int .i64) .eql x0 (I 6)) fun v4 =>
 Prg.ite (asBool v4) (
 ret (I 1)) (
 ret (I 0))))))) (
 tv (pbin (.int .i64) .eql x0 (I 5)) fun v5 =>
 Prg.ite (asBool v5) (
 ret (I 5)) (
 tv (pbin (.int .i64) .eql x0 (I 2)) fun v6 =>
 Prg.ite (asBool v6) (
 ret (I 65)) (
 tv (pbin (.int .i64) .eql x0 (I 3)) fun v7 =>
 Prg.ite (asBool v7) (
 ret (I 197)) (
 tv (pbin (.int .i64) .eql x0 (I 4)) fun v8 =>
 Prg.ite (asBool v8) (
 ret (I 355)) (
 tv (pbin (.int .i64) .eql x0 (I 6)) fun v9 =>
 Prg.ite (asBool v9) (
 ret (I 1)) (
 ret (I 0)))))))
theorem f86_MR (x0:TV):aR prog 86 [x0]=f86_M x0:=by kernel_rfl
def f87_M (x0 x1 x2 x3:TV):Prg TV :=
 chk (TV.isAgg x0 4) (
 tv (pun .not x1) fun v0 =>
 Prg.ite (asBool v0) (
 tv (pbin (.int .i64) .eql x2 (I 0)) fun v1 =>
 ret v1) (
 tv (pbin (.int .i64) .leq (I 0) x2) fun v2 =>
 Prg.ite (asBool v2) (
 tv (plen (.slice 50) (cell x0 3)) fun v3 =>
 tv (pbin (.int .i64) .lss x2 v3) fun v4 =>
 Prg.ite (asBool v4) (
 tvs (pidx 14 (cell x0 3) x2) fun e5 =>
 chk (Nat.blt 0 (List.length e5)) (
 tv (pbin Kd.bool .eql (nth hole e5 0) x3) fun v6 =>
 ret v6)) (
 ret (B false))) (
 ret (B false))))
theorem f87_MR (x0 x1 x2 x3:TV):aR prog 87 [x0,x1,x2,x3]=f87_M x0 x1 x2 x3:=by kernel_rfl
def f90_0_S  (x0 x1 x2 x3:TV):ASt:=⟨[AV.tv x0,AV.tv x1] ++ List.replicate 5 (AV.one CA.junk) ++ [AV.tv x2,AV.tv x3] ++ List.replicate 10 (AV.one CA.junk),List.replicate 43 (none),[]⟩
def f90_M (x0 x1:TV):Prg TV :=
 tv (plen (.slice 35) x0) fun v0 =>
 jmp [0,0,1,0,1] (f90_0_S x0 x1 v0 (I 0))
def f90_0  (x0 x1 x2 x3:TV):Prg TV :=
 tv (pbin (.int .i64) .lss x3 x2) fun v1 =>
 Prg.ite (asBool v1) (
 tvs (pidx 1 x0 x3) fun e2 =>
 chk (Nat.blt 0 (List.length e2)) (
 tv (pbin (.int .u16) .eql x1 (nth hole e2 0)) fun v3 =>
 Prg.ite (asBool v3) (
 ret x3) (
 tv (pbin (.int .i64) .add x3 (I 1)) fun v4 =>
 jmp [0,0,1,0,1] (f90_0_S x0 x1 x2 v4)))) (
 ret (TV.lit (Value.int IntKind.i64 (-1))))
theorem f90_MR (x0 x1:TV):aR prog 90 [x0,x1]=f90_M x0 x1:=by kernel_rfl
theorem f90_0_J  {x0 x1 x2 x3:TV} {r:TV} (h:aa prog 90 (f90_0 x0 x1 x2 x3) r):aa prog 90 (.jmp [0,0,1,0,1] (f90_0_S x0 x1 x2 x3)) r:=aa.jmp (by kernel_rfl) h
end Go.Ab.T12
end
section
set_option maxRecDepth 10000
namespace Go.Ab
theorem RL.wI {α:Type} {q:Option Bool} {s:Nat} {R:List TV→α→Prop} {x:TV} {l:List α} (h:RL q s R x l) {k:IntKind} {n:Int} {a:α} (h0:0≤n) (hi:l[n.toNat]? = some a):∃ e,pidx s x (.lit (.int k n))=some e∧R e a:=by
 rcases h with ⟨rfl,rfl⟩ | ⟨o,xs,rfl,hq,h,_⟩
 ·simp at hi
 ·obtain ⟨e,he,hr⟩:=h.get hi
  exact ⟨e,by simp [pidx,he,h0],hr⟩
def within (n most:Int):Prop:=0≤n∧n < most
def eV (u:Bool) (regs n:Int):Prop:=(u=true→within n regs)∧(u=false→n=0)
def pP (fs:List DFunc) (regs n:Int) (l:List Int):Prop:=0≤n∧∃ g,fs[n.toNat]? = some g∧(l.length:Int)=g.params∧∀ i,i < l.length→∀ a,l[i]? = some a→within a regs
def i9 (u:Bool) (fs:List DFunc) (regs n:Int) (l:List Int):Prop:=(u=true→pP fs regs n l)∧(u=false→n=0∧l=[])
def fy (bs:List DBlock) (n:Int) (landing:Bool):Prop:=0≤n∧∃ b,bs[n.toNat]? = some b∧b.landing=landing
def iM (u:Bool) (bs:List DBlock) (n:Int) (landing:Bool):Prop:=(u=true→fy bs n landing)∧(u=false→n=0)
theorem aO {regs n:Int}:eV true regs n ↔ within n regs:=⟨fun h=>h.1 rfl,fun h=>⟨fun _=>h,fun h=>nomatch h⟩⟩
theorem aw {p:Prop}:tt p=false ↔ ¬ p:=⟨fun h hp=>(by rw [d9 hp] at h; exact Bool.noConfusion h),fun h=>lu h⟩
end Go.Ab
namespace Go.Ab.T12
open Go Go.Ab Go.Proofs
def iu (op:Int):Int :=
 if op=1 then 19 else if op=2 then 7 else if op=9 then 7 else if op=3 then 15 else if op=4 then 15 else if op=5 then 15 else if op=6 then 15 else if op=7 then 15 else if op=8 then 15 else if op=10 then 13 else if op=11 then 35 else if op=12 then 5 else if op=13 then 3 else 0
def dp (k:Int):Int :=
 if k=1 then 5 else if k=5 then 5 else if k=2 then 65 else if k=3 then 197 else if k=4 then 355 else if k=6 then 1 else 0
def has (u f:Int):Bool:=decide (¬ IntKind.i64.wrap ((BitVec.ofInt 64 u &&& BitVec.ofInt 64 f).toNat:Int)=0)
theorem r25 (u f:Int):aG prog 84 [I u,I f] (B (has u f)):=by
 refine aG.of (f84_MR _ _) ?_
 unfold f84_M
 repeat' (first
  | refine aa.chk rfl ?_
  | refine aa.tv rfl ?_
  | refine aa.tv (RL.len (by assumption)) ?_
  | refine aa.nat rfl ?_
  | refine aa.ite rfl (fun _=>?_) (fun _=>?_)
  | refine aa.call (by assumption) ?_
  | refine aa.tvs (by assumption) ?_)
 refine nP.2 ?_
 simp [has]
 rfl
theorem r24 (k:Int):aG prog 86 [I k] (I (dp k)):=by
 refine aG.of (f86_MR _) ?_
 unfold f86_M
 repeat' (first
  | refine aa.chk rfl ?_
  | refine aa.tv rfl ?_
  | refine aa.tv (RL.len (by assumption)) ?_
  | refine aa.nat rfl ?_
  | refine aa.ite rfl (fun _=>?_) (fun _=>?_)
  | refine aa.call (by assumption) ?_
  | refine aa.tvs (by assumption) ?_)
 all_goals (refine nP.2 ?_; simp_all [dp])
theorem r49 (k:Int):aG prog 83 [I k] (I (iu k)):=by
 refine aG.of (f83_MR _) ?_
 unfold f83_M
 repeat' (first
  | refine aa.chk rfl ?_
  | refine aa.tv rfl ?_
  | refine aa.tv (RL.len (by assumption)) ?_
  | refine aa.nat rfl ?_
  | refine aa.ite rfl (fun _=>?_) (fun _=>?_)
  | refine aa.call (by assumption) ?_
  | refine aa.tvs (by assumption) ?_)
 all_goals (refine nP.2 ?_; simp_all [iu])
theorem r35 (n m:Int):aG prog 54 [I n,I m] (B (tt (within n m))):=by
 refine aG.of (f54_MR _ _) ?_
 unfold f54_M
 repeat' (first
  | refine aa.chk rfl ?_
  | refine aa.tv rfl ?_
  | refine aa.tv (RL.len (by assumption)) ?_
  | refine aa.nat rfl ?_
  | refine aa.ite rfl (fun _=>?_) (fun _=>?_)
  | refine aa.call (by assumption) ?_
  | refine aa.tvs (by assumption) ?_)
 all_goals (apply aL; simp_all [within] <;> omega)
theorem r47 {fs bs:TV} {p regs n:Int} {u:Bool}:aG prog 81 [.agg [fs,I p,I regs,bs],B u,I n] (B (tt (eV u regs n))):=by
  cases u
  · refine aG.of (f81_MR _ _ _) ?_
    unfold f81_M
    repeat' (first
      | refine aa.chk rfl ?_
      | refine aa.tv rfl ?_
      | refine aa.tv (RL.len (by assumption)) ?_
      | refine aa.nat rfl ?_
      | refine aa.ite (v:=true) rfl (fun _=>?_) (fun h=>nomatch h)
      | refine aa.ite (v:=false) rfl (fun h=>nomatch h) (fun _=>?_)
      | refine aa.ite rfl (fun _=>?_) (fun _=>?_)
      | refine aa.call (by assumption) ?_
      | refine aa.tvs (by assumption) ?_
       )
    all_goals (apply aL; simp_all [eV])
  · refine aG.of (f81_MR _ _ _) ?_
    unfold f81_M
    repeat' (first
      | refine aa.chk rfl ?_
      | refine aa.tv rfl ?_
      | refine aa.tv (RL.len (by assumption)) ?_
      | refine aa.nat rfl ?_
      | refine aa.ite (v:=true) rfl (fun _=>?_) (fun h=>nomatch h)
      | refine aa.ite (v:=false) rfl (fun h=>nomatch h) (fun _=>?_)
      | refine aa.ite rfl (fun _=>?_) (fun _=>?_)
      | refine aa.call (by assumption) ?_
      | refine aa.tvs (by assumption) ?_
       )
    all_goals (apply aL; simp_all [eV,within] <;> omega)
theorem r50 {q q' : Option Bool} {x bs g : TV} {fs : List DFunc} {p regs n : Int} {u : Bool} {l : List Int} (hx : RL q 3 (RFunc q) x fs) (hg : RInts q' g l) : aG prog 85 [.agg [x, I p, I regs, bs], B u, I n, g] (B (tt (i9 u fs regs n l))) := by
  cases u
  · refine aG.of (f85_MR _ _ _ _) ?_
    unfold f85_M
    repeat' (first
      | refine aa.chk rfl ?_
      | refine aa.tv rfl ?_
      | refine aa.tv (RL.len (by assumption)) ?_
      | refine aa.nat rfl ?_
      | refine aa.ite (v:=true) rfl (fun _=>?_) (fun h=>nomatch h)
      | refine aa.ite (v:=false) rfl (fun h=>nomatch h) (fun _=>?_)
      | refine aa.ite rfl (fun _=>?_) (fun _=>?_)
      | refine aa.call (by assumption) ?_
      | refine aa.tvs (by assumption) ?_
       )
    all_goals (apply aL; simp_all [i9])
  · rw [show tt (i9 true fs regs n l) = tt (pP fs regs n l) from bU ⟨fun h => h.1 rfl, fun h => ⟨fun _ => h, fun h => nomatch h⟩⟩]
    refine aG.of (f85_MR _ _ _ _) ?_
    unfold f85_M
    refine aa.chk rfl (aa.tv rfl (aa.ite rfl (fun h=>nomatch h) fun _=>aa.tv rfl (aa.ite rfl (fun h=>?_) fun h=>?_)))
    · simp at h
      exact aP fun h'=>by have:=h'.1; omega
    · have h0 : 0 ≤ n := by simpa using h
      refine aa.tv hx.len (aa.tv rfl (aa.ite rfl (fun h=>?_) fun h=>?_))
      · simp at h
        refine aP ?_
        rintro ⟨_,f,hf,_⟩
        have:=(C6.1 hf).1
        omega
      · simp at h
        have hlt:n.toNat < fs.length:=by omega
        have hf:fs[n.toNat]? = some fs[n.toNat]:=C7 hlt
        obtain ⟨e,he,hr⟩:=hx.wI (k:=.i64) h0 hf
        obtain ⟨b,rfl,_⟩:=hr
        refine aa.tv hg.len (aa.tvs he (aa.chk rfl (aa.tv rfl (aa.ite rfl (fun h=>?_) fun h=>?_))))
        · refine aP ?_
          rintro ⟨_,f,hf',hl,_⟩
          rw [hf] at hf'
          simp at hf' h
          subst hf'
          exact h hl
        · simp at h
          refine aa.tv hg.len (f85_0_J ?_)
          have hp:pP fs regs n l ↔ ∀ i,i < l.length→∀ a,l[i]? = some a→within a regs:=by
            refine ⟨fun ⟨_,f,hf',hl,ha⟩=>ha,fun ha=>⟨h0,_,hf,h,ha⟩⟩
          rw [bU hp]
          refine ia (g:=fun k=>f85_0 g (I l.length) (I k) x (I p) (I regs) bs) ?_ ?_
          · unfold f85_0
            refine aa.tv rfl (aa.ite bg (fun h=>nomatch h) fun _=>?_)
            exact aa.ret
          · intro k hk r h1 h2
            have ha:l[k]? = some l[k]:=C7 hk
            obtain ⟨e,he,rfl,_⟩:=hg.idx (k:=.i64) ha
            unfold f85_0
            refine aa.tv rfl (aa.ite (br hk) (fun _=>?_) fun h=>nomatch h)
            refine aa.tvs he (aa.chk rfl (aa.call r47 (aa.chk rfl (aa.tv rfl (aa.ite rfl (fun h=>?_) fun h=>?_)))))
            · rw [h1 (by simp [ha]; simpa [aB,aw,aO] using h)]; exact aa.ret
            · refine aa.tv (inc hk hg.bnd) (f85_0_J (h2 ?_))
              simp [ha]; simpa [aB,aw,aO] using h
theorem r51 {q : Option Bool} {fs x : TV} {bs : List DBlock} {p regs n : Int} {u landing : Bool} (hx : RL q 14 (RBlock q) x bs) : aG prog 87 [.agg [fs, I p, I regs, x], B u, I n, B landing] (B (tt (iM u bs n landing))) := by
  cases u
  · refine aG.of (f87_MR _ _ _ _) ?_
    unfold f87_M
    repeat' (first
      | refine aa.chk rfl ?_
      | refine aa.tv rfl ?_
      | refine aa.tv (RL.len (by assumption)) ?_
      | refine aa.nat rfl ?_
      | refine aa.ite (v:=true) rfl (fun _=>?_) (fun h=>nomatch h)
      | refine aa.ite (v:=false) rfl (fun h=>nomatch h) (fun _=>?_)
      | refine aa.ite rfl (fun _=>?_) (fun _=>?_)
      | refine aa.call (by assumption) ?_
      | refine aa.tvs (by assumption) ?_
       )
    all_goals (apply aL; simp_all [iM])
  · rw [show tt (iM true bs n landing) = tt (fy bs n landing) from bU ⟨fun h => h.1 rfl, fun h => ⟨fun _ => h, fun h => nomatch h⟩⟩]
    refine aG.of (f87_MR _ _ _ _) ?_
    unfold f87_M
    refine aa.chk rfl (aa.tv rfl (aa.ite rfl (fun h=>nomatch h) fun _=>aa.tv rfl (aa.ite rfl (fun h=>?_) fun h=>?_)))
    · have h0 : 0 ≤ n := by simpa using h
      refine aa.tv hx.len (aa.tv rfl (aa.ite rfl (fun h=>?_) fun h=>?_))
      · simp at h
        have hlt:n.toNat < bs.length:=by omega
        have hf:bs[n.toNat]? = some bs[n.toNat]:=C7 hlt
        obtain ⟨e,he,hr⟩:=hx.wI (k:=.i64) h0 hf
        obtain ⟨c,i,g,rfl,_⟩:=hr
        refine aa.tvs he (aa.chk rfl (aa.tv rfl ?_))
        apply aL
        simp [fy,h0,hf]
      · simp at h
        refine aP ?_
        rintro ⟨_,f,hf,_⟩
        have:=(C6.1 hf).1
        omega
    · simp at h
      exact aP fun h'=>by have:=h'.1; omega
def sO (fs:List DFunc) (regs:Int) (x:DIns):Prop :=
 has (iu x.op) 1=true∧eV (has (iu x.op) 2) regs x.dst∧eV (has (iu x.op) 4) regs x.a∧eV (has (iu x.op) 8) regs x.b∧(has (iu x.op) 16=true∨x.k=0)∧i9 (has (iu x.op) 32) fs regs x.f x.args
theorem r33 {q q':Option Bool} {x bs:TV} {e:List TV} {fs:List DFunc} {p regs:Int} {a:DIns} (hx:RL q 3 (RFunc q) x fs) (he:RIns q' e a):aG prog 77 [.agg [x,I p,I regs,bs],.agg e] (B (tt (sO fs regs a))):=by
 obtain ⟨g,rfl,hg,_⟩:=he
 have h49:=r49 a.op
 have h50:∀ {u:Bool} {n:Int},aG prog 85 [.agg [x,I p,I regs,bs],B u,I n,g] (B (tt (i9 u fs regs n a.args))):=r50 hx hg
 refine aG.of (f77_MR _ _) ?_
 unfold f77_M
 repeat' (first
  | refine aa.chk rfl ?_
  | refine aa.tv rfl ?_
  | refine aa.tv (RL.len (by assumption)) ?_
  | refine aa.nat rfl ?_
  | refine aa.ite (v:=true) rfl (fun _=>?_) (fun h=>nomatch h)
  | refine aa.ite (v:=false) rfl (fun h=>nomatch h) (fun _=>?_)
  | refine aa.ite rfl (fun _=>?_) (fun _=>?_)
  | refine aa.call (by assumption) ?_
  | refine aa.tvs (by assumption) ?_
  | refine aa.call (r25 _ _) ?_ | refine aa.call r47 ?_ | refine aa.call h50 ?_)
 all_goals (apply aL; simp_all [sO,aB,aw])
def rC (fs:List DFunc) (regs:Int) (bs:List DBlock) (x:DEnd):Prop :=
 has (dp x.kind) 1=true∧eV (has (dp x.kind) 4) regs x.a∧eV (has (dp x.kind) 2) regs x.dst∧i9 (has (dp x.kind) 32) fs regs x.f x.args ∧
  iM (has (dp x.kind) 64) bs x.to false∧iM (has (dp x.kind) 128) bs x.els false∧iM (has (dp x.kind) 256) bs x.pad true
theorem r34 {q q' q2:Option Bool} {x y:TV} {e:List TV} {fs:List DFunc} {bs:List DBlock} {p regs:Int} {a:DEnd} (hx:RL q 3 (RFunc q) x fs) (hy:RL q2 14 (RBlock q2) y bs) (he:REnd q' e a):aG prog 78 [.agg [x,I p,I regs,y],.agg e] (B (tt (rC fs regs bs a))):=by
 obtain ⟨g,rfl,hg,_⟩:=he
 have h24:=r24 a.kind
 have h50:∀ {u:Bool} {n:Int},aG prog 85 [.agg [x,I p,I regs,y],B u,I n,g] (B (tt (i9 u fs regs n a.args))):=r50 hx hg
 have h51:∀ {u landing:Bool} {n:Int},aG prog 87 [.agg [x,I p,I regs,y],B u,I n,B landing] (B (tt (iM u bs n landing))):=r51 hy
 refine aG.of (f78_MR _ _) ?_
 unfold f78_M
 repeat' (first
  | refine aa.chk rfl ?_
  | refine aa.tv rfl ?_
  | refine aa.tv (RL.len (by assumption)) ?_
  | refine aa.nat rfl ?_
  | refine aa.ite (v:=true) rfl (fun _=>?_) (fun h=>nomatch h)
  | refine aa.ite (v:=false) rfl (fun h=>nomatch h) (fun _=>?_)
  | refine aa.ite rfl (fun _=>?_) (fun _=>?_)
  | refine aa.call (by assumption) ?_
  | refine aa.tvs (by assumption) ?_
  | refine aa.call (r25 _ _) ?_ | refine aa.call r47 ?_ | refine aa.call h50 ?_ | refine aa.call h51 ?_)
 all_goals (apply aL; simp_all [rC,aB,aw])
end Go.Ab.T12
end

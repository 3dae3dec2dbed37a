import Derived.Test.YtaokcbfenabbgaaGreatDoorGF1
import Derived.Test.YtaokcbfenabbgaaGreatDoorGZ12Xb
set_option linter.all false
section
set_option maxRecDepth 100000
namespace Go.Ab.Z12
open Go Go.Ab Go.Proofs
open Go.Ab.TV (hole cell comp isSl isSc isTup cellsL tup agg)
open Go.Ab.Prg (tv tvs rws nat chk call jmp ret)
def f41_M (c0 c1 x1:TV):Prg TV :=
 chk (Bool.and (isSl c0) (Bool.and (isSc c1) true)) (
 call 40 [x1,TV.lit (Value.string (ByteArray.mk (Array.mk [(32:UInt8)])))] fun v0 =>
 chk (isTup v0 3) (
 chk (ab cp [comp v0 0] 0) (
 chk (ab cp [comp v0 1] 0) (
 chk (ab aM [comp v0 2] 0) (
 call 55 [comp v0 0] fun v1 =>
 chk (ab bF [v1] 0) (
 call 56 [v1,c1] fun v2 =>
 chk (ab aM [v2] 0) (
 tv (pun .not v2) fun v3 =>
 Prg.ite (asBool v3) (
 ret (tup [I 4,tup [c0,c1]])) (
 chk (Bool.and (isSl c0) (Bool.and (isSc c1) true)) (
 call 57 [tup [c0,c1],v1,x1] fun v4 =>
 chk (Bool.and (Bool.and (isTup v4 2) (isTup (comp v4 1) 2)) (Bool.and (isSl (comp (comp v4 1) 0)) (Bool.and (isSc (comp (comp v4 1) 1)) true))) (
 chk (ab aM [comp v4 0] 0) (
 tv (pun .not (comp v4 0)) fun v5 =>
 Prg.ite (asBool v5) (
 ret (tup [I 2,tup [comp (comp v4 1) 0,comp (comp v4 1) 1]])) (
 ret (tup [I 0,tup [comp (comp v4 1) 0,v1]])))))))))))))
theorem f41_MR (c0 c1 x1:TV):aB prog 41 [tup [c0,c1],x1]=f41_M c0 c1 x1:=by kernel_rfl
def f42_M (x0:TV):Prg TV :=
 tv (pbin (.int .i64) .eql x0 (I 5)) fun v0 =>
 ret v0
theorem f42_MR (x0:TV):aB prog 42 [x0]=f42_M x0:=by kernel_rfl
def f43_0_S  (x0 y1 y2 y3 y4 y5 y6:TV):ASt:=⟨[Jk,Jk,Pt 0,Pt 1,Jk,AV.tv x0] ++ Rj 90,[some (BC.cells [CA.t y1,CA.t y2,CA.t y3]),some (BC.cells [CA.t y4,CA.t y5,CA.t y6])] ++ Rz 118,[]⟩
def f43_1_S  (x0 x1 y2 y3 y4 y5 y6 y7 y8 y9 y10 y11 y12 y13 y14 y15 y16 y17 y18 y19 y20 y21 y22 y23 y24 y25 y26 y27 y28 y29 y30 y31 y32 y33 y34 y35:TV):ASt:=⟨[Jk,Jk,Pt 0,Pt 1,Jk,AV.tv x0,Pt 2,Pt 3,AV.tv x1] ++ Rj 87,[some (BC.cells [CA.t y2,CA.t y3,CA.t y4]),some (BC.cells [CA.t y5,CA.t y6,CA.t y7]),some (BC.cells [CA.t y8,CA.t y9,CA.t y10,CA.t y11,CA.t y12,CA.t y13,CA.t y14,CA.t y15,CA.t y16,CA.t y17,CA.t y18,CA.t y19,CA.t y20,CA.t y21]),some (BC.cells [CA.t y22,CA.t y23,CA.t y24,CA.t y25,CA.t y26,CA.t y27,CA.t y28,CA.t y29,CA.t y30,CA.t y31,CA.t y32,CA.t y33,CA.t y34,CA.t y35])] ++ Rz 116,[]⟩
def f43_M (x0 x1:TV):Prg TV :=
 chk (TV.isAgg x0 3) (
 chk (TV.isAgg x1 3) (
 tv (pbin (.int .i64) .neq (cell x0 0) (cell x1 0)) fun v0 =>
 Prg.ite (asBool v0) (
 ret (B false)) (
 tv (pbin (.int .i64) .neq (cell x0 1) (cell x1 1)) fun v1 =>
 Prg.ite (asBool v1) (
 ret (B false)) (
 tv (plen (.slice 58) (cell x0 2)) fun v2 =>
 tv (plen (.slice 58) (cell x1 2)) fun v3 =>
 tv (pbin (.int .i64) .neq v2 v3) fun v4 =>
 Prg.ite (asBool v4) (
 ret (B false)) (
 jmp [0,0,1,0,1,1] (f43_0_S (I 0) (cell x0 0) (cell x0 1) (cell x0 2) (cell x1 0) (cell x1 1) (cell x1 2)))))))
def f43_0  (x0 y1 y2 y3 y4 y5 y6:TV):Prg TV :=
 tv (plen (.slice 58) y3) fun v5 =>
 tv (pbin (.int .i64) .lss x0 v5) fun v6 =>
 Prg.ite (asBool v6) (
 tvs (pidx 14 y3 x0) fun e7 =>
 chk (Nat.ble 14 (List.length e7)) (
 tvs (pidx 14 y6 x0) fun e8 =>
 chk (Nat.ble 14 (List.length e8)) (
 tv (pbin Kd.bool .neq (nth hole e7 0) (nth hole e8 0)) fun v9 =>
 Prg.ite (asBool v9) (
 ret (B false)) (
 call 14 [agg [nth hole e7 1,nth hole e7 2,nth hole e7 3,nth hole e7 4],agg [nth hole e8 1,nth hole e8 2,nth hole e8 3,nth hole e8 4]] fun v10 =>
 chk (ab aM [v10] 0) (
 tv (pun .not v10) fun v11 =>
 Prg.ite (asBool v11) (
 ret (B false)) (
 call 13 [agg [nth hole e7 6,nth hole e7 7,nth hole e7 8,nth hole e7 9,nth hole e7 10,nth hole e7 11,nth hole e7 12,nth hole e7 13],agg [nth hole e8 6,nth hole e8 7,nth hole e8 8,nth hole e8 9,nth hole e8 10,nth hole e8 11,nth hole e8 12,nth hole e8 13]] fun v12 =>
 chk (ab aM [v12] 0) (
 tv (pun .not v12) fun v13 =>
 Prg.ite (asBool v13) (
 ret (B false)) (
 tv (plen (.slice 26) (nth hole e7 5)) fun v14 =>
 tv (plen (.slice 26) (nth hole e8 5)) fun v15 =>
 tv (pbin (.int .i64) .neq v14 v15) fun v16 =>
 Prg.ite (asBool v16) (
 ret (B false)) (
 jmp [0,0,1,1,1,0,0,1,0,0,1,0,1,1] (f43_1_S x0 (I 0) y1 y2 y3 y4 y5 y6 (nth hole e7 0) (nth hole e7 1) (nth hole e7 2) (nth hole e7 3) (nth hole e7 4) (nth hole e7 5) (nth hole e7 6) (nth hole e7 7) (nth hole e7 8) (nth hole e7 9) (nth hole e7 10) (nth hole e7 11) (nth hole e7 12) (nth hole e7 13) (nth hole e8 0) (nth hole e8 1) (nth hole e8 2) (nth hole e8 3) (nth hole e8 4) (nth hole e8 5) (nth hole e8 6) (nth hole e8 7) (nth hole e8 8) (nth hole e8 9) (nth hole e8 10) (nth hole e8 11) (nth hole e8 12) (nth hole e8 13))))))))))) (
 ret (B true))
def f43_1  (x0 x1 y2 y3 y4 y5 y6 y7 y8 y9 y10 y11 y12 y13 y14 y15 y16 y17 y18 y19 y20 y21 y22 y23 y24 y25 y26 y27 y28 y29 y30 y31 y32 y33 y34 y35:TV):Prg TV :=
 tv (plen (.slice 26) y13) fun v17 =>
 tv (pbin (.int .i64) .lss x1 v17) fun v18 =>
 Prg.ite (asBool v18) (
 tvs (pidx 7 y13 x1) fun e19 =>
 chk (Nat.ble 7 (List.length e19)) (
 tvs (pidx 7 y27 x1) fun e20 =>
 chk (Nat.ble 7 (List.length e20)) (
 call 12 [agg [nth hole e19 0,nth hole e19 1,nth hole e19 2,nth hole e19 3,nth hole e19 4,nth hole e19 5,nth hole e19 6],agg [nth hole e20 0,nth hole e20 1,nth hole e20 2,nth hole e20 3,nth hole e20 4,nth hole e20 5,nth hole e20 6]] fun v21 =>
 chk (ab aM [v21] 0) (
 tv (pun .not v21) fun v22 =>
 Prg.ite (asBool v22) (
 ret (B false)) (
 tv (pbin (.int .i64) .add x1 (I 1)) fun v23 =>
 jmp [0,0,1,1,1,0,0,1,0,0,1,0,1,1] (f43_1_S x0 v23 y2 y3 y4 y5 y6 y7 y8 y9 y10 y11 y12 y13 y14 y15 y16 y17 y18 y19 y20 y21 y22 y23 y24 y25 y26 y27 y28 y29 y30 y31 y32 y33 y34 y35)))))) (
 tv (pbin (.int .i64) .add x0 (I 1)) fun v24 =>
 jmp [0,0,1,0,1,1] (f43_0_S v24 y2 y3 y4 y5 y6 y7))
theorem f43_MR (x0 x1:TV):aB prog 43 [x0,x1]=f43_M x0 x1:=by kernel_rfl
theorem f43_0_J  {x0 y1 y2 y3 y4 y5 y6:TV} {r:TV} (h:aa prog 43 (f43_0 x0 y1 y2 y3 y4 y5 y6) r):aa prog 43 (.jmp [0,0,1,0,1,1] (f43_0_S x0 y1 y2 y3 y4 y5 y6)) r:=aa.jmp (by kernel_rfl) h
theorem f43_1_J  {x0 x1 y2 y3 y4 y5 y6 y7 y8 y9 y10 y11 y12 y13 y14 y15 y16 y17 y18 y19 y20 y21 y22 y23 y24 y25 y26 y27 y28 y29 y30 y31 y32 y33 y34 y35:TV} {r:TV} (h:aa prog 43 (f43_1 x0 x1 y2 y3 y4 y5 y6 y7 y8 y9 y10 y11 y12 y13 y14 y15 y16 y17 y18 y19 y20 y21 y22 y23 y24 y25 y26 y27 y28 y29 y30 y31 y32 y33 y34 y35) r):aa prog 43 (.jmp [0,0,1,1,1,0,0,1,0,0,1,0,1,1] (f43_1_S x0 x1 y2 y3 y4 y5 y6 y7 y8 y9 y10 y11 y12 y13 y14 y15 y16 y17 y18 y19 y20 y21 y22 y23 y24 y25 y26 y27 y28 y29 y30 y31 y32 y33 y34 y35)) r:=aa.jmp (by kernel_rfl) h
def f46_M (x0 x1:TV):Prg TV :=
 tv (plen (.slice 3) x1) fun v0 =>
 tv (plen (.slice 3) x0) fun v1 =>
 tv (pbin (.int .i64) .add v0 v1) fun v2 =>
 nat (aR (I 0)) fun n3 =>
 nat (aR v2) fun n4 =>
 chk (Bool.and (Nat.ble n3 n4) (Nat.ble n4 4294967296)) (
 rws (pelems 1 x1) fun r5 =>
 tv (papp 1 (TV.sl true 1 (List.replicate n3 [I 0])) r5) fun v6 =>
 rws (pelems 1 x0) fun r7 =>
 tv (papp 1 v6 r7) fun v8 =>
 chk (aI v8) (
 ret v8))
theorem f46_MR (x0 x1:TV):aB prog 46 [x0,x1]=f46_M x0 x1:=by kernel_rfl
def f49_0_S  (x0 x1 x2 w3:TV):ASt:=⟨[Jk,Jk,Jk,Sr 0] ++ Rj 5 ++ [AV.tv x0,AV.tv x1,AV.tv x2] ++ Rj 11,[Tr w3] ++ Rz 46,[]⟩
def f49_M (x0:TV):Prg TV :=
 tv (plen (.slice 23) x0) fun v0 =>
 nat (aR v0) fun n1 =>
 nat (aR v0) fun n2 =>
 chk (Bool.and (Nat.ble n1 n2) (Nat.ble n2 4294967296)) (
 tv (plen (.slice 23) x0) fun v3 =>
 jmp [0,0,1,0,1,1] (f49_0_S x0 v3 (I 0) (TV.sl true 1 (List.replicate n1 [I 0]))))
def f49_0  (x0 x1 x2 w3:TV):Prg TV :=
 tv (pbin (.int .i64) .lss x2 x1) fun v4 =>
 Prg.ite (asBool v4) (
 tvs (pidx 1 x0 x2) fun e5 =>
 chk (Nat.blt 0 (List.length e5)) (
 tv (pconv (.int .i64) (nth hole e5 0)) fun v6 =>
 nat (slLen w3) fun n7 =>
 nat (aR x2) fun n8 =>
 chk (Bool.and (slSize w3 1) (Nat.blt n8 n7)) (
 tvs (pel w3 n8) fun e9 =>
 chk (ab bF e9 0) (
 tv (nh [] w3 n8 0 [v6]) fun v10 =>
 tv (pbin (.int .i64) .add x2 (I 1)) fun v11 =>
 jmp [0,0,1,0,1,1] (f49_0_S x0 x1 v11 v10))))) (
 chk (aI w3) (
 ret w3))
theorem f49_MR (x0:TV):aB prog 49 [x0]=f49_M x0:=by kernel_rfl
theorem f49_0_J  {x0 x1 x2 w3:TV} {r:TV} (h:aa prog 49 (f49_0 x0 x1 x2 w3) r):aa prog 49 (.jmp [0,0,1,0,1,1] (f49_0_S x0 x1 x2 w3)) r:=aa.jmp (by kernel_rfl) h
def f50_0_S  (x0 x1 x2 y3 y4 y5 y6:TV):ASt:=⟨Rj 5 ++ [Pt 0] ++ Rj 44 ++ [AV.tv x0,AV.tv x1,AV.tv x2] ++ Rj 8,[some (BC.cells [CA.t y3,CA.t y4,CA.t y5,CA.t y6])] ++ Rz 84,[]⟩
def f50_M (x0 x1:TV):Prg TV :=
 chk (TV.isAgg x0 1) (
 chk (TV.isAgg x1 3) (
 tv (pbin (.int .i64) .lss (cell x1 0) (I 0)) fun v0 =>
 Prg.ite (asBool v0) (
 ret (B false)) (
 tv (pbin (.int .i64) .gtr (cell x1 0) (I 8)) fun v1 =>
 Prg.ite (asBool v1) (
 ret (B false)) (
 tv (pbin (.int .i64) .lss (cell x1 1) (cell x1 0)) fun v2 =>
 Prg.ite (asBool v2) (
 ret (B false)) (
 tv (pbin (.int .i64) .gtr (cell x1 1) (I 256)) fun v3 =>
 Prg.ite (asBool v3) (
 ret (B false)) (
 tv (plen (.slice 58) (cell x1 2)) fun v4 =>
 tv (pbin (.int .i64) .lss v4 (I 1)) fun v5 =>
 Prg.ite (asBool v5) (
 ret (B false)) (
 tv (plen (.slice 58) (cell x1 2)) fun v6 =>
 tv (pbin (.int .i64) .gtr v6 (I 64)) fun v7 =>
 Prg.ite (asBool v7) (
 ret (B false)) (
 tvs (pidx 14 (cell x1 2) (I 0)) fun e8 =>
 chk (Nat.blt 0 (List.length e8)) (
 Prg.ite (asBool (nth hole e8 0)) (
 ret (B false)) (
 tv (plen (.slice 58) (cell x1 2)) fun v9 =>
 jmp [0,0,1,0,1,1,1,1] (f50_0_S (cell x1 2) v9 (I 0) (cell x0 0) (cell x1 0) (cell x1 1) (cell x1 2))))))))))))
def f50_0  (x0 x1 x2 y3 y4 y5 y6:TV):Prg TV :=
 tv (pbin (.int .i64) .lss x2 x1) fun v10 =>
 Prg.ite (asBool v10) (
 tvs (pidx 14 x0 x2) fun e11 =>
 chk (Nat.ble 14 (List.length e11)) (
 call 60 [agg [y3,y4,y5,y6],agg [nth hole e11 0,nth hole e11 1,nth hole e11 2,nth hole e11 3,nth hole e11 4,nth hole e11 5,nth hole e11 6,nth hole e11 7,nth hole e11 8,nth hole e11 9,nth hole e11 10,nth hole e11 11,nth hole e11 12,nth hole e11 13]] fun v12 =>
 chk (ab aM [v12] 0) (
 tv (pun .not v12) fun v13 =>
 Prg.ite (asBool v13) (
 ret (B false)) (
 tv (pbin (.int .i64) .add x2 (I 1)) fun v14 =>
 jmp [0,0,1,0,1,1,1,1] (f50_0_S x0 x1 v14 y3 y4 y5 y6))))) (
 ret (B true))
theorem f50_MR (x0 x1:TV):aB prog 50 [x0,x1]=f50_M x0 x1:=by kernel_rfl
theorem f50_0_J  {x0 x1 x2 y3 y4 y5 y6:TV} {r:TV} (h:aa prog 50 (f50_0 x0 x1 x2 y3 y4 y5 y6) r):aa prog 50 (.jmp [0,0,1,0,1,1,1,1] (f50_0_S x0 x1 x2 y3 y4 y5 y6)) r:=aa.jmp (by kernel_rfl) h
def f55_M (x0:TV):Prg TV :=
 tv (pbin Kd.str .eql x0 (TV.lit (Value.string (ByteArray.mk (Array.mk [(102:UInt8),(117:UInt8),(110:UInt8),(99:UInt8)]))))) fun v0 =>
 Prg.ite (asBool v0) (
 ret (I 1)) (
 tv (pbin Kd.str .eql x0 (TV.lit (Value.string (ByteArray.mk (Array.mk [(98:UInt8),(108:UInt8),(111:UInt8),(99:UInt8),(107:UInt8)]))))) fun v1 =>
 Prg.ite (asBool v1) (
 ret (I 2)) (
 tv (pbin Kd.str .eql x0 (TV.lit (Value.string (ByteArray.mk (Array.mk [(112:UInt8),(97:UInt8),(100:UInt8)]))))) fun v2 =>
 Prg.ite (asBool v2) (
 ret (I 3)) (
 call 21 [x0] fun v3 =>
 chk (ab bF [v3] 0) (
 tv (pbin (.int .i64) .neq v3 (I 0)) fun v4 =>
 Prg.ite (asBool v4) (
 ret (I 4)) (
 call 27 [x0] fun v5 =>
 chk (ab bF [v5] 0) (
 tv (pbin (.int .i64) .neq v5 (I 0)) fun v6 =>
 Prg.ite (asBool v6) (
 ret (I 5)) (
 ret (I 0))))))))
theorem f55_MR (x0:TV):aB prog 55 [x0]=f55_M x0:=by kernel_rfl
def f56_0_S  (x0 x1 x2:TV):ASt:=⟨[Jk,AV.tv x0,Jk,Jk,Jk,AV.tv x1] ++ Rj 8 ++ [AV.tv x2] ++ Rj 21,Rz 60,[]⟩
def f56_1_S  (x0 x1:TV):ASt:=⟨[Jk,AV.tv x0] ++ Rj 21 ++ [AV.tv x1] ++ Rj 12,Rz 60,[]⟩
def f56_M (x0 x1:TV):Prg TV :=
 tv (pbin (.int .i64) .eql x0 (I 1)) fun v0 =>
 Prg.ite (asBool v0) (
 tv (pbin (.int .i64) .eql x1 (I 0)) fun v1 =>
 Prg.ite (asBool v1) (
 ret (B true)) (
 tv (pbin (.int .i64) .eql x1 (I 5)) fun v2 =>
 ret v2)) (
 tv (pbin (.int .i64) .eql x0 (I 2)) fun v3 =>
 Prg.ite (asBool v3) (
 jmp [1,1,1,0,1,0,1] (f56_0_S x1 x0 v3)) (
 tv (pbin (.int .i64) .eql x0 (I 3)) fun v4 =>
 jmp [1,1,1,0,1,0,1] (f56_0_S x1 x0 v4)))
def f56_0  (x0 x1 x2:TV):Prg TV :=
 Prg.ite (asBool x2) (
 tv (pbin (.int .i64) .eql x0 (I 1)) fun v5 =>
 Prg.ite (asBool v5) (
 ret (B true)) (
 tv (pbin (.int .i64) .eql x0 (I 5)) fun v6 =>
 ret v6)) (
 tv (pbin (.int .i64) .eql x1 (I 4)) fun v7 =>
 Prg.ite (asBool v7) (
 jmp [1,1,1,1,1,0,1,0,1] (f56_1_S x0 v7)) (
 tv (pbin (.int .i64) .eql x1 (I 5)) fun v8 =>
 jmp [1,1,1,1,1,0,1,0,1] (f56_1_S x0 v8)))
def f56_1  (x0 x1:TV):Prg TV :=
 Prg.ite (asBool x1) (
 tv (pbin (.int .i64) .eql x0 (I 2)) fun v9 =>
 Prg.ite (asBool v9) (
 ret (B true)) (
 tv (pbin (.int .i64) .eql x0 (I 3)) fun v10 =>
 Prg.ite (asBool v10) (
 ret (B true)) (
 tv (pbin (.int .i64) .eql x0 (I 4)) fun v11 =>
 ret v11))) (
 ret (B false))
theorem f56_MR (x0 x1:TV):aB prog 56 [x0,x1]=f56_M x0 x1:=by kernel_rfl
theorem f56_0_J  {x0 x1 x2:TV} {r:TV} (h:aa prog 56 (f56_0 x0 x1 x2) r):aa prog 56 (.jmp [1,1,1,0,1,0,1] (f56_0_S x0 x1 x2)) r:=aa.jmp (by kernel_rfl) h
theorem f56_1_J  {x0 x1:TV} {r:TV} (h:aa prog 56 (f56_1 x0 x1) r):aa prog 56 (.jmp [1,1,1,1,1,0,1,0,1] (f56_1_S x0 x1)) r:=aa.jmp (by kernel_rfl) h
def f57_0_S  (x0 y1 y2 y3 y4 w5 w6:TV):ASt:=⟨[Pt 0] ++ Rj 6 ++ [AV.tv x0,Pt 1] ++ Rj 71,[some (BC.cells [CA.sref 2 0 [],CA.t y1]),some (BC.cells [CA.t y2,CA.t y3,CA.t y4]),some (BC.tree [w5,w6])] ++ Rz 103,[Pt 0]⟩
def f57_1_S  (x0 y1 y2 y3 y4 y5 y6 y7 y8 y9 y10 y11 y12 y13 y14 y15 w16 w17:TV):ASt:=⟨[Pt 0] ++ Rj 6 ++ [AV.tv x0,Jk,Pt 1] ++ Rj 70,[some (BC.cells [CA.sref 2 0 [],CA.t y1]),some (BC.cells [CA.t y2,CA.t y3,CA.t y4,CA.t y5,CA.t y6,CA.t y7,CA.t y8,CA.t y9,CA.t y10,CA.t y11,CA.t y12,CA.t y13,CA.t y14,CA.t y15]),some (BC.tree [w16,w17])] ++ Rz 103,[Pt 0]⟩
def f57_2_S  (x0:TV) (k1 k2:Nat) (y3 y4 y5 y6 y7 y8 y9 w10 w11 y12:TV):ASt:=⟨Rj 7 ++ [AV.tv x0,Jk,Jk,Pt 0,AV.one (CA.tptr 1 0 [(k1,2)] k2 0)] ++ Rj 68,[some (BC.cells [CA.t y3,CA.t y4,CA.t y5,CA.t y6,CA.t y7,CA.t y8,CA.t y9]),some (BC.tree [w10,w11]),some (BC.cells [CA.sref 1 0 [],CA.t y12])] ++ Rz 103,[Pt 2]⟩
def f57_M (c0 c1 x1 x2:TV):Prg TV :=
 chk (Bool.and (isSl c0) (Bool.and (isSc c1) true)) (
 tv (pbin (.int .i64) .eql x1 (I 1)) fun v0 =>
 Prg.ite (asBool v0) (
 call 64 [x2] fun v1 =>
 chk (isTup v1 2) (
 chk (Bool.and (TV.isAgg (comp v1 0) 3) (ab zFunc (cellsL true (comp v1 0)) 0)) (
 chk (ab aM [comp v1 1] 0) (
 jmp [1,1,0,1,0,1,0,1,1] (f57_0_S (comp v1 1) c1 (cell (comp v1 0) 0) (cell (comp v1 0) 1) (frz (cell (comp v1 0) 2)) c0 hole))))) (
 tv (pbin (.int .i64) .eql x1 (I 2)) fun v2 =>
 Prg.ite (asBool v2) (
 tv (pbin Kd.str .eql x2 (TV.lit (Value.string (ByteArray.mk (Array.mk [(98:UInt8),(108:UInt8),(111:UInt8),(99:UInt8),(107:UInt8)]))))) fun v3 =>
 tv (plen (.slice 55) c0) fun v4 =>
 tv (pbin (.int .i64) .sub v4 (I 1)) fun v5 =>
 nat (slLen c0) fun n6 =>
 nat (aR v5) fun n7 =>
 chk (Bool.and (slSize c0 3) (Nat.blt n7 n6)) (
 tvs (pel c0 n7) fun e8 =>
 chk (ab zSl e8 2) (
 rws (pelems 14 (TV.sl true 14 (chunks 14 1 [B false,I 0,TV.lit ah,B false,B false,TV.lit ah,I 0,I 0,I 0,I 0,TV.lit ah,I 0,I 0,I 0]))) fun r9 =>
 tv (bZ [(n7,2)] c0) fun v10 =>
 tv (papp 14 v10 r9) fun v11 =>
 tv (gT [(n7,2)] c0 hole) fun v12 =>
 tvs (pel v12 n7) fun e13 =>
 chk (Bool.and (dE zSl e13 2) (ab zSl [v11] 0)) (
 tv (nh [] v12 n7 2 [v11]) fun v14 =>
 ret (tup [v3,tup [v14,c1]]))))) (
 tv (pbin (.int .i64) .eql x1 (I 3)) fun v15 =>
 Prg.ite (asBool v15) (
 call 10 [x2] fun v16 =>
 chk (isTup v16 2) (
 chk (Bool.and (TV.isAgg (comp v16 0) 4) (ab EJ (cellsL true (comp v16 0)) 0)) (
 chk (ab aM [comp v16 1] 0) (
 jmp [1,1,0,1,1,1,1,1,0,1,0,1,1] (f57_1_S (comp v16 1) c1 (B true) (cell (comp v16 0) 0) (frz (cell (comp v16 0) 1)) (cell (comp v16 0) 2) (cell (comp v16 0) 3) (TV.lit ah) (I 0) (I 0) (I 0) (I 0) (TV.lit ah) (I 0) (I 0) (I 0) c0 hole))))) (
 tv (pbin (.int .i64) .eql x1 (I 4)) fun v17 =>
 Prg.ite (asBool v17) (
 call 6 [x2] fun v18 =>
 chk (isTup v18 2) (
 chk (Bool.and (TV.isAgg (comp v18 0) 7) (ab ED (cellsL true (comp v18 0)) 0)) (
 chk (ab aM [comp v18 1] 0) (
 tv (plen (.slice 55) c0) fun v19 =>
 tv (pbin (.int .i64) .sub v19 (I 1)) fun v20 =>
 nat (slLen c0) fun n21 =>
 nat (aR v20) fun n22 =>
 chk (Bool.and (slSize c0 3) (Nat.blt n22 n21)) (
 tvs (pel c0 n22) fun e23 =>
 chk (ab zSl e23 2) (
 tvs (pel c0 n22) fun e24 =>
 chk (ab zSl e24 2) (
 tv (bZ [(n22,2)] c0) fun v25 =>
 tv (plen (.slice 58) v25) fun v26 =>
 tv (pbin (.int .i64) .sub v26 (I 1)) fun v27 =>
 tv (bZ [(n22,2)] c0) fun v28 =>
 nat (slLen v28) fun n29 =>
 nat (aR v27) fun n30 =>
 chk (Bool.and (slSize v28 14) (Nat.blt n30 n29)) (
 jmp [1,1,1,0,1,1,1,1,1,1,1,0,1,0,1,1] (f57_2_S (comp v18 1) n22 n30 (cell (comp v18 0) 0) (cell (comp v18 0) 1) (cell (comp v18 0) 2) (cell (comp v18 0) 3) (cell (comp v18 0) 4) (cell (comp v18 0) 5) (frz (cell (comp v18 0) 6)) c0 hole c1))))))))) (
 tv (pbin (.int .i64) .eql x1 (I 5)) fun v31 =>
 Prg.ite (asBool v31) (
 tv (plen (.slice 55) c0) fun v32 =>
 tv (pbin (.int .i64) .sub v32 (I 1)) fun v33 =>
 nat (slLen c0) fun n34 =>
 nat (aR v33) fun n35 =>
 chk (Bool.and (slSize c0 3) (Nat.blt n35 n34)) (
 tvs (pel c0 n35) fun e36 =>
 chk (ab zSl e36 2) (
 tvs (pel c0 n35) fun e37 =>
 chk (ab zSl e37 2) (
 tv (bZ [(n35,2)] c0) fun v38 =>
 tv (plen (.slice 58) v38) fun v39 =>
 tv (pbin (.int .i64) .sub v39 (I 1)) fun v40 =>
 tv (bZ [(n35,2)] c0) fun v41 =>
 nat (slLen v41) fun n42 =>
 nat (aR v40) fun n43 =>
 chk (Bool.and (slSize v41 14) (Nat.blt n43 n42)) (
 call 8 [x2] fun v44 =>
 chk (isTup v44 2) (
 chk (Bool.and (TV.isAgg (comp v44 0) 8) (ab xG (cellsL true (comp v44 0)) 0)) (
 chk (ab aM [comp v44 1] 0) (
 tv (bZ [(n35,2)] c0) fun v45 =>
 tvs (pel v45 n43) fun e46 =>
 chk (Bool.and (dE xG e46 6) (ab xG [cell (comp v44 0) 0,cell (comp v44 0) 1,cell (comp v44 0) 2,cell (comp v44 0) 3,cell (comp v44 0) 4,cell (comp v44 0) 5,cell (comp v44 0) 6,cell (comp v44 0) 7] 0)) (
 tv (nh [(n35,2)] c0 n43 6 [cell (comp v44 0) 0,cell (comp v44 0) 1,cell (comp v44 0) 2,cell (comp v44 0) 3,cell (comp v44 0) 4,cell (comp v44 0) 5,cell (comp v44 0) 6,cell (comp v44 0) 7]) fun v47 =>
 ret (tup [comp v44 1,tup [v47,c1]])))))))))) (
 ret (tup [B false,tup [c0,c1]])))))))
def f57_0  (x0 y1 y2 y3 y4 w5 w6:TV):Prg TV :=
 rws (pelems 3 (TV.sl true 3 (chunks 3 1 [y2,y3,y4]))) fun r48 =>
 tv (papp 3 w5 r48) fun v49 =>
 ret (tup [x0,tup [v49,y1]])
def f57_1  (x0 y1 y2 y3 y4 y5 y6 y7 y8 y9 y10 y11 y12 y13 y14 y15 w16 w17:TV):Prg TV :=
 tv (plen (.slice 55) w16) fun v50 =>
 tv (pbin (.int .i64) .sub v50 (I 1)) fun v51 =>
 nat (slLen w16) fun n52 =>
 nat (aR v51) fun n53 =>
 chk (Bool.and (slSize w16 3) (Nat.blt n53 n52)) (
 tvs (pel w16 n53) fun e54 =>
 chk (ab zSl e54 2) (
 rws (pelems 14 (TV.sl true 14 (chunks 14 1 [y2,y3,y4,y5,y6,y7,y8,y9,y10,y11,y12,y13,y14,y15]))) fun r55 =>
 tv (bZ [(n53,2)] w16) fun v56 =>
 tv (papp 14 v56 r55) fun v57 =>
 tv (gT [(n53,2)] w16 hole) fun v58 =>
 tvs (pel v58 n53) fun e59 =>
 chk (Bool.and (dE zSl e59 2) (ab zSl [v57] 0)) (
 tv (nh [] v58 n53 2 [v57]) fun v60 =>
 ret (tup [x0,tup [v60,y1]]))))
def f57_2  (x0:TV) (k1 k2:Nat) (y3 y4 y5 y6 y7 y8 y9 w10 w11 y12:TV):Prg TV :=
 tv (bZ [(k1,2)] w10) fun v61 =>
 tvs (pel v61 k2) fun e62 =>
 chk (ab zSl e62 5) (
 rws (pelems 7 (TV.sl true 7 (chunks 7 1 [y3,y4,y5,y6,y7,y8,y9]))) fun r63 =>
 tv (bZ [(k1,2),(k2,5)] w10) fun v64 =>
 tv (papp 7 v64 r63) fun v65 =>
 tv (gT [(k1,2),(k2,5)] w10 hole) fun v66 =>
 tv (bZ [(k1,2)] v66) fun v67 =>
 tvs (pel v67 k2) fun e68 =>
 chk (Bool.and (dE zSl e68 5) (ab zSl [v65] 0)) (
 tv (nh [(k1,2)] v66 k2 5 [v65]) fun v69 =>
 ret (tup [x0,tup [v69,y12]])))
theorem f57_MR (c0 c1 x1 x2:TV):aB prog 57 [tup [c0,c1],x1,x2]=f57_M c0 c1 x1 x2:=by kernel_rfl
theorem f57_0_J  {x0 y1 y2 y3 y4 w5 w6:TV} {r:TV} (h:aa prog 57 (f57_0 x0 y1 y2 y3 y4 w5 w6) r):aa prog 57 (.jmp [1,1,0,1,0,1,0,1,1] (f57_0_S x0 y1 y2 y3 y4 w5 w6)) r:=aa.jmp (by kernel_rfl) h
theorem f57_1_J  {x0 y1 y2 y3 y4 y5 y6 y7 y8 y9 y10 y11 y12 y13 y14 y15 w16 w17:TV} {r:TV} (h:aa prog 57 (f57_1 x0 y1 y2 y3 y4 y5 y6 y7 y8 y9 y10 y11 y12 y13 y14 y15 w16 w17) r):aa prog 57 (.jmp [1,1,0,1,1,1,1,1,0,1,0,1,1] (f57_1_S x0 y1 y2 y3 y4 y5 y6 y7 y8 y9 y10 y11 y12 y13 y14 y15 w16 w17)) r:=aa.jmp (by kernel_rfl) h
theorem f57_2_J  {x0:TV} {k1 k2:Nat} {y3 y4 y5 y6 y7 y8 y9 w10 w11 y12:TV} {r:TV} (h:aa prog 57 (f57_2 x0 k1 k2 y3 y4 y5 y6 y7 y8 y9 w10 w11 y12) r):aa prog 57 (.jmp [1,1,1,0,1,1,1,1,1,1,1,0,1,0,1,1] (f57_2_S x0 k1 k2 y3 y4 y5 y6 y7 y8 y9 w10 w11 y12)) r:=aa.jmp (by kernel_rfl) h
def f60_0_S  (x0 x1 x2 y3 y4 y5 y6 y7 y8 y9 y10 y11 y12 y13 y14 y15 y16 y17 y18 y19 y20:TV):ASt:=⟨[Jk,Jk,Pt 0,Pt 1] ++ Rj 17 ++ [AV.tv x0,AV.tv x1,AV.tv x2] ++ Rj 12,[some (BC.cells [CA.t y3,CA.t y4,CA.t y5,CA.t y6]),some (BC.cells [CA.t y7,CA.t y8,CA.t y9,CA.t y10,CA.t y11,CA.t y12,CA.t y13,CA.t y14,CA.t y15,CA.t y16,CA.t y17,CA.t y18,CA.t y19,CA.t y20])] ++ Rz 58,[]⟩
def f60_1_S  (y0 y1 y2 y3 y4 y5 y6 y7 y8 y9 y10 y11 y12 y13 y14 y15 y16 y17:TV):ASt:=⟨[Jk,Jk,Pt 0,Pt 1] ++ Rj 32,[some (BC.cells [CA.t y0,CA.t y1,CA.t y2,CA.t y3]),some (BC.cells [CA.t y4,CA.t y5,CA.t y6,CA.t y7,CA.t y8,CA.t y9,CA.t y10,CA.t y11,CA.t y12,CA.t y13,CA.t y14,CA.t y15,CA.t y16,CA.t y17])] ++ Rz 58,[]⟩
def f60_M (x0 x1:TV):Prg TV :=
 chk (TV.isAgg x0 4) (
 chk (TV.isAgg x1 14) (
 tv (plen (.slice 26) (cell x1 5)) fun v0 =>
 tv (pbin (.int .i64) .gtr v0 (I 64)) fun v1 =>
 Prg.ite (asBool v1) (
 ret (B false)) (
 call 72 [agg [cell x0 0,cell x0 1,cell x0 2,cell x0 3],cell x1 0,agg [cell x1 1,cell x1 2,cell x1 3,cell x1 4]] fun v2 =>
 chk (ab aM [v2] 0) (
 tv (pun .not v2) fun v3 =>
 Prg.ite (asBool v3) (
 ret (B false)) (
 tv (plen (.slice 26) (cell x1 5)) fun v4 =>
 jmp [0,0,1,0,1,1] (f60_0_S (cell x1 5) v4 (I 0) (cell x0 0) (cell x0 1) (cell x0 2) (cell x0 3) (cell x1 0) (cell x1 1) (cell x1 2) (cell x1 3) (cell x1 4) (cell x1 5) (cell x1 6) (cell x1 7) (cell x1 8) (cell x1 9) (cell x1 10) (cell x1 11) (cell x1 12) (cell x1 13)))))))
def f60_0  (x0 x1 x2 y3 y4 y5 y6 y7 y8 y9 y10 y11 y12 y13 y14 y15 y16 y17 y18 y19 y20:TV):Prg TV :=
 tv (pbin (.int .i64) .lss x2 x1) fun v5 =>
 Prg.ite (asBool v5) (
 tvs (pidx 7 x0 x2) fun e6 =>
 chk (Nat.ble 7 (List.length e6)) (
 call 73 [agg [y3,y4,y5,y6],agg [nth hole e6 0,nth hole e6 1,nth hole e6 2,nth hole e6 3,nth hole e6 4,nth hole e6 5,nth hole e6 6]] fun v7 =>
 chk (ab aM [v7] 0) (
 tv (pun .not v7) fun v8 =>
 Prg.ite (asBool v8) (
 ret (B false)) (
 tv (pbin (.int .i64) .add x2 (I 1)) fun v9 =>
 jmp [0,0,1,0,1,1] (f60_0_S x0 x1 v9 y3 y4 y5 y6 y7 y8 y9 y10 y11 y12 y13 y14 y15 y16 y17 y18 y19 y20))))) (
 jmp [1,1,1] (f60_1_S y3 y4 y5 y6 y7 y8 y9 y10 y11 y12 y13 y14 y15 y16 y17 y18 y19 y20))
def f60_1  (y0 y1 y2 y3 y4 y5 y6 y7 y8 y9 y10 y11 y12 y13 y14 y15 y16 y17:TV):Prg TV :=
 call 74 [agg [y0,y1,y2,y3],agg [y10,y11,y12,y13,y14,y15,y16,y17]] fun v10 =>
 chk (ab aM [v10] 0) (
 ret v10)
theorem f60_MR (x0 x1:TV):aB prog 60 [x0,x1]=f60_M x0 x1:=by kernel_rfl
theorem f60_0_J  {x0 x1 x2 y3 y4 y5 y6 y7 y8 y9 y10 y11 y12 y13 y14 y15 y16 y17 y18 y19 y20:TV} {r:TV} (h:aa prog 60 (f60_0 x0 x1 x2 y3 y4 y5 y6 y7 y8 y9 y10 y11 y12 y13 y14 y15 y16 y17 y18 y19 y20) r):aa prog 60 (.jmp [0,0,1,0,1,1] (f60_0_S x0 x1 x2 y3 y4 y5 y6 y7 y8 y9 y10 y11 y12 y13 y14 y15 y16 y17 y18 y19 y20)) r:=aa.jmp (by kernel_rfl) h
theorem f60_1_J  {y0 y1 y2 y3 y4 y5 y6 y7 y8 y9 y10 y11 y12 y13 y14 y15 y16 y17:TV} {r:TV} (h:aa prog 60 (f60_1 y0 y1 y2 y3 y4 y5 y6 y7 y8 y9 y10 y11 y12 y13 y14 y15 y16 y17) r):aa prog 60 (.jmp [1,1,1] (f60_1_S y0 y1 y2 y3 y4 y5 y6 y7 y8 y9 y10 y11 y12 y13 y14 y15 y16 y17)) r:=aa.jmp (by kernel_rfl) h
def f64_0_S  (lo0 len1:Nat) (x2 x3 w4 w5 y6 y7 y8 y9 y10 y11 x12:TV):ASt:=⟨[Jk,AV.one (CA.psl 0 2),Jk,Jk,Jk,Sr 1,Jk,Jk,AV.one (CA.swin 2 0 [] lo0 len1),AV.tv x2,AV.tv x3] ++ Rj 22,[some (BC.cells [CA.ptr 4 0,CA.ptr 4 1]),Tr w4,Tr w5,some (BC.cells [CA.t y6,CA.t y7,CA.t y8]),some (BC.cells [CA.t y9,CA.t y10,CA.t y11])] ++ Rz 76,([AV.tv x12,Jk,Pt 3,Jk,Pt 4] ++ Rj 19)⟩
def f64_M (x0:TV):Prg TV :=
 call 19 [x0] fun v0 =>
 chk (ab zSl [v0] 0) (
 nat (slLen v0) fun n1 =>
 nat (aR (I 1)) fun n2 =>
 chk (Bool.and (Bool.and (slSize v0 1) (Nat.ble (Option.getD (some n2) 0) (Option.getD none n1))) (Nat.ble (Option.getD none n1) n1)) (
 tv (ib (Option.getD (some n2) 0) ((Option.getD none n1) - (Option.getD (some n2) 0)) v0) fun v3 =>
 tv (plen (.slice 9) v3) fun v4 =>
 chk true (
 jmp [0,0,1,0,1,1,14,0,1,1] (f64_0_S (Option.getD (some n2) 0) ((Option.getD none n1) - (Option.getD (some n2) 0)) v4 (I 0) (TV.lit ah) v0 (I 0) (I 0) (TV.lit ah) (I 0) (I 0) (TV.lit ah) x0))))
def f64_0  (lo0 len1:Nat) (x2 x3 w4 w5 y6 y7 y8 y9 y10 y11 x12:TV):Prg TV :=
 tv (pbin (.int .i64) .lss x3 x2) fun v5 =>
 Prg.ite (asBool v5) (
 nat (aR x3) fun n6 =>
 chk (Bool.and (slSize w5 1) (Nat.blt n6 len1)) (
 tvs (pel w5 (lo0 + n6)) fun e7 =>
 chk (ab cp e7 0) (
 tv (pbin (.int .i64) .lss x3 (I 2)) fun v8 =>
 Prg.ite (asBool v8) (
 nat (aR x3) fun n9 =>
 Prg.ite (some (Nat.beq n9 1)) (
 call 48 [nth hole e7 0] fun v10 =>
 chk (ab bF [v10] 0) (
 tv (pbin (.int .i64) .add x3 (I 1)) fun v11 =>
 jmp [0,0,1,0,1,1,14,0,1,1] (f64_0_S lo0 len1 x2 v11 w4 w5 y6 y7 y8 y9 v10 y11 x12))) (
 Prg.ite (some (Nat.beq n9 0)) (
 call 48 [nth hole e7 0] fun v12 =>
 chk (ab bF [v12] 0) (
 tv (pbin (.int .i64) .add x3 (I 1)) fun v13 =>
 jmp [0,0,1,0,1,1,14,0,1,1] (f64_0_S lo0 len1 x2 v13 w4 w5 y6 y7 y8 v12 y10 y11 x12))) (
 Prg.fail))) (
 call 48 [nth hole e7 0] fun v14 =>
 chk (ab bF [v14] 0) (
 rws (pelems 1 (TV.sl true 1 (chunks 1 1 [v14]))) fun r15 =>
 tv (papp 1 w4 (lg r15)) fun v16 =>
 tv (pbin (.int .i64) .add x3 (I 1)) fun v17 =>
 jmp [0,0,1,0,1,1,14,0,1,1] (f64_0_S lo0 len1 x2 v17 v16 w5 y6 y7 y8 y9 y10 y11 x12)))))) (
 call 53 [y9] fun v18 =>
 chk (ab cp [v18] 0) (
 tv (pbin Kd.str .add (TV.lit (Value.string (ByteArray.mk (Array.mk [(102:UInt8),(117:UInt8),(110:UInt8),(99:UInt8),(32:UInt8)])))) v18) fun v19 =>
 tv (pbin Kd.str .add v19 (TV.lit (Value.string (ByteArray.mk (Array.mk [(32:UInt8)]))))) fun v20 =>
 call 53 [y10] fun v21 =>
 chk (ab cp [v21] 0) (
 tv (pbin Kd.str .add v20 v21) fun v22 =>
 tv (pbin Kd.str .eql x12 v22) fun v23 =>
 ret (tup [agg [y9,y10,y11],v23]))))
theorem f64_MR (x0:TV):aB prog 64 [x0]=f64_M x0:=by kernel_rfl
theorem f64_0_J  {lo0 len1:Nat} {x2 x3 w4 w5 y6 y7 y8 y9 y10 y11 x12:TV} {r:TV} (h:aa prog 64 (f64_0 lo0 len1 x2 x3 w4 w5 y6 y7 y8 y9 y10 y11 x12) r):aa prog 64 (.jmp [0,0,1,0,1,1,14,0,1,1] (f64_0_S lo0 len1 x2 x3 w4 w5 y6 y7 y8 y9 y10 y11 x12)) r:=aa.jmp (by kernel_rfl) h
def f72_M (x0 x1 x2:TV):Prg TV :=
 chk (TV.isAgg x0 4) (
 chk (TV.isAgg x2 4) (
 tv (pun .not x1) fun v0 =>
 Prg.ite (asBool v0) (
 tv (pbin (.int .i64) .eql (cell x2 0) (I 0)) fun v1 =>
 Prg.ite (asBool v1) (
 tv (plen (.slice 23) (cell x2 1)) fun v2 =>
 tv (pbin (.int .i64) .eql v2 (I 0)) fun v3 =>
 Prg.ite (asBool v3) (
 tv (pun .not (cell x2 2)) fun v4 =>
 Prg.ite (asBool v4) (
 tv (pun .not (cell x2 3)) fun v5 =>
 ret v5) (
 ret (B false))) (
 ret (B false))) (
 ret (B false))) (
 call 90 [agg [cell x0 0,cell x0 1,cell x0 2,cell x0 3],B true,cell x2 0] fun v6 =>
 chk (ab aM [v6] 0) (
 Prg.ite (asBool v6) (
 tv (plen (.slice 23) (cell x2 1)) fun v7 =>
 tv (pbin (.int .i64) .leq v7 (I 8)) fun v8 =>
 Prg.ite (asBool v8) (
 call 91 [cell x2 1] fun v9 =>
 chk (ab aM [v9] 0) (
 Prg.ite (asBool v9) (
 tv (plen (.slice 23) (cell x2 1)) fun v10 =>
 tv (pbin (.int .i64) .gtr v10 (I 0)) fun v11 =>
 Prg.ite (asBool v11) (
 ret (B true)) (
 Prg.ite (asBool (cell x2 2)) (
 ret (B true)) (
 ret (cell x2 3)))) (
 ret (B false)))) (
 ret (B false))) (
 ret (B false))))))
theorem f72_MR (x0 x1 x2:TV):aB prog 72 [x0,x1,x2]=f72_M x0 x1 x2:=by kernel_rfl
def f73_M (x0 x1:TV):Prg TV :=
 chk (TV.isAgg x0 4) (
 chk (TV.isAgg x1 7) (
 call 92 [cell x1 0] fun v0 =>
 chk (ab bF [v0] 0) (
 call 93 [v0,I 1] fun v1 =>
 chk (ab aM [v1] 0) (
 Prg.ite (asBool v1) (
 call 93 [v0,I 2] fun v2 =>
 chk (ab aM [v2] 0) (
 call 90 [agg [cell x0 0,cell x0 1,cell x0 2,cell x0 3],v2,cell x1 1] fun v3 =>
 chk (ab aM [v3] 0) (
 Prg.ite (asBool v3) (
 call 93 [v0,I 4] fun v4 =>
 chk (ab aM [v4] 0) (
 call 90 [agg [cell x0 0,cell x0 1,cell x0 2,cell x0 3],v4,cell x1 2] fun v5 =>
 chk (ab aM [v5] 0) (
 Prg.ite (asBool v5) (
 call 93 [v0,I 8] fun v6 =>
 chk (ab aM [v6] 0) (
 call 90 [agg [cell x0 0,cell x0 1,cell x0 2,cell x0 3],v6,cell x1 3] fun v7 =>
 chk (ab aM [v7] 0) (
 Prg.ite (asBool v7) (
 call 93 [v0,I 16] fun v8 =>
 chk (ab aM [v8] 0) (
 Prg.ite (asBool v8) (
 call 93 [v0,I 32] fun v9 =>
 chk (ab aM [v9] 0) (
 call 94 [agg [cell x0 0,cell x0 1,cell x0 2,cell x0 3],v9,cell x1 5,cell x1 6] fun v10 =>
 chk (ab aM [v10] 0) (
 ret v10))) (
 tv (pbin (.int .u16) .eql (cell x1 4) (W 0)) fun v11 =>
 Prg.ite (asBool v11) (
 call 93 [v0,I 32] fun v12 =>
 chk (ab aM [v12] 0) (
 call 94 [agg [cell x0 0,cell x0 1,cell x0 2,cell x0 3],v12,cell x1 5,cell x1 6] fun v13 =>
 chk (ab aM [v13] 0) (
 ret v13))) (
 ret (B false))))) (
 ret (B false))))) (
 ret (B false))))) (
 ret (B false))))) (
 ret (B false))))))
theorem f73_MR (x0 x1:TV):aB prog 73 [x0,x1]=f73_M x0 x1:=by kernel_rfl
def f74_M (x0 x1:TV):Prg TV :=
 chk (TV.isAgg x0 4) (
 chk (TV.isAgg x1 8) (
 call 95 [cell x1 0] fun v0 =>
 chk (ab bF [v0] 0) (
 call 93 [v0,I 1] fun v1 =>
 chk (ab aM [v1] 0) (
 Prg.ite (asBool v1) (
 call 93 [v0,I 4] fun v2 =>
 chk (ab aM [v2] 0) (
 call 90 [agg [cell x0 0,cell x0 1,cell x0 2,cell x0 3],v2,cell x1 1] fun v3 =>
 chk (ab aM [v3] 0) (
 Prg.ite (asBool v3) (
 call 93 [v0,I 2] fun v4 =>
 chk (ab aM [v4] 0) (
 call 90 [agg [cell x0 0,cell x0 1,cell x0 2,cell x0 3],v4,cell x1 2] fun v5 =>
 chk (ab aM [v5] 0) (
 Prg.ite (asBool v5) (
 call 93 [v0,I 32] fun v6 =>
 chk (ab aM [v6] 0) (
 call 94 [agg [cell x0 0,cell x0 1,cell x0 2,cell x0 3],v6,cell x1 3,cell x1 4] fun v7 =>
 chk (ab aM [v7] 0) (
 Prg.ite (asBool v7) (
 call 93 [v0,I 64] fun v8 =>
 chk (ab aM [v8] 0) (
 call 96 [agg [cell x0 0,cell x0 1,cell x0 2,cell x0 3],v8,cell x1 5,B false] fun v9 =>
 chk (ab aM [v9] 0) (
 Prg.ite (asBool v9) (
 call 93 [v0,I 128] fun v10 =>
 chk (ab aM [v10] 0) (
 call 96 [agg [cell x0 0,cell x0 1,cell x0 2,cell x0 3],v10,cell x1 6,B false] fun v11 =>
 chk (ab aM [v11] 0) (
 Prg.ite (asBool v11) (
 call 93 [v0,I 256] fun v12 =>
 chk (ab aM [v12] 0) (
 call 96 [agg [cell x0 0,cell x0 1,cell x0 2,cell x0 3],v12,cell x1 7,B true] fun v13 =>
 chk (ab aM [v13] 0) (
 ret v13))) (
 ret (B false))))) (
 ret (B false))))) (
 ret (B false))))) (
 ret (B false))))) (
 ret (B false))))) (
 ret (B false))))))
theorem f74_MR (x0 x1:TV):aB prog 74 [x0,x1]=f74_M x0 x1:=by kernel_rfl
def f90_M (x0 x1 x2:TV):Prg TV :=
 chk (TV.isAgg x0 4) (
 tv (pun .not x1) fun v0 =>
 Prg.ite (asBool v0) (
 tv (pbin (.int .i64) .eql x2 (I 0)) fun v1 =>
 ret v1) (
 tv (pbin (.int .i64) .leq (I 0) x2) fun v2 =>
 Prg.ite (asBool v2) (
 tv (pbin (.int .i64) .lss x2 (cell x0 2)) fun v3 =>
 ret v3) (
 ret (B false))))
theorem f90_MR (x0 x1 x2:TV):aB prog 90 [x0,x1,x2]=f90_M x0 x1 x2:=by kernel_rfl
def f91_0_S  (x0 x1 x2 x3:TV):ASt:=⟨[AV.tv x0] ++ Rj 4 ++ [AV.tv x1,AV.tv x2,AV.tv x3] ++ Rj 10,Rz 42,[]⟩
def f91_M (x0:TV):Prg TV :=
 tv (plen (.slice 23) x0) fun v0 =>
 jmp [0,0,1,0,1] (f91_0_S x0 x0 v0 (I 0))
def f91_0  (x0 x1 x2 x3:TV):Prg TV :=
 tv (pbin (.int .i64) .lss x3 x2) fun v1 =>
 Prg.ite (asBool v1) (
 tvs (pidx 1 x1 x3) fun e2 =>
 chk (Nat.blt 0 (List.length e2)) (
 nat (aR x3) fun n3 =>
 tv (pslice (.slice 23) 1 x0 none (some n3)) fun v4 =>
 call 106 [v4,nth hole e2 0] fun v5 =>
 chk (ab aM [v5] 0) (
 Prg.ite (asBool v5) (
 ret (B false)) (
 tv (pbin (.int .i64) .add x3 (I 1)) fun v6 =>
 jmp [0,0,1,0,1] (f91_0_S x0 x1 x2 v6))))) (
 ret (B true))
theorem f91_MR (x0:TV):aB prog 91 [x0]=f91_M x0:=by kernel_rfl
theorem f91_0_J  {x0 x1 x2 x3:TV} {r:TV} (h:aa prog 91 (f91_0 x0 x1 x2 x3) r):aa prog 91 (.jmp [0,0,1,0,1] (f91_0_S x0 x1 x2 x3)) r:=aa.jmp (by kernel_rfl) h
def f92_M (x0:TV):Prg TV :=
 tv (pbin (.int .i64) .eql x0 (I 1)) fun v0 =>
 Prg.ite (asBool v0) (
 ret (I 19)) (
 tv (pbin (.int .i64) .eql x0 (I 2)) fun v1 =>
 Prg.ite (asBool v1) (
 Prg.ite (asBool v1) (
 ret (I 7)) (
 tv (pbin (.int .i64) .eql x0 (I 3)) fun v2 =>
 Prg.ite (asBool v2) (
 Prg.ite (asBool v2) (
 ret (I 15)) (
 tv (pbin (.int .i64) .eql x0 (I 10)) fun v3 =>
 Prg.ite (asBool v3) (
 ret (I 13)) (
 tv (pbin (.int .i64) .eql x0 (I 11)) fun v4 =>
 Prg.ite (asBool v4) (
 ret (I 35)) (
 tv (pbin (.int .i64) .eql x0 (I 12)) fun v5 =>
 Prg.ite (asBool v5) (
 ret (I 5)) (
 tv (pbin (.int .i64) .eql x0 (I 13)) fun v6 =>
 Prg.ite (asBool v6) (
 ret (I 3)) (
 ret (I 0))))))) (
 tv (pbin (.int .i64) .eql x0 (I 4)) fun v7 =>
 Prg.ite (asBool v7) (
 Prg.ite (asBool v7) (
 ret (I 15)) (
 tv (pbin (.int .i64) .eql x0 (I 10)) fun v8 =>
 Prg.ite (asBool v8) (
 ret (I 13)) (
 tv (pbin (.int .i64) .eql x0 (I 11)) fun v9 =>
 Prg.ite (asBool v9) (
 ret (I 35)) (
 tv (pbin (.int .i64) .eql x0 (I 12)) fun v10 =>
 Prg.ite (asBool v10) (
 ret (I 5)) (
 tv (pbin (.int .i64) .eql x0 (I 13)) fun v11 =>
 Prg.ite (asBool v11) (
 ret (I 3)) (
 ret (I 0))))))) (
 tv (pbin (.int .i64) .eql x0 (I 5)) fun v12 =>
 Prg.ite (asBool v12) (
 Prg.ite (asBool v12) (
 ret (I 15)) (
 tv (pbin (.int .i64) .eql x0 (I 10)) fun v13 =>
 Prg.ite (asBool v13) (
 ret (I 13)) (
 tv (pbin (.int .i64) .eql x0 (I 11)) fun v14 =>
 Prg.ite (asBool v14) (
 ret (I 35)) (
 tv (pbin (.int .i64) .eql x0 (I 12)) fun v15 =>
 Prg.ite (asBool v15) (
 ret (I 5)) (
 tv (pbin (.int .i64) .eql x0 (I 13)) fun v16 =>
 Prg.ite (asBool v16) (
 ret (I 3)) (
 ret (I 0))))))) (
 tv (pbin (.int .i64) .eql x0 (I 6)) fun v17 =>
 Prg.ite (asBool v17) (
 Prg.ite (asBool v17) (
 ret (I 15)) (
 tv (pbin (.int .i64) .eql x0 (I 10)) fun v18 =>
 Prg.ite (asBool v18) (
 ret (I 13)) (
 tv (pbin (.int .i64) .eql x0 (I 11)) fun v19 =>
 Prg.ite (asBool v19) (
 ret (I 35)) (
 tv (pbin (.int .i64) .eql x0 (I 12)) fun v20 =>
 Prg.ite (asBool v20) (
 ret (I 5)) (
 tv (pbin (.int .i64) .eql x0 (I 13)) fun v21 =>
 Prg.ite (asBool v21) (
 ret (I 3)) (
 ret (I 0))))))) (
 tv (pbin (.int .i64) .eql x0 (I 7)) fun v22 =>
 Prg.ite (asBool v22) (
 Prg.ite (asBool v22) (
 ret (I 15)) (
 tv (pbin (.int .i64) .eql x0 (I 10)) fun v23 =>
 Prg.ite (asBool v23) (
 ret (I 13)) (
 tv (pbin (.int .i64) .eql x0 (I 11)) fun v24 =>
 Prg.ite (asBool v24) (
 ret (I 35)) (
 tv (pbin (.int .i64) .eql x0 (I 12)) fun v25 =>
 Prg.ite (asBool v25) (
 ret (I 5)) (
 tv (pbin (.int .i64) .eql x0 (I 13)) fun v26 =>
 Prg.ite (asBool v26) (
 ret (I 3)) (
 ret (I 0))))))) (
 tv (pbin (.int .i64) .eql x0 (I 8)) fun v27 =>
 Prg.ite (asBool v27) (
 ret (I 15)) (
 tv (pbin (.int .i64) .eql x0 (I 10)) fun v28 =>
 Prg.ite (asBool v28) (
 ret (I 13)) (
 tv (pbin (.int .i64) .eql x0 (I 11)) fun v29 =>
 Prg.ite (asBool v29) (
 ret (I 35)) (
 tv (pbin (.int .i64) .eql x0 (I 12)) fun v30 =>
 Prg.ite (asBool v30) (
 ret (I 5)) (
 tv (pbin (.int .i64) .eql x0 (I 13)) fun v31 =>
 Prg.ite (asBool v31) (
 ret (I 3)) (
 ret (I 0))))))))))))) (
 tv (pbin (.int .i64) .eql x0 (I 9)) fun v32 =>
 Prg.ite (asBool v32) (
 ret (I 7)) (
 tv (pbin (.int .i64) .eql x0 (I 3)) fun v33 =>
 Prg.ite (asBool v33) (
 Prg.ite (asBool v33) (
 ret (I 15)) (
 tv (pbin (.int .i64) .eql x0 (I 10)) fun v34 =>
 Prg.ite (asBool v34) (
 ret (I 13)) (
 tv (pbin (.int .i64) .eql x0 (I 11)) fun v35 =>
 Prg.ite (asBool v35) (
 ret (I 35)) (
 tv (pbin (.int .i64) .eql x0 (I 12)) fun v36 =>
 Prg.ite (asBool v36) (
 ret (I 5)) (
 tv (pbin (.int .i64) .eql x0 (I 13)) fun v37 =>
 Prg.ite (asBool v37) (
 ret (I 3)) (
 ret (I 0))))))) (
 tv (pbin (.int .i64) .eql x0 (I 4)) fun v38 =>
 Prg.ite (asBool v38) (
 Prg.ite (asBool v38) (
 ret (I 15)) (
 tv (pbin (.int .i64) .eql x0 (I 10)) fun v39 =>
 Prg.ite (asBool v39) (
 ret (I 13)) (
 tv (pbin (.int .i64) .eql x0 (I 11)) fun v40 =>
 Prg.ite (asBool v40) (
 ret (I 35)) (
 tv (pbin (.int .i64) .eql x0 (I 12)) fun v41 =>
 Prg.ite (asBool v41) (
 ret (I 5)) (
 tv (pbin (.int .i64) .eql x0 (I 13)) fun v42 =>
 Prg.ite (asBool v42) (
 ret (I 3)) (
 ret (I 0))))))) (
 tv (pbin (.int .i64) .eql x0 (I 5)) fun v43 =>
 Prg.ite (asBool v43) (
 Prg.ite (asBool v43) (
 ret (I 15)) (
 tv (pbin (.int .i64) .eql x0 (I 10)) fun v44 =>
 Prg.ite (asBool v44) (
 ret (I 13)) (
 tv (pbin (.int .i64) .eql x0 (I 11)) fun v45 =>
 Prg.ite (asBool v45) (
 ret (I 35)) (
 tv (pbin (.int .i64) .eql x0 (I 12)) fun v46 =>
 Prg.ite (asBool v46) (
 ret (I 5)) (
 tv (pbin (.int .i64) .eql x0 (I 13)) fun v47 =>
 Prg.ite (asBool v47) (
 ret (I 3)) (
 ret (I 0))))))) (
 tv (pbin (.int .i64) .eql x0 (I 6)) fun v48 =>
 Prg.ite (asBool v48) (
 Prg.ite (asBool v48) (
 ret (I 15)) (
 tv (pbin (.int .i64) .eql x0 (I 10)) fun v49 =>
 Prg.ite (asBool v49) (
 ret (I 13)) (
 tv (pbin (.int .i64) .eql x0 (I 11)) fun v50 =>
 Prg.ite (asBool v50) (
 ret (I 35)) (
 tv (pbin (.int .i64) .eql x0 (I 12)) fun v51 =>
 Prg.ite (asBool v51) (
 ret (I 5)) (
 tv (pbin (.int .i64) .eql x0 (I 13)) fun v52 =>
 Prg.ite (asBool v52) (
 ret (I 3)) (
 ret (I 0))))))) (
 tv (pbin (.int .i64) .eql x0 (I 7)) fun v53 =>
 Prg.ite (asBool v53) (
 Prg.ite (asBool v53) (
 ret (I 15)) (
 tv (pbin (.int .i64) .eql x0 (I 10)) fun v54 =>
 Prg.ite (asBool v54) (
 ret (I 13)) (
 tv (pbin (.int .i64) .eql x0 (I 11)) fun v55 =>
 Prg.ite (asBool v55) (
 ret (I 35)) (
 tv (pbin (.int .i64) .eql x0 (I 12)) fun v56 =>
 Prg.ite (asBool v56) (
 ret (I 5)) (
 tv (pbin (.int .i64) .eql x0 (I 13)) fun v57 =>
 Prg.ite (asBool v57) (
 ret (I 3)) (
 ret (I 0))))))) (
 tv (pbin (.int .i64) .eql x0 (I 8)) fun v58 =>
 Prg.ite (asBool v58) (
 ret (I 15)) (
 tv (pbin (.int .i64) .eql x0 (I 10)) fun v59 =>
 Prg.ite (asBool v59) (
 ret (I 13)) (
 tv (pbin (.int .i64) .eql x0 (I 11)) fun v60 =>
 Prg.ite (asBool v60) (
 ret (I 35)) (
 tv (pbin (.int .i64) .eql x0 (I 12)) fun v61 =>
 Prg.ite (asBool v61) (
 ret (I 5)) (
 tv (pbin (.int .i64) .eql x0 (I 13)) fun v62 =>
 Prg.ite (asBool v62) (
 ret (I 3)) (
 ret (I 0))))))))))))))
theorem f92_MR (x0:TV):aB prog 92 [x0]=f92_M x0:=by kernel_rfl
end Go.Ab.Z12
end
section
set_option maxRecDepth 100000
namespace Go.Ab.Z12
open Go Go.Ab Go.Proofs
open Go.Ab.TV (hole cell comp isSl isSc isTup cellsL tup agg)
open Go.Ab.Prg (tv tvs rws nat chk call jmp ret)
def f93_M (x0 x1:TV):Prg TV :=
 tv (pbin (.int .i64) .and x0 x1) fun v0 =>
 tv (pbin (.int .i64) .neq v0 (I 0)) fun v1 =>
 ret v1
theorem f93_MR (x0 x1:TV):aB prog 93 [x0,x1]=f93_M x0 x1:=by kernel_rfl
def f94_0_S  (x0 x1 x2 y3 y4 y5 y6:TV):ASt:=⟨Rj 4 ++ [Pt 0] ++ Rj 35 ++ [AV.tv x0,AV.tv x1,AV.tv x2] ++ Rj 8,[some (BC.cells [CA.t y3,CA.t y4,CA.t y5,CA.t y6])] ++ Rz 74,[]⟩
def f94_M (x0 x1 x2 x3:TV):Prg TV :=
 chk (TV.isAgg x0 4) (
 tv (pun .not x1) fun v0 =>
 Prg.ite (asBool v0) (
 tv (pbin (.int .i64) .eql x2 (I 0)) fun v1 =>
 Prg.ite (asBool v1) (
 tv (plen (.slice 3) x3) fun v2 =>
 tv (pbin (.int .i64) .eql v2 (I 0)) fun v3 =>
 ret v3) (
 ret (B false))) (
 tv (pbin (.int .i64) .lss x2 (I 0)) fun v4 =>
 Prg.ite (asBool v4) (
 ret (B false)) (
 tv (plen (.slice 55) (cell x0 0)) fun v5 =>
 tv (pbin (.int .i64) .geq x2 v5) fun v6 =>
 Prg.ite (asBool v6) (
 ret (B false)) (
 tv (plen (.slice 3) x3) fun v7 =>
 tvs (pidx 3 (cell x0 0) x2) fun e8 =>
 chk (Nat.blt 0 (List.length e8)) (
 tv (pbin (.int .i64) .neq v7 (nth hole e8 0)) fun v9 =>
 Prg.ite (asBool v9) (
 ret (B false)) (
 tv (plen (.slice 3) x3) fun v10 =>
 jmp [0,0,1,0,1,1,1] (f94_0_S x3 v10 (I 0) (cell x0 0) (cell x0 1) (cell x0 2) (cell x0 3))))))))
def f94_0  (x0 x1 x2 y3 y4 y5 y6:TV):Prg TV :=
 tv (pbin (.int .i64) .lss x2 x1) fun v11 =>
 Prg.ite (asBool v11) (
 tvs (pidx 1 x0 x2) fun e12 =>
 chk (Nat.blt 0 (List.length e12)) (
 call 90 [agg [y3,y4,y5,y6],B true,nth hole e12 0] fun v13 =>
 chk (ab aM [v13] 0) (
 tv (pun .not v13) fun v14 =>
 Prg.ite (asBool v14) (
 ret (B false)) (
 tv (pbin (.int .i64) .add x2 (I 1)) fun v15 =>
 jmp [0,0,1,0,1,1,1] (f94_0_S x0 x1 v15 y3 y4 y5 y6))))) (
 ret (B true))
theorem f94_MR (x0 x1 x2 x3:TV):aB prog 94 [x0,x1,x2,x3]=f94_M x0 x1 x2 x3:=by kernel_rfl
theorem f94_0_J  {x0 x1 x2 y3 y4 y5 y6:TV} {r:TV} (h:aa prog 94 (f94_0 x0 x1 x2 y3 y4 y5 y6) r):aa prog 94 (.jmp [0,0,1,0,1,1,1] (f94_0_S x0 x1 x2 y3 y4 y5 y6)) r:=aa.jmp (by kernel_rfl) h
def f95_M (x0:TV):Prg TV :=
 tv (pbin (.int .i64) .eql x0 (I 1)) fun v0 =>
 Prg.ite (asBool v0) (
 Prg.ite (asBool v0) (
 ret (I 5)) (
 tv (pbin (.int .i64) .eql x0 (I 2)) fun v1 =>
 Prg.ite (asBool v1) (
 ret (I 65)) (
 tv (pbin (.int .i64) .eql x0 (I 3)) fun v2 =>
 Prg.ite (asBool v2) (
 ret (I 197)) (
 tv (pbin (.int .i64) .eql x0 (I 4)) fun v3 =>
 Prg.ite (asBool v3) (
 ret (I 355)) (
 tv (pbin (.int .i64) .eql x0 (I 6)) fun v4 =>
 Prg.ite (asBool v4) (
 ret (I 1)) (
 ret (I 0))))))) (
 tv (pbin (.int .i64) .eql x0 (I 5)) fun v5 =>
 Prg.ite (asBool v5) (
 ret (I 5)) (
 tv (pbin (.int .i64) .eql x0 (I 2)) fun v6 =>
 Prg.ite (asBool v6) (
 ret (I 65)) (
 tv (pbin (.int .i64) .eql x0 (I 3)) fun v7 =>
 Prg.ite (asBool v7) (
 ret (I 197)) (
 tv (pbin (.int .i64) .eql x0 (I 4)) fun v8 =>
 Prg.ite (asBool v8) (
 ret (I 355)) (
 tv (pbin (.int .i64) .eql x0 (I 6)) fun v9 =>
 Prg.ite (asBool v9) (
 ret (I 1)) (
 ret (I 0)))))))
theorem f95_MR (x0:TV):aB prog 95 [x0]=f95_M x0:=by kernel_rfl
def f96_M (x0 x1 x2 x3:TV):Prg TV :=
 chk (TV.isAgg x0 4) (
 tv (pun .not x1) fun v0 =>
 Prg.ite (asBool v0) (
 tv (pbin (.int .i64) .eql x2 (I 0)) fun v1 =>
 ret v1) (
 tv (pbin (.int .i64) .leq (I 0) x2) fun v2 =>
 Prg.ite (asBool v2) (
 tv (plen (.slice 58) (cell x0 3)) fun v3 =>
 tv (pbin (.int .i64) .lss x2 v3) fun v4 =>
 Prg.ite (asBool v4) (
 tvs (pidx 14 (cell x0 3) x2) fun e5 =>
 chk (Nat.blt 0 (List.length e5)) (
 tv (pbin Kd.bool .eql (nth hole e5 0) x3) fun v6 =>
 ret v6)) (
 ret (B false))) (
 ret (B false))))
theorem f96_MR (x0 x1 x2 x3:TV):aB prog 96 [x0,x1,x2,x3]=f96_M x0 x1 x2 x3:=by kernel_rfl
def f106_M (x0 x1:TV):Prg TV :=
 call 112 [x0,x1] fun v0 =>
 chk (ab bF [v0] 0) (
 tv (pbin (.int .i64) .geq v0 (I 0)) fun v1 =>
 ret v1)
theorem f106_MR (x0 x1:TV):aB prog 106 [x0,x1]=f106_M x0 x1:=by kernel_rfl
def f112_0_S  (x0 x1 x2 x3:TV):ASt:=⟨[AV.tv x0,AV.tv x1] ++ Rj 5 ++ [AV.tv x2,AV.tv x3] ++ Rj 10,Rz 43,[]⟩
def f112_M (x0 x1:TV):Prg TV :=
 tv (plen (.slice 23) x0) fun v0 =>
 jmp [0,0,1,0,1] (f112_0_S x0 x1 v0 (I 0))
def f112_0  (x0 x1 x2 x3:TV):Prg TV :=
 tv (pbin (.int .i64) .lss x3 x2) fun v1 =>
 Prg.ite (asBool v1) (
 tvs (pidx 1 x0 x3) fun e2 =>
 chk (Nat.blt 0 (List.length e2)) (
 tv (pbin (.int .u16) .eql x1 (nth hole e2 0)) fun v3 =>
 Prg.ite (asBool v3) (
 ret x3) (
 tv (pbin (.int .i64) .add x3 (I 1)) fun v4 =>
 jmp [0,0,1,0,1] (f112_0_S x0 x1 x2 v4)))) (
 ret (TV.lit (Value.int IntKind.i64 (-1))))
theorem f112_MR (x0 x1:TV):aB prog 112 [x0,x1]=f112_M x0 x1:=by kernel_rfl
theorem f112_0_J  {x0 x1 x2 x3:TV} {r:TV} (h:aa prog 112 (f112_0 x0 x1 x2 x3) r):aa prog 112 (.jmp [0,0,1,0,1] (f112_0_S x0 x1 x2 x3)) r:=aa.jmp (by kernel_rfl) h
end Go.Ab.Z12
end
section
set_option maxRecDepth 10000
namespace Go.Ab.Z12
open Go Go.Ab Go.Proofs
theorem DM {a b:DIns}:a=b ↔ a.op=b.op/\a.dst=b.dst/\a.a=b.a/\a.b=b.b/\a.k=b.k/\a.f=b.f/\a.args=b.args:=by
 cases a; cases b; simp
theorem CG {a b:DEnd}:a=b ↔ a.kind=b.kind/\a.a=b.a/\a.dst=b.dst/\a.f=b.f/\a.args=b.args/\a.to=b.to/\a.els=b.els/\a.pad=b.pad:=by
 cases a; cases b; simp
theorem rP {a b:DPad}:a=b ↔ a.dst=b.dst/\a.catches=b.catches/\a.all=b.all/\a.cleanup=b.cleanup:=by
 cases a; cases b; simp
theorem Dk {a b:DBlock}:a=b ↔ a.landing=b.landing/\a.pad=b.pad/\a.ins=b.ins/\a.fin=b.fin:=by
 cases a; cases b; simp
theorem rf {a b:DFunc}:a=b ↔ a.params=b.params/\a.regs=b.regs/\a.blocks=b.blocks:=by
 cases a; cases b; simp
theorem CY {a b:DMod}:a=b ↔ a.funcs=b.funcs:=by
 cases a; cases b; simp
theorem r14 {q q':Option Bool} {x y:TV} {l m:List Int} (hx:RInts q x l) (hy:RInts q' y m):aj prog 33 [x,y] (B (tt (l=m))):=by
 refine aj.of (f33_MR _ _) ?_
 unfold f33_M
 repeat' (first
  | refine aa.chk rfl ?_
  | refine aa.tv rfl ?_
  | refine aa.tv (RL.len (by assumption)) ?_
  | refine aa.nat rfl ?_
  | refine aa.ite rfl (fun _=>?_) (fun _=>?_)
  | refine aa.call (by assumption) ?_
  | refine aa.tvs (by assumption) ?_)
 ·rename_i h
  have h:¬ l=m:=by rintro rfl; simp at h
  exact bI h
 ·rename_i h
  have hlen:l.length=m.length:=by simp at h; omega
  refine f33_0_J ?_
  rw [cP (d7 hlen)]
  refine gm (g:=fun k=>f33_0 x y (I k)) ?_ ?_
  ·unfold f33_0
   refine aa.tv hx.len (aa.tv rfl (aa.ite aP nofun fun _=>aa.ret))
  ·intro k hk r h1 h2
   have hk':k < m.length:=by omega
   have ha:l[k]? = some l[k]:=GE hk
   have hb:m[k]? = some m[k]:=GE hk'
   obtain ⟨e,he,rfl,_⟩:=hx.idx (k:=.i64) ha
   obtain ⟨e',he',rfl,_⟩:=hy.idx (k:=.i64) hb
   unfold f33_0
   refine aa.tv hx.len (aa.tv rfl (aa.ite (aE hk) (fun _=>?_) nofun))
   refine aa.tvs he (aa.chk rfl (aa.tvs he' (aa.chk rfl (aa.tv rfl (aa.ite rfl (fun h=>?_) fun h=>?_)))))
   ·rw [h1 (by rw [ha,hb]; simpa using h)]; exact aa.ret
   ·refine aa.tv (inc hk hx.bnd) (f33_0_J (h2 ?_))
    rw [ha,hb]; simpa using h
theorem r46 {q q':Option Bool} {e e':List TV} {a b:DIns} (ha:RIns q e a) (hb:RIns q' e' b):aj prog 12 [.agg e,.agg e'] (B (tt (a=b))):=by
 obtain ⟨g,rfl,hg,_⟩:=ha
 obtain ⟨g',rfl,hg',_⟩:=hb
 have h14:=r14 hg hg'
 refine aj.of (f12_MR _ _) ?_
 unfold f12_M
 repeat' (first
  | refine aa.chk rfl ?_
  | refine aa.tv rfl ?_
  | refine aa.tv (RL.len (by assumption)) ?_
  | refine aa.nat rfl ?_
  | refine aa.ite rfl (fun _=>?_) (fun _=>?_)
  | refine aa.call (by assumption) ?_
  | refine aa.tvs (by assumption) ?_)
 ·apply fF; rw [DM]; simp_all [tt]
 all_goals (apply bI; rw [DM]; simp_all [tt])
theorem r45 {q q':Option Bool} {e e':List TV} {a b:DEnd} (ha:REnd q e a) (hb:REnd q' e' b):aj prog 13 [.agg e,.agg e'] (B (tt (a=b))):=by
 obtain ⟨g,rfl,hg,_⟩:=ha
 obtain ⟨g',rfl,hg',_⟩:=hb
 have h14:=r14 hg hg'
 refine aj.of (f13_MR _ _) ?_
 unfold f13_M
 repeat' (first
  | refine aa.chk rfl ?_
  | refine aa.tv rfl ?_
  | refine aa.tv (RL.len (by assumption)) ?_
  | refine aa.nat rfl ?_
  | refine aa.ite rfl (fun _=>?_) (fun _=>?_)
  | refine aa.call (by assumption) ?_
  | refine aa.tvs (by assumption) ?_)
 ·apply fF; rw [CG]; simp_all [tt]
 all_goals (apply bI; rw [CG]; simp_all [tt])
theorem r44 {q q':Option Bool} {e e':List TV} {a b:DPad} (ha:RPad q e a) (hb:RPad q' e' b):aj prog 14 [.agg e,.agg e'] (B (tt (a=b))):=by
 obtain ⟨x,rfl,hx,_⟩:=ha
 obtain ⟨y,rfl,hy,_⟩:=hb
 refine aj.of (f14_MR _ _) ?_
 unfold f14_M
 repeat' (first
  | refine aa.chk rfl ?_
  | refine aa.tv rfl ?_
  | refine aa.tv (RL.len (by assumption)) ?_
  | refine aa.nat rfl ?_
  | refine aa.ite rfl (fun _=>?_) (fun _=>?_)
  | refine aa.call (by assumption) ?_
  | refine aa.tvs (by assumption) ?_)
 ·apply bI; rw [rP]; simp_all
 ·apply bI; rw [rP]; simp_all
 ·apply bI; rw [rP]; simp_all
 ·rename_i h
  apply bI; rw [rP]
  intro h'
  rw [h'.2.1] at h
  simp at h
 ·rename_i h1 h2 h3 h
  have hlen:a.catches.length=b.catches.length:=by simp at h; omega
  refine f14_0_J ?_
  have hp:a=b ↔ ∀ i,i < a.catches.length->a.catches[i]? = b.catches[i]? := by
   rw [rP,d7 hlen]
   simp at h1 h2 h3
   exact ⟨fun h=>h.2.1,fun h=>⟨h1,h,h2,h3⟩⟩
  rw [cP hp]
  refine gm (g:=fun k=>f14_0 (I k) (I a.dst) x (B a.all) (B a.cleanup) (I b.dst) y (B b.all) (B b.cleanup)) ?_ ?_
  ·unfold f14_0
   refine aa.tv hx.len (aa.tv rfl (aa.ite aP nofun fun _=>aa.ret))
  ·intro k hk r h1 h2
   have hk':k < b.catches.length:=by omega
   have ha:a.catches[k]? = some a.catches[k]:=GE hk
   have hb:b.catches[k]? = some b.catches[k]:=GE hk'
   obtain ⟨e,he,rfl,_⟩:=hx.idx (k:=.i64) ha
   obtain ⟨e',he',rfl,_⟩:=hy.idx (k:=.i64) hb
   unfold f14_0
   refine aa.tv hx.len (aa.tv rfl (aa.ite (aE hk) (fun _=>?_) nofun))
   refine aa.tvs he (aa.chk rfl (aa.tvs he' (aa.chk rfl (aa.tv rfl (aa.ite rfl (fun h=>?_) fun h=>?_)))))
   ·rw [h1 (by rw [ha,hb]; simpa using h)]; exact aa.ret
   ·refine aa.tv (inc hk hx.bnd) (f14_0_J (h2 ?_))
    rw [ha,hb]; simpa using h
theorem r31 {q q' : Option Bool} {e e' : List TV} {a b : DFunc} (ha : RFunc q e a) (hb : RFunc q' e' b) : aj prog 43 [.agg e, .agg e'] (B (tt (a = b))) := by
 obtain ⟨x,rfl,hx,_⟩:=ha
 obtain ⟨y,rfl,hy,_⟩:=hb
 refine aj.of (f43_MR _ _) ?_
 unfold f43_M
 repeat' (first
  | refine aa.chk rfl ?_
  | refine aa.tv rfl ?_
  | refine aa.tv (RL.len (by assumption)) ?_
  | refine aa.nat rfl ?_
  | refine aa.ite rfl (fun _=>?_) (fun _=>?_)
  | refine aa.call (by assumption) ?_
  | refine aa.tvs (by assumption) ?_)
 ·apply bI; rw [rf]; simp_all
 ·apply bI; rw [rf]; simp_all
 ·rename_i h
  apply bI; rw [rf]
  intro h'
  rw [h'.2.2] at h
  simp at h
 ·rename_i h1 h2 h
  have hlen:a.blocks.length=b.blocks.length:=by simp at h; omega
  refine f43_0_J ?_
  have hp:a=b ↔ ∀ i,i < a.blocks.length->a.blocks[i]? = b.blocks[i]? := by
   rw [rf,d7 hlen]
   simp at h1 h2
   exact ⟨fun h=>h.2.2,fun h=>⟨h1,h2,h⟩⟩
  rw [cP hp]
  refine gm (g:=fun k=>f43_0 (I k) (I a.params) (I a.regs) x (I b.params) (I b.regs) y) ?_ ?_
  ·unfold f43_0
   refine aa.tv hx.len (aa.tv rfl (aa.ite aP nofun fun _=>aa.ret))
  ·intro k hk r h1 h2
   have hk':k < b.blocks.length:=by omega
   have hak:a.blocks[k]? = some a.blocks[k]:=GE hk
   have hbk:b.blocks[k]? = some b.blocks[k]:=GE hk'
   obtain ⟨e,he,hea⟩:=hx.idx (k:=.i64) hak
   obtain ⟨e',he',heb⟩:=hy.idx (k:=.i64) hbk
   rw [hak,hbk,Option.some_inj,Dk] at h1 h2
   generalize a.blocks[k]=u at *
   generalize b.blocks[k]=v at *
   obtain ⟨c,i,g,rfl,hc,hd,hi,hg,ho⟩:=hea
   obtain ⟨c',i',g',rfl,hc',hd',hi',hg',ho'⟩:=heb
   have h44:=r44 (q:=q) (q':=q') (a:=u.pad) (b:=v.pad) ⟨c,rfl,hc,hd⟩ ⟨c',rfl,hc',hd'⟩
   have h45:=r45 (q:=q) (q':=q') (a:=u.fin) (b:=v.fin) ⟨g,rfl,hg,ho⟩ ⟨g',rfl,hg',ho'⟩
   unfold f43_0
   refine aa.tv hx.len (aa.tv rfl (aa.ite (aE hk) (fun _=>?_) nofun))
   refine aa.tvs he (aa.chk rfl (aa.tvs he' (aa.chk rfl (aa.tv rfl (aa.ite rfl (fun h=>?_) fun h3=>?_)))))
   ·rw [h1 (by simp at h; simp [h])]; exact aa.ret
   ·refine aa.call h44 (aa.chk rfl (aa.tv rfl (aa.ite rfl (fun h=>?_) fun h4=>?_)))
    ·rw [h1 (by simp [tt] at h; simp [h])]; exact aa.ret
    ·refine aa.call h45 (aa.chk rfl (aa.tv rfl (aa.ite rfl (fun h=>?_) fun h5=>?_)))
     ·rw [h1 (by simp [tt] at h; simp [h])]; exact aa.ret
     ·refine aa.tv hi.len (aa.tv hi'.len (aa.tv rfl (aa.ite rfl (fun h=>?_) fun h6=>?_)))
      ·rw [h1 (by intro h'; rw [h'.2.2.1] at h; simp at h)]; exact aa.ret
      ·refine f43_1_J ?_
       have hil:u.ins.length=v.ins.length:=by simp at h6; omega
       simp [tt] at h3 h4 h5
       refine DF (n:=u.ins.length) (P:=fun j=>u.ins[j]? = v.ins[j]?) (g:=fun j=>f43_1 (I k) (I j) (I a.params) (I a.regs) x (I b.params) (I b.regs) y (B u.landing) (I u.pad.dst) c (B u.pad.all) (B u.pad.cleanup) i (I u.fin.kind) (I u.fin.a) (I u.fin.dst) (I u.fin.f) g (I u.fin.to) (I u.fin.els) (I u.fin.pad) (B v.landing) (I v.pad.dst) c' (B v.pad.all) (B v.pad.cleanup) i' (I v.fin.kind) (I v.fin.a) (I v.fin.dst) (I v.fin.f) g' (I v.fin.to) (I v.fin.els) (I v.fin.pad)) ?_ ?_ ?_
       ·intro hn; exact h1 fun h'=>hn ((d7 hil).1 h'.2.2.1)
       ·intro hn
        unfold f43_1
        refine aa.tv hi.len (aa.tv rfl (aa.ite aP nofun fun _=>?_))
        refine aa.tv (inc hk hx.bnd) (f43_0_J (h2 ?_))
        exact ⟨h3,h4,(d7 hil).2 hn,h5⟩
       ·intro j hj r g1 g2
        have hj':j < v.ins.length:=by omega
        have hau:u.ins[j]? = some u.ins[j]:=GE hj
        have hbu:v.ins[j]? = some v.ins[j]:=GE hj'
        obtain ⟨e,he,hea⟩:=hi.idx (k:=.i64) hau
        obtain ⟨e',he',heb⟩:=hi'.idx (k:=.i64) hbu
        have h46:=r46 hea heb
        obtain ⟨_,rfl,_⟩:=hea
        obtain ⟨_,rfl,_⟩:=heb
        unfold f43_1
        refine aa.tv hi.len (aa.tv rfl (aa.ite (aE hj) (fun _=>?_) nofun))
        refine aa.tvs he (aa.chk rfl (aa.tvs he' (aa.chk rfl (aa.call h46 (aa.chk rfl (aa.tv rfl (aa.ite rfl (fun h=>?_) fun h=>?_)))))))
        ·rw [g1 (by rw [hau,hbu]; simpa [tt] using h)]; exact aa.ret
        ·refine aa.tv (inc hj hi.bnd) (f43_1_J (g2 ?_))
         rw [hau,hbu]; simpa [tt] using h
theorem r18 {q q':Option Bool} {e e':List TV} {a b:DMod} (ha:RMod q e a) (hb:RMod q' e' b):aj prog 18 [.agg e,.agg e'] (B (tt (a=b))):=by
 obtain ⟨x,rfl,hx⟩:=ha
 obtain ⟨y,rfl,hy⟩:=hb
 refine aj.of (f18_MR _ _) ?_
 unfold f18_M
 repeat' (first
  | refine aa.chk rfl ?_
  | refine aa.tv rfl ?_
  | refine aa.tv (RL.len (by assumption)) ?_
  | refine aa.nat rfl ?_
  | refine aa.ite rfl (fun _=>?_) (fun _=>?_)
  | refine aa.call (by assumption) ?_
  | refine aa.tvs (by assumption) ?_)
 ·rename_i h
  apply bI; rw [CY]
  intro h'
  rw [h'] at h
  simp at h
 ·rename_i h
  have hlen:a.funcs.length=b.funcs.length:=by simp at h; omega
  refine f18_0_J ?_
  rw [cP (CY.trans (d7 hlen))]
  refine gm (g:=fun k=>f18_0 (I k) x y) ?_ ?_
  ·unfold f18_0
   refine aa.tv hx.len (aa.tv rfl (aa.ite aP nofun fun _=>aa.ret))
  ·intro k hk r h1 h2
   have hk':k < b.funcs.length:=by omega
   have hak:a.funcs[k]? = some a.funcs[k]:=GE hk
   have hbk:b.funcs[k]? = some b.funcs[k]:=GE hk'
   obtain ⟨e,he,hea⟩:=hx.idx (k:=.i64) hak
   obtain ⟨e',he',heb⟩:=hy.idx (k:=.i64) hbk
   have hc:=r31 hea heb
   obtain ⟨_,rfl,_⟩:=hea
   obtain ⟨_,rfl,_⟩:=heb
   unfold f18_0
   refine aa.tv hx.len (aa.tv rfl (aa.ite (aE hk) (fun _=>?_) nofun))
   refine aa.tvs he (aa.chk rfl (aa.tvs he' (aa.chk rfl (aa.call hc (aa.chk rfl (aa.tv rfl (aa.ite rfl (fun h=>?_) fun h=>?_)))))))
   ·rw [h1 (by rw [hak,hbk]; simpa [tt] using h)]; exact aa.ret
   ·refine aa.tv (inc hk hx.bnd) (f18_0_J (h2 ?_))
    rw [hak,hbk]; simpa [tt] using h
end Go.Ab.Z12
end
section
set_option maxRecDepth 10000
namespace Go.Ab
theorem RL.idxI {α:Type} {q:Option Bool} {s:Nat} {R:List TV->α->Prop} {x:TV} {l:List α} (h:RL q s R x l) {k:IntKind} {n:Int} {a:α} (h0:0<=n) (hi:l[n.toNat]? = some a):∃ e,pidx s x (.lit (.int k n))=some e/\R e a:=by
 rcases h with ⟨rfl,rfl⟩ | ⟨o,xs,rfl,hq,h,_⟩
 ·simp at hi
 ·obtain ⟨e,he,hr⟩:=h.get hi
  exact ⟨e,by simp [pidx,he,h0],hr⟩
def within (n most:Int):Prop:=0<=n/\n < most
def jg (u:Bool) (regs n:Int):Prop:=(u=true->within n regs)/\(u=false->n=0)
def EU (fs:List DFunc) (regs n:Int) (l:List Int):Prop:=0<=n/\∃ g,fs[n.toNat]? = some g/\(l.length:Int)=g.params/\∀ i,i < l.length->∀ a,l[i]? = some a->within a regs
def ql (u:Bool) (fs:List DFunc) (regs n:Int) (l:List Int):Prop:=(u=true->EU fs regs n l)/\(u=false->n=0/\l=[])
def zO (bs:List DBlock) (n:Int) (landing:Bool):Prop:=0<=n/\∃ b,bs[n.toNat]? = some b/\b.landing=landing
def qd (u:Bool) (bs:List DBlock) (n:Int) (landing:Bool):Prop:=(u=true->zO bs n landing)/\(u=false->n=0)
theorem tj {regs n:Int}:jg true regs n ↔ within n regs:=⟨fun h=>h.1 rfl,fun h=>⟨fun _=>h,nofun⟩⟩
theorem fU {p:Prop}:tt p=false ↔ ¬ p:=⟨fun h hp=>(by rw [q0 hp] at h; exact Bool.noConfusion h),fun h=>sh h⟩
end Go.Ab
namespace Go.Ab.Z12
open Go Go.Ab Go.Proofs
def lK (op:Int):Int :=
 if op=1 then 19 else if op=2 then 7 else if op=9 then 7 else if op=3 then 15 else if op=4 then 15 else if op=5 then 15 else if op=6 then 15 else if op=7 then 15 else if op=8 then 15 else if op=10 then 13 else if op=11 then 35 else if op=12 then 5 else if op=13 then 3 else 0
def kT (k:Int):Int :=
 if k=1 then 5 else if k=5 then 5 else if k=2 then 65 else if k=3 then 197 else if k=4 then 355 else if k=6 then 1 else 0
def has (u f:Int):Bool:=decide (¬ IntKind.i64.wrap ((BitVec.ofInt 64 u &&& BitVec.ofInt 64 f).toNat:Int)=0)
theorem r25 (u f:Int):aj prog 93 [I u,I f] (B (has u f)):=by
 refine aj.of (f93_MR _ _) ?_
 unfold f93_M
 repeat' (first
  | refine aa.chk rfl ?_
  | refine aa.tv rfl ?_
  | refine aa.tv (RL.len (by assumption)) ?_
  | refine aa.nat rfl ?_
  | refine aa.ite rfl (fun _=>?_) (fun _=>?_)
  | refine aa.call (by assumption) ?_
  | refine aa.tvs (by assumption) ?_)
 refine jS.2 ?_
 simp [has]
 rfl
theorem r24 (k:Int):aj prog 95 [I k] (I (kT k)):=by
 refine aj.of (f95_MR _) ?_
 unfold f95_M
 repeat' (first
  | refine aa.chk rfl ?_
  | refine aa.tv rfl ?_
  | refine aa.tv (RL.len (by assumption)) ?_
  | refine aa.nat rfl ?_
  | refine aa.ite rfl (fun _=>?_) (fun _=>?_)
  | refine aa.call (by assumption) ?_
  | refine aa.tvs (by assumption) ?_)
 all_goals (refine jS.2 ?_; simp_all [kT])
theorem r49 (k:Int):aj prog 92 [I k] (I (lK k)):=by
 refine aj.of (f92_MR _) ?_
 unfold f92_M
 repeat' (first
  | refine aa.chk rfl ?_
  | refine aa.tv rfl ?_
  | refine aa.tv (RL.len (by assumption)) ?_
  | refine aa.nat rfl ?_
  | refine aa.ite rfl (fun _=>?_) (fun _=>?_)
  | refine aa.call (by assumption) ?_
  | refine aa.tvs (by assumption) ?_)
 all_goals (refine jS.2 ?_; simp_all [lK])
theorem r47 {fs bs:TV} {p regs n:Int} {u:Bool}:aj prog 90 [.agg [fs,I p,I regs,bs],B u,I n] (B (tt (jg u regs n))):=by
  cases u
  · refine aj.of (f90_MR _ _ _) ?_
    unfold f90_M
    repeat' (first
      | refine aa.chk rfl ?_
      | refine aa.tv rfl ?_
      | refine aa.tv (RL.len (by assumption)) ?_
      | refine aa.nat rfl ?_
      | refine aa.ite (v:=true) rfl (fun _=>?_) nofun
      | refine aa.ite (v:=false) rfl nofun (fun _=>?_)
      | refine aa.ite rfl (fun _=>?_) (fun _=>?_)
      | refine aa.call (by assumption) ?_
      | refine aa.tvs (by assumption) ?_
       )
    all_goals (apply fF; simp_all [jg])
  · refine aj.of (f90_MR _ _ _) ?_
    unfold f90_M
    repeat' (first
      | refine aa.chk rfl ?_
      | refine aa.tv rfl ?_
      | refine aa.tv (RL.len (by assumption)) ?_
      | refine aa.nat rfl ?_
      | refine aa.ite (v:=true) rfl (fun _=>?_) nofun
      | refine aa.ite (v:=false) rfl nofun (fun _=>?_)
      | refine aa.ite rfl (fun _=>?_) (fun _=>?_)
      | refine aa.call (by assumption) ?_
      | refine aa.tvs (by assumption) ?_
       )
    all_goals (apply fF; simp_all [jg,within] <;> omega)
theorem r50 {q q' : Option Bool} {x bs g : TV} {fs : List DFunc} {p regs n : Int} {u : Bool} {l : List Int} (hx : RL q 3 (RFunc q) x fs) (hg : RInts q' g l) : aj prog 94 [.agg [x, I p, I regs, bs], B u, I n, g] (B (tt (ql u fs regs n l))) := by
  cases u
  · refine aj.of (f94_MR _ _ _ _) ?_
    unfold f94_M
    repeat' (first
      | refine aa.chk rfl ?_
      | refine aa.tv rfl ?_
      | refine aa.tv (RL.len (by assumption)) ?_
      | refine aa.nat rfl ?_
      | refine aa.ite (v:=true) rfl (fun _=>?_) nofun
      | refine aa.ite (v:=false) rfl nofun (fun _=>?_)
      | refine aa.ite rfl (fun _=>?_) (fun _=>?_)
      | refine aa.call (by assumption) ?_
      | refine aa.tvs (by assumption) ?_
       )
    all_goals (apply fF; simp_all [ql])
  · rw [show tt (ql true fs regs n l) = tt (EU fs regs n l) from cP ⟨fun h => h.1 rfl, fun h => ⟨fun _ => h, fun h => nomatch h⟩⟩]
    refine aj.of (f94_MR _ _ _ _) ?_
    unfold f94_M
    refine aa.chk rfl (aa.tv rfl (aa.ite rfl nofun fun _=>aa.tv rfl (aa.ite rfl (fun h=>?_) fun h=>?_)))
    · simp at h
      exact bI fun h'=>by have:=h'.1; omega
    · have h0 : 0 ≤ n := by simpa using h
      refine aa.tv hx.len (aa.tv rfl (aa.ite rfl (fun h=>?_) fun h=>?_))
      · simp at h
        refine bI ?_
        rintro ⟨_,f,hf,_⟩
        have:=(GD.1 hf).1
        omega
      · simp at h
        have hlt:n.toNat < fs.length:=by omega
        have hf:fs[n.toNat]? = some fs[n.toNat]:=GE hlt
        obtain ⟨e,he,hr⟩:=hx.idxI (k:=.i64) h0 hf
        obtain ⟨b,rfl,_⟩:=hr
        refine aa.tv hg.len (aa.tvs he (aa.chk rfl (aa.tv rfl (aa.ite rfl (fun h=>?_) fun h=>?_))))
        · refine bI ?_
          rintro ⟨_,f,hf',hl,_⟩
          rw [hf] at hf'
          simp at hf' h
          subst hf'
          exact h hl
        · simp at h
          refine aa.tv hg.len (f94_0_J ?_)
          have hp:EU fs regs n l ↔ ∀ i,i < l.length->∀ a,l[i]? = some a->within a regs:=by
            refine ⟨fun ⟨_,f,hf',hl,ha⟩=>ha,fun ha=>⟨h0,_,hf,h,ha⟩⟩
          rw [cP hp]
          refine gm (g:=fun k=>f94_0 g (I l.length) (I k) x (I p) (I regs) bs) ?_ ?_
          · unfold f94_0
            refine aa.tv rfl (aa.ite aP nofun fun _=>?_)
            exact aa.ret
          · intro k hk r h1 h2
            have ha:l[k]? = some l[k]:=GE hk
            obtain ⟨e,he,rfl,_⟩:=hg.idx (k:=.i64) ha
            unfold f94_0
            refine aa.tv rfl (aa.ite (aE hk) (fun _=>?_) nofun)
            refine aa.tvs he (aa.chk rfl (aa.call r47 (aa.chk rfl (aa.tv rfl (aa.ite rfl (fun h=>?_) fun h=>?_)))))
            · rw [h1 (by simp [ha]; simpa [eY,fU,tj] using h)]; exact aa.ret
            · refine aa.tv (inc hk hg.bnd) (f94_0_J (h2 ?_))
              simp [ha]; simpa [eY,fU,tj] using h
theorem r51 {q : Option Bool} {fs x : TV} {bs : List DBlock} {p regs n : Int} {u landing : Bool} (hx : RL q 14 (RBlock q) x bs) : aj prog 96 [.agg [fs, I p, I regs, x], B u, I n, B landing] (B (tt (qd u bs n landing))) := by
  cases u
  · refine aj.of (f96_MR _ _ _ _) ?_
    unfold f96_M
    repeat' (first
      | refine aa.chk rfl ?_
      | refine aa.tv rfl ?_
      | refine aa.tv (RL.len (by assumption)) ?_
      | refine aa.nat rfl ?_
      | refine aa.ite (v:=true) rfl (fun _=>?_) nofun
      | refine aa.ite (v:=false) rfl nofun (fun _=>?_)
      | refine aa.ite rfl (fun _=>?_) (fun _=>?_)
      | refine aa.call (by assumption) ?_
      | refine aa.tvs (by assumption) ?_
       )
    all_goals (apply fF; simp_all [qd])
  · rw [show tt (qd true bs n landing) = tt (zO bs n landing) from cP ⟨fun h => h.1 rfl, fun h => ⟨fun _ => h, fun h => nomatch h⟩⟩]
    refine aj.of (f96_MR _ _ _ _) ?_
    unfold f96_M
    refine aa.chk rfl (aa.tv rfl (aa.ite rfl nofun fun _=>aa.tv rfl (aa.ite rfl (fun h=>?_) fun h=>?_)))
    · have h0 : 0 ≤ n := by simpa using h
      refine aa.tv hx.len (aa.tv rfl (aa.ite rfl (fun h=>?_) fun h=>?_))
      · simp at h
        have hlt:n.toNat < bs.length:=by omega
        have hf:bs[n.toNat]? = some bs[n.toNat]:=GE hlt
        obtain ⟨e,he,hr⟩:=hx.idxI (k:=.i64) h0 hf
        obtain ⟨c,i,g,rfl,_⟩:=hr
        refine aa.tvs he (aa.chk rfl (aa.tv rfl ?_))
        apply fF
        simp [zO,h0,hf]
      · simp at h
        refine bI ?_
        rintro ⟨_,f,hf,_⟩
        have:=(GD.1 hf).1
        omega
    · simp at h
      exact bI fun h'=>by have:=h'.1; omega
def BU (fs:List DFunc) (regs:Int) (x:DIns):Prop :=
 has (lK x.op) 1=true/\jg (has (lK x.op) 2) regs x.dst/\jg (has (lK x.op) 4) regs x.a/\jg (has (lK x.op) 8) regs x.b/\(has (lK x.op) 16=true\/x.k=0)/\ql (has (lK x.op) 32) fs regs x.f x.args
theorem r33 {q q':Option Bool} {x bs:TV} {e:List TV} {fs:List DFunc} {p regs:Int} {a:DIns} (hx:RL q 3 (RFunc q) x fs) (he:RIns q' e a):aj prog 73 [.agg [x,I p,I regs,bs],.agg e] (B (tt (BU fs regs a))):=by
 obtain ⟨g,rfl,hg,_⟩:=he
 have h49:=r49 a.op
 have h50:∀ {u:Bool} {n:Int},aj prog 94 [.agg [x,I p,I regs,bs],B u,I n,g] (B (tt (ql u fs regs n a.args))):=r50 hx hg
 refine aj.of (f73_MR _ _) ?_
 unfold f73_M
 repeat' (first
  | refine aa.chk rfl ?_
  | refine aa.tv rfl ?_
  | refine aa.tv (RL.len (by assumption)) ?_
  | refine aa.nat rfl ?_
  | refine aa.ite (v:=true) rfl (fun _=>?_) nofun
  | refine aa.ite (v:=false) rfl nofun (fun _=>?_)
  | refine aa.ite rfl (fun _=>?_) (fun _=>?_)
  | refine aa.call (by assumption) ?_
  | refine aa.tvs (by assumption) ?_
  | refine aa.call (r25 _ _) ?_ | refine aa.call r47 ?_ | refine aa.call h50 ?_)
 all_goals (apply fF; simp_all [BU,eY,fU])
def Cs (fs:List DFunc) (regs:Int) (bs:List DBlock) (x:DEnd):Prop :=
 has (kT x.kind) 1=true/\jg (has (kT x.kind) 4) regs x.a/\jg (has (kT x.kind) 2) regs x.dst/\ql (has (kT x.kind) 32) fs regs x.f x.args /\
  qd (has (kT x.kind) 64) bs x.to false/\qd (has (kT x.kind) 128) bs x.els false/\qd (has (kT x.kind) 256) bs x.pad true
theorem r34 {q q' q2:Option Bool} {x y:TV} {e:List TV} {fs:List DFunc} {bs:List DBlock} {p regs:Int} {a:DEnd} (hx:RL q 3 (RFunc q) x fs) (hy:RL q2 14 (RBlock q2) y bs) (he:REnd q' e a):aj prog 74 [.agg [x,I p,I regs,y],.agg e] (B (tt (Cs fs regs bs a))):=by
 obtain ⟨g,rfl,hg,_⟩:=he
 have h24:=r24 a.kind
 have h50:∀ {u:Bool} {n:Int},aj prog 94 [.agg [x,I p,I regs,y],B u,I n,g] (B (tt (ql u fs regs n a.args))):=r50 hx hg
 have h51:∀ {u landing:Bool} {n:Int},aj prog 96 [.agg [x,I p,I regs,y],B u,I n,B landing] (B (tt (qd u bs n landing))):=r51 hy
 refine aj.of (f74_MR _ _) ?_
 unfold f74_M
 repeat' (first
  | refine aa.chk rfl ?_
  | refine aa.tv rfl ?_
  | refine aa.tv (RL.len (by assumption)) ?_
  | refine aa.nat rfl ?_
  | refine aa.ite (v:=true) rfl (fun _=>?_) nofun
  | refine aa.ite (v:=false) rfl nofun (fun _=>?_)
  | refine aa.ite rfl (fun _=>?_) (fun _=>?_)
  | refine aa.call (by assumption) ?_
  | refine aa.tvs (by assumption) ?_
  | refine aa.call (r25 _ _) ?_ | refine aa.call r47 ?_ | refine aa.call h50 ?_ | refine aa.call h51 ?_)
 all_goals (apply fF; simp_all [Cs,eY,fU])
end Go.Ab.Z12
end
section
set_option maxRecDepth 10000
namespace Go.Ab
theorem RL.slice {α:Type} {q:Option Bool} {s:Nat} {R:List TV->α->Prop} {x:TV} {l:List α} (h:RL q s R x l) {t:TypeId} {lo hi:Option Nat} (h1:lo.getD 0<=hi.getD l.length) (h2:hi.getD l.length<=l.length) :
  ∃ y,pslice (.slice t) s x lo hi=some y/\RL q s R y ((l.drop (lo.getD 0)).take (hi.getD l.length - lo.getD 0)):=by
 rcases h with ⟨rfl,rfl⟩ | ⟨o,xs,rfl,hq,h,hb⟩
 ·simp at h1 h2
  refine ⟨_,?_,by simpa using RL.nil⟩
  have h3:lo.getD 0=0:=by omega
  simp only [pslice,ah,h2,h3,and_self,if_true]
 ·have hl:=h.length
  refine ⟨.sl o s ((xs.drop (lo.getD 0)).take (hi.getD xs.length - lo.getD 0)),?_,?_⟩
  ·rw [<- hl] at h1 h2
   simp only [pslice,h1,h2,and_self,if_true]
  ·rw [<- hl]
   exact .sl hq ((h.drop _).take _) (by simp; omega)
theorem Cu {k:Nat} (h:k<=9223372036854775807):aR (I (k:Int))=some k:=by
 simp [aR]; omega
def AK (l:List Int):Prop:=∀ i,i < l.length->∀ a,l[i]? = some a->a ∉ l.take i
def Ep (landing:Bool) (regs:Int) (p:DPad):Prop:=(landing=false->p.dst=0/\p.catches=[]/\p.all=false/\p.cleanup=false) /\
 (landing=true->within p.dst regs/\p.catches.length<=8/\AK p.catches/\(p.catches≠[]\/p.all=true\/p.cleanup=true))
end Go.Ab
namespace Go.Ab.Z12
open Go Go.Ab Go.Proofs
theorem r59 {q:Option Bool} {x:TV} {l:List Int} {w:Int} (hx:RWords q x l):∃ n,aj prog 112 [x,W w] (I n)/\(0<=n ↔ w ∈ l):=by
 have loop : ∀ d k, k + d = l.length → ∃ n, aa prog 112 (f112_0 x (W w) (I l.length) (I k)) (I n) ∧ (0 ≤ n ↔ ∃ i, k ≤ i ∧ l[i]? = some w) := by
  intro d
  induction d with
  | zero =>
   intro k hk
   have hk:k=l.length:=by omega
   subst hk
   refine ⟨-1,?_,?_⟩
   ·unfold f112_0
    refine aa.tv rfl (aa.ite aP nofun fun _=>?_)
    exact aa.ret
   ·simp only [show ¬ (0:Int)<=-1 by omega,false_iff,not_exists,not_and]
    intro i hi
    rw [GP hi]; simp
  | succ d ih =>
   intro k hk
   have hk':k < l.length:=by omega
   have ha:l[k]? = some l[k]:=GE hk'
   obtain ⟨e,he,rfl,_⟩:=hx.idx (k:=.i64) ha
   obtain ⟨n,hn,hiff⟩:=ih (k + 1) (by omega)
   by_cases hw:w=l[k]
   ·refine ⟨(k:Int),?_,?_⟩
    ·unfold f112_0
     refine aa.tv rfl (aa.ite (aE hk') (fun _=>?_) nofun)
     refine aa.tvs he (aa.chk rfl (aa.tv rfl (aa.ite rfl (fun h=>aa.ret) fun h=>?_)))
     simp at h; exact absurd hw h
    ·constructor
     ·intro _; exact ⟨k,Nat.le_refl _,by rw [ha,hw]⟩
     ·intro _; omega
   ·refine ⟨n,?_,?_⟩
    ·unfold f112_0
     refine aa.tv rfl (aa.ite (aE hk') (fun _=>?_) nofun)
     refine aa.tvs he (aa.chk rfl (aa.tv rfl (aa.ite rfl (fun h=>?_) fun h=>?_)))
     ·simp at h; exact absurd h hw
     ·refine aa.tv (inc hk' hx.bnd) (f112_0_J hn)
    ·rw [hiff]
     constructor
     ·rintro ⟨i,hi,h⟩; exact ⟨i,by omega,h⟩
     ·rintro ⟨i,hi,h⟩
      refine ⟨i,?_,h⟩
      by_cases hik:i=k
      ·subst hik; rw [ha] at h; simp at h; exact absurd h.symm hw
      ·omega
 obtain ⟨n,hn,hiff⟩:=loop l.length 0 (by omega)
 refine ⟨n,?_,?_⟩
 ·refine aj.of (f112_MR _ _) ?_
  unfold f112_M
  exact aa.tv hx.len (f112_0_J hn)
 ·rw [hiff,List.mem_iff_getElem?]
  simp
theorem r56 {q:Option Bool} {x:TV} {l:List Int} {w:Int} (hx:RWords q x l):aj prog 106 [x,W w] (B (tt (w ∈ l))):=by
 obtain ⟨n,hn,hiff⟩:=r59 (w:=w) hx
 refine aj.of (f106_MR _ _) ?_
 unfold f106_M
 repeat' (first
  | refine aa.chk rfl ?_
  | refine aa.tv rfl ?_
  | refine aa.tv (RL.len (by assumption)) ?_
  | refine aa.nat rfl ?_
  | refine aa.ite rfl (fun _=>?_) (fun _=>?_)
  | refine aa.call (by assumption) ?_
  | refine aa.tvs (by assumption) ?_)
 apply fF
 simp [hiff]
theorem r48 {q:Option Bool} {x:TV} {l:List Int} (hx:RWords q x l):aj prog 91 [x] (B (tt (AK l))):=by
 refine aj.of (f91_MR _) ?_
 unfold f91_M
 refine aa.tv hx.len (f91_0_J ?_)
 refine gm (g:=fun k=>f91_0 x x (I l.length) (I k)) ?_ ?_
 ·unfold f91_0
  refine aa.tv rfl (aa.ite aP nofun fun _=>?_)
  exact aa.ret
 ·intro k hk r h1 h2
  have ha:l[k]? = some l[k]:=GE hk
  obtain ⟨e,he,rfl,_⟩:=hx.idx (k:=.i64) ha
  obtain ⟨y,hy,hry⟩:=hx.slice (t:=23) (lo:=none) (hi:=some k) (by simp) (by simp; omega)
  have hry':RWords q y (l.take k):=by simpa using hry
  unfold f91_0
  refine aa.tv rfl (aa.ite (aE hk) (fun _=>?_) nofun)
  have hb:=hx.bnd
  refine aa.tvs he (aa.chk rfl (aa.nat (Cu (by omega)) (aa.tv hy (aa.call (r56 hry') (aa.chk rfl (aa.ite rfl (fun h=>?_) fun h=>?_))))))
  ·rw [h1 (by simp [ha]; simpa [eY] using h)]; exact aa.ret
  ·refine aa.tv (inc hk hx.bnd) (f91_0_J (h2 ?_))
   simp [ha]; simpa [fU] using h
theorem r32 {q:Option Bool} {fs bs:TV} {e:List TV} {p regs:Int} {a:DPad} {landing:Bool} (he:RPad q e a):aj prog 72 [.agg [fs,I p,I regs,bs],B landing,.agg e] (B (tt (Ep landing regs a))):=by
  obtain ⟨x,rfl,hx,_⟩:=he
  have h48:=r48 hx
  cases landing
  · refine aj.of (f72_MR _ _ _) ?_
    unfold f72_M
    repeat' (first
      | refine aa.chk rfl ?_
      | refine aa.tv rfl ?_
      | refine aa.tv (RL.len (by assumption)) ?_
      | refine aa.nat rfl ?_
      | refine aa.ite (v:=true) rfl (fun _=>?_) nofun
      | refine aa.ite (v:=false) rfl nofun (fun _=>?_)
      | refine aa.ite rfl (fun _=>?_) (fun _=>?_)
      | refine aa.call (by assumption) ?_
      | refine aa.tvs (by assumption) ?_
       )
    all_goals (apply fF; simp_all [Ep])
  · refine aj.of (f72_MR _ _ _) ?_
    unfold f72_M
    repeat' (first
      | refine aa.chk rfl ?_
      | refine aa.tv rfl ?_
      | refine aa.tv (RL.len (by assumption)) ?_
      | refine aa.nat rfl ?_
      | refine aa.ite (v:=true) rfl (fun _=>?_) nofun
      | refine aa.ite (v:=false) rfl nofun (fun _=>?_)
      | refine aa.ite rfl (fun _=>?_) (fun _=>?_)
      | refine aa.call (by assumption) ?_
      | refine aa.tvs (by assumption) ?_
      | refine aa.call r47 ?_)
    all_goals (apply fF; simp_all [Ep,eY,fU,tj,List.length_pos_iff] <;> omega)
def pz (fs:List DFunc) (regs:Int) (bs:List DBlock) (b:DBlock):Prop:=b.ins.length<=64/\Ep b.landing regs b.pad/\(∀ i,i < b.ins.length->∀ x,b.ins[i]? = some x->BU fs regs x)/\Cs fs regs bs b.fin
def yK (fs:List DFunc) (f:DFunc):Prop:=(0<=f.params/\f.params<=8/\f.params<=f.regs/\f.regs<=256)/\f.blocks.length<=64/\(∃ b,f.blocks[0]? = some b/\b.landing=false)/\∀ i,i < f.blocks.length->∀ b,f.blocks[i]? = some b->pz fs f.regs f.blocks b
def oV (m:DMod):Prop:=m.funcs.length<=16/\(∃ f,m.funcs[0]? = some f/\f.params=0)/\∀ i,i < m.funcs.length->∀ f,m.funcs[i]? = some f->yK m.funcs f
theorem r19 {q q' q2:Option Bool} {x y:TV} {e:List TV} {fs:List DFunc} {bs:List DBlock} {p regs:Int} {b:DBlock} (hx:RL q 3 (RFunc q) x fs) (hy:RL q2 14 (RBlock q2) y bs) (he:RBlock q' e b) :
  aj prog 60 [.agg [x,I p,I regs,y],.agg e] (B (tt (pz fs regs bs b))):=by
 obtain ⟨c,i,g,rfl,hc,hd,hi,hg,ho⟩:=he
 have h32:aj prog 72 [.agg [x,I p,I regs,y],B b.landing,.agg [I b.pad.dst,c,B b.pad.all,B b.pad.cleanup]] (B (tt (Ep b.landing regs b.pad))):=r32 (q:=q') ⟨c,rfl,hc,hd⟩
 have h34:aj prog 74 [.agg [x,I p,I regs,y],.agg [I b.fin.kind,I b.fin.a,I b.fin.dst,I b.fin.f,g,I b.fin.to,I b.fin.els,I b.fin.pad]] (B (tt (Cs fs regs bs b.fin))):=r34 (q':=q') hx hy ⟨g,rfl,hg,ho⟩
 refine aj.of (f60_MR _ _) ?_
 unfold f60_M
 refine aa.chk rfl (aa.chk rfl (aa.tv hi.len (aa.tv rfl (aa.ite rfl (fun h=>?_) fun h0=>?_))))
 ·simp at h
  exact bI fun h'=>by have:=h'.1; omega
 ·refine aa.call h32 (aa.chk rfl (aa.tv rfl (aa.ite rfl (fun h=>?_) fun h=>?_)))
  ·simp [fU] at h
   exact bI fun h'=>h h'.2.1
  ·simp [eY] at h h0
   refine aa.tv hi.len (f60_0_J ?_)
   rw [show tt (pz fs regs bs b)=tt (ft 0 b.ins.length (fun i=>∀ x,b.ins[i]? = some x->BU fs regs x)/\Cs fs regs bs b.fin) from cP (by
    rw [fg]
    exact ⟨fun h=>h.2.2,fun h'=>⟨by omega,h,h'⟩⟩)]
   refine Ay (g:=fun k=>f60_0 i (I b.ins.length) (I k) x (I p) (I regs) y (B b.landing) (I b.pad.dst) c (B b.pad.all) (B b.pad.cleanup) i (I b.fin.kind) (I b.fin.a) (I b.fin.dst) (I b.fin.f) g (I b.fin.to) (I b.fin.els) (I b.fin.pad)) ?_ ?_ b.ins.length 0 (by omega)
   ·unfold f60_0
    refine aa.tv rfl (aa.ite aP nofun fun _=>?_)
    refine f60_1_J ?_
    unfold f60_1
    exact aa.call h34 (aa.chk rfl aa.ret)
   ·intro k hk r h1 h2
    have ha:b.ins[k]? = some b.ins[k]:=GE hk
    obtain ⟨e,he,hr⟩:=hi.idx (k:=.i64) ha
    have h33:aj prog 73 [.agg [x,I p,I regs,y],.agg e] (B (tt (BU fs regs b.ins[k]))):=r33 hx hr
    obtain ⟨_,rfl,_⟩:=hr
    unfold f60_0
    refine aa.tv rfl (aa.ite (aE hk) (fun _=>?_) nofun)
    refine aa.tvs he (aa.chk rfl (aa.call h33 (aa.chk rfl (aa.tv rfl (aa.ite rfl (fun h=>?_) fun h=>?_)))))
    ·rw [h1 (by simp [ha]; simpa [fU] using h)]; exact aa.ret
    ·refine aa.tv (inc hk hi.bnd) (f60_0_J (h2 ?_))
     simp [ha]; simpa [eY] using h
theorem r10 {q q':Option Bool} {e e':List TV} {m:DMod} {f:DFunc} (hm:RMod q e m) (hf:RFunc q' e' f):aj prog 50 [.agg e,.agg e'] (B (tt (yK m.funcs f))):=by
 obtain ⟨x,rfl,hx⟩:=hm
 obtain ⟨y,rfl,hy,_⟩:=hf
 refine aj.of (f50_MR _ _) ?_
 unfold f50_M
 refine aa.chk rfl (aa.chk rfl (aa.tv rfl (aa.ite rfl (fun h=>?_) fun g1=>?_)))
 ·simp at h; exact bI fun h'=>by have:=h'.1; omega
 refine aa.tv rfl (aa.ite rfl (fun h=>?_) fun g2=>?_)
 ·simp at h; exact bI fun h'=>by have:=h'.1; omega
 refine aa.tv rfl (aa.ite rfl (fun h=>?_) fun g3=>?_)
 ·simp at h; exact bI fun h'=>by have:=h'.1; omega
 refine aa.tv rfl (aa.ite rfl (fun h=>?_) fun g4=>?_)
 ·simp at h; exact bI fun h'=>by have:=h'.1; omega
 refine aa.tv hy.len (aa.tv rfl (aa.ite rfl (fun h=>?_) fun g5=>?_))
 ·simp at h
  refine bI ?_
  rintro ⟨_,_,⟨b,hb,_⟩,_⟩
  have:=(GD.1 hb).1
  omega
 refine aa.tv hy.len (aa.tv rfl (aa.ite rfl (fun h=>?_) fun g6=>?_))
 ·simp at h; exact bI fun h'=>by have:=h'.2.1; omega
 simp at g1 g2 g3 g4 g5 g6
 have hpos:0 < f.blocks.length:=by omega
 have hb0:f.blocks[0]? = some f.blocks[0]:=GE hpos
 obtain ⟨e0,he0,hr0⟩:=hy.idx (k:=.i64) hb0
 obtain ⟨_,_,_,rfl,_⟩:=hr0
 refine aa.tvs he0 (aa.chk rfl (aa.ite rfl (fun h=>?_) fun g7=>?_))
 ·refine bI ?_
  rintro ⟨_,_,⟨b,hb,hl⟩,_⟩
  rw [hb0] at hb
  simp at hb
  subst hb
  rw [hl] at h
  cases h
 refine aa.tv hy.len (f50_0_J ?_)
 rw [show tt (yK m.funcs f)=tt (∀ i,i < f.blocks.length->∀ b,f.blocks[i]? = some b->pz m.funcs f.regs f.blocks b) from cP
  ⟨fun h=>h.2.2.2,fun h=>⟨⟨by omega,by omega,by omega,by omega⟩,by omega,⟨_,hb0,g7⟩,h⟩⟩]
 refine gm (g:=fun k=>f50_0 y (I f.blocks.length) (I k) x (I f.params) (I f.regs) y) ?_ ?_
 ·unfold f50_0
  refine aa.tv rfl (aa.ite aP nofun fun _=>?_)
  exact aa.ret
 ·intro k hk r h1 h2
  have ha:f.blocks[k]? = some f.blocks[k]:=GE hk
  obtain ⟨e,he,hr⟩:=hy.idx (k:=.i64) ha
  have h19:aj prog 60 [.agg [x,I f.params,I f.regs,y],.agg e] (B (tt (pz m.funcs f.regs f.blocks f.blocks[k]))):=r19 hx hy hr
  obtain ⟨_,_,_,rfl,_⟩:=hr
  unfold f50_0
  refine aa.tv rfl (aa.ite (aE hk) (fun _=>?_) nofun)
  refine aa.tvs he (aa.chk rfl (aa.call h19 (aa.chk rfl (aa.tv rfl (aa.ite rfl (fun h=>?_) fun h=>?_)))))
  ·rw [h1 (by simp [ha]; simpa [fU] using h)]; exact aa.ret
  ·refine aa.tv (inc hk hy.bnd) (f50_0_J (h2 ?_))
   simp [ha]; simpa [eY] using h
theorem r8 {q:Option Bool} {e:List TV} {m:DMod} (hm:RMod q e m):aj prog 34 [.agg e] (B (tt (oV m))):=by
 have hm':=hm
 obtain ⟨x,rfl,hx⟩:=hm
 refine aj.of (f34_MR _) ?_
 unfold f34_M
 refine aa.chk rfl (aa.tv hx.len (aa.tv rfl (aa.ite rfl (fun h=>?_) fun g1=>?_)))
 ·simp at h
  refine bI ?_
  rintro ⟨_,⟨b,hb,_⟩,_⟩
  have:=(GD.1 hb).1
  omega
 refine aa.tv hx.len (aa.tv rfl (aa.ite rfl (fun h=>?_) fun g2=>?_))
 ·simp at h; exact bI fun h'=>by have:=h'.1; omega
 simp at g1 g2
 have hpos:0 < m.funcs.length:=by omega
 have hb0:m.funcs[0]? = some m.funcs[0]:=GE hpos
 obtain ⟨e0,he0,hr0⟩:=hx.idx (k:=.i64) hb0
 obtain ⟨_,rfl,_⟩:=hr0
 refine aa.tvs he0 (aa.chk rfl (aa.tv rfl (aa.ite rfl (fun h=>?_) fun g7=>?_)))
 ·refine bI ?_
  rintro ⟨_,⟨b,hb,hl⟩,_⟩
  rw [hb0] at hb
  simp at hb
  subst hb
  rw [hl] at h
  simp at h
 simp at g7
 refine aa.tv hx.len (f34_0_J ?_)
 rw [show tt (oV m)=tt (∀ i,i < m.funcs.length->∀ f,m.funcs[i]? = some f->yK m.funcs f) from cP ⟨fun h=>h.2.2,fun h=>⟨by omega,⟨_,hb0,g7⟩,h⟩⟩]
 refine gm (g:=fun k=>f34_0 x (I m.funcs.length) (I k) x) ?_ ?_
 ·unfold f34_0
  refine aa.tv rfl (aa.ite aP nofun fun _=>?_)
  exact aa.ret
 ·intro k hk r h1 h2
  have ha:m.funcs[k]? = some m.funcs[k]:=GE hk
  obtain ⟨e,he,hr⟩:=hx.idx (k:=.i64) ha
  have h10:=r10 hm' hr
  obtain ⟨_,rfl,_⟩:=hr
  unfold f34_0
  refine aa.tv rfl (aa.ite (aE hk) (fun _=>?_) nofun)
  refine aa.tvs he (aa.chk rfl (aa.call h10 (aa.chk rfl (aa.tv rfl (aa.ite rfl (fun h=>?_) fun h=>?_)))))
  ·rw [h1 (by simp [ha]; simpa [fU] using h)]; exact aa.ret
  ·refine aa.tv (inc hk hx.bnd) (f34_0_J (h2 ?_))
   simp [ha]; simpa [eY] using h
end Go.Ab.Z12
end

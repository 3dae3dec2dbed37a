import Derived.Test.YtpkpckdealhkhaaBC14T
import Derived.Test.YtpkpckdealhkhaaBC14Xa
import Derived.Test.YtpkpckdealhkhaaBC14Xb
set_option linter.all false
section
set_option maxRecDepth 100000
namespace Go.Ab.C14
open Go Go.Ab Go.Proofs
open Go.Ab.TV (hole cell comp isSl isSc isTup cellsL tup agg)
open Go.Ab.Prg (tv tvs rws nat chk call jmp ret)
def f47_0_S  (x0 x1 x2 x3 x4 y5 y6 y7 y8 y9 y10 y11 y12 y13 y14 y15:TV):ASt:=⟨[Jk,Jk,Jk,Pt 0,Pt 1,Pt 2,Jk,AV.tv x0,AV.tv x1,AV.tv x2]++Rj 16 ++ [AV.tv x3]++Rj 24 ++ [AV.tv x4]++Rj 134,[Ct y5,some (BC.cells [CA.t y6,CA.t y7,CA.t y8]),some (BC.cells [CA.t y9,CA.t y10,CA.t y11,CA.t y12,CA.t y13,CA.t y14,CA.t y15])]++Rz 207,[]⟩
def f47_1_S  (x0 x1 x2 x3 x4 y5 y6 y7 y8 y9 y10 y11 y12 y13 y14 y15:TV):ASt:=⟨[Jk,Jk,Jk,Pt 0,Pt 1,Pt 2,Jk,AV.tv x0,AV.tv x1,AV.tv x2]++Rj 16 ++ [AV.tv x3]++Rj 45 ++ [AV.tv x4]++Rj 113,[Ct y5,some (BC.cells [CA.t y6,CA.t y7,CA.t y8]),some (BC.cells [CA.t y9,CA.t y10,CA.t y11,CA.t y12,CA.t y13,CA.t y14,CA.t y15])]++Rz 207,[]⟩
def f47_M (x0 x1 x2:TV):Prg TV :=
 chk (TV.isAgg x0 1) (
 chk (TV.isAgg x1 3) (
 chk (TV.isAgg x2 7) (
 call 56 [cell x2 1,cell x1 1] fun v0 =>
 chk (ab am [v0] 0) (
 call 56 [cell x2 2,cell x1 1] fun v1 =>
 chk (ab am [v1] 0) (
 call 56 [cell x2 3,cell x1 1] fun v2 =>
 chk (ab am [v2] 0) (
 tv (pbin (.int .i64) .eql (cell x2 0) (I 1)) fun v3 =>
 Prg.ite (asBool v3) (
 Prg.ite (asBool v0) (
 tv (pbin (.int .i64) .eql (cell x2 2) (I 0)) fun v4 =>
 Prg.ite (asBool v4) (
 tv (pbin (.int .i64) .eql (cell x2 3) (I 0)) fun v5 =>
 Prg.ite (asBool v5) (
 tv (pbin (.int .i64) .eql (cell x2 5) (I 0)) fun v6 =>
 Prg.ite (asBool v6) (
 tv (plen (.slice 3) (cell x2 6)) fun v7 =>
 tv (pbin (.int .i64) .eql v7 (I 0)) fun v8 =>
 ret v8) (
 ret (B false))) (
 ret (B false))) (
 ret (B false))) (
 ret (B false))) (
 tv (pbin (.int .i64) .eql (cell x2 0) (I 2)) fun v9 =>
 Prg.ite (asBool v9) (
 jmp [1,1,1,0,1,0,1,1] (f47_0_S v0 v1 v2 (cell x2 0) v9 (cell x0 0) (cell x1 0) (cell x1 1) (cell x1 2) (cell x2 0) (cell x2 1) (cell x2 2) (cell x2 3) (cell x2 4) (cell x2 5) (cell x2 6))) (
 tv (pbin (.int .i64) .eql (cell x2 0) (I 9)) fun v10 =>
 jmp [1,1,1,0,1,0,1,1] (f47_0_S v0 v1 v2 (cell x2 0) v10 (cell x0 0) (cell x1 0) (cell x1 1) (cell x1 2) (cell x2 0) (cell x2 1) (cell x2 2) (cell x2 3) (cell x2 4) (cell x2 5) (cell x2 6))))))))))
def f47_0  (x0 x1 x2 x3 x4 y5 y6 y7 y8 y9 y10 y11 y12 y13 y14 y15:TV):Prg TV :=
 Prg.ite (asBool x4) (
 Prg.ite (asBool x0) (
 Prg.ite (asBool x1) (
 tv (pbin (.int .i64) .eql y12 (I 0)) fun v11 =>
 Prg.ite (asBool v11) (
 call 59 [y13,y14,y15] fun v12 =>
 chk (ab am [v12] 0) (
 ret v12)) (
 ret (B false))) (
 ret (B false))) (
 ret (B false))) (
 tv (pbin (.int .i64) .eql x3 (I 3)) fun v13 =>
 Prg.ite (asBool v13) (
 jmp [1,1,1,1,1,0,1,0,1,1] (f47_1_S x0 x1 x2 x3 v13 y5 y6 y7 y8 y9 y10 y11 y12 y13 y14 y15)) (
 tv (pbin (.int .i64) .eql x3 (I 4)) fun v14 =>
 Prg.ite (asBool v14) (
 jmp [1,1,1,1,1,0,1,0,1,1] (f47_1_S x0 x1 x2 x3 v14 y5 y6 y7 y8 y9 y10 y11 y12 y13 y14 y15)) (
 tv (pbin (.int .i64) .eql x3 (I 5)) fun v15 =>
 Prg.ite (asBool v15) (
 jmp [1,1,1,1,1,0,1,0,1,1] (f47_1_S x0 x1 x2 x3 v15 y5 y6 y7 y8 y9 y10 y11 y12 y13 y14 y15)) (
 tv (pbin (.int .i64) .eql x3 (I 6)) fun v16 =>
 Prg.ite (asBool v16) (
 jmp [1,1,1,1,1,0,1,0,1,1] (f47_1_S x0 x1 x2 x3 v16 y5 y6 y7 y8 y9 y10 y11 y12 y13 y14 y15)) (
 tv (pbin (.int .i64) .eql x3 (I 7)) fun v17 =>
 Prg.ite (asBool v17) (
 jmp [1,1,1,1,1,0,1,0,1,1] (f47_1_S x0 x1 x2 x3 v17 y5 y6 y7 y8 y9 y10 y11 y12 y13 y14 y15)) (
 tv (pbin (.int .i64) .eql x3 (I 8)) fun v18 =>
 jmp [1,1,1,1,1,0,1,0,1,1] (f47_1_S x0 x1 x2 x3 v18 y5 y6 y7 y8 y9 y10 y11 y12 y13 y14 y15)))))))
def f47_1  (x0 x1 x2 x3 x4 y5 y6 y7 y8 y9 y10 y11 y12 y13 y14 y15:TV):Prg TV :=
 Prg.ite (asBool x4) (
 Prg.ite (asBool x0) (
 Prg.ite (asBool x1) (
 Prg.ite (asBool x2) (
 call 59 [y13,y14,y15] fun v19 =>
 chk (ab am [v19] 0) (
 ret v19)) (
 ret (B false))) (
 ret (B false))) (
 ret (B false))) (
 tv (pbin (.int .i64) .eql x3 (I 10)) fun v20 =>
 Prg.ite (asBool v20) (
 tv (pbin (.int .i64) .eql y10 (I 0)) fun v21 =>
 Prg.ite (asBool v21) (
 Prg.ite (asBool x1) (
 Prg.ite (asBool x2) (
 call 59 [y13,y14,y15] fun v22 =>
 chk (ab am [v22] 0) (
 ret v22)) (
 ret (B false))) (
 ret (B false))) (
 ret (B false))) (
 tv (pbin (.int .i64) .eql x3 (I 11)) fun v23 =>
 Prg.ite (asBool v23) (
 Prg.ite (asBool x0) (
 tv (pbin (.int .i64) .eql y11 (I 0)) fun v24 =>
 Prg.ite (asBool v24) (
 tv (pbin (.int .i64) .eql y12 (I 0)) fun v25 =>
 Prg.ite (asBool v25) (
 tv (pbin (.int .u16) .eql y13 (W 0)) fun v26 =>
 Prg.ite (asBool v26) (
 call 58 [agg [y5],agg [y6,y7,y8],y14,y15] fun v27 =>
 chk (ab am [v27] 0) (
 ret v27)) (
 ret (B false))) (
 ret (B false))) (
 ret (B false))) (
 ret (B false))) (
 tv (pbin (.int .i64) .eql x3 (I 12)) fun v28 =>
 Prg.ite (asBool v28) (
 tv (pbin (.int .i64) .eql y10 (I 0)) fun v29 =>
 Prg.ite (asBool v29) (
 Prg.ite (asBool x1) (
 tv (pbin (.int .i64) .eql y12 (I 0)) fun v30 =>
 Prg.ite (asBool v30) (
 call 59 [y13,y14,y15] fun v31 =>
 chk (ab am [v31] 0) (
 ret v31)) (
 ret (B false))) (
 ret (B false))) (
 ret (B false))) (
 tv (pbin (.int .i64) .eql x3 (I 13)) fun v32 =>
 Prg.ite (asBool v32) (
 Prg.ite (asBool x0) (
 tv (pbin (.int .i64) .eql y11 (I 0)) fun v33 =>
 Prg.ite (asBool v33) (
 tv (pbin (.int .i64) .eql y12 (I 0)) fun v34 =>
 Prg.ite (asBool v34) (
 call 59 [y13,y14,y15] fun v35 =>
 chk (ab am [v35] 0) (
 ret v35)) (
 ret (B false))) (
 ret (B false))) (
 ret (B false))) (
 ret (B false))))))
theorem f47_MR (x0 x1 x2:TV):ar prog 47 [x0,x1,x2]=f47_M x0 x1 x2:=by kernel_rfl
theorem f47_0_J  {x0 x1 x2 x3 x4 y5 y6 y7 y8 y9 y10 y11 y12 y13 y14 y15:TV} {r:TV} (h:aa prog 47 (f47_0 x0 x1 x2 x3 x4 y5 y6 y7 y8 y9 y10 y11 y12 y13 y14 y15) r):aa prog 47 (.jmp [1,1,1,0,1,0,1,1] (f47_0_S x0 x1 x2 x3 x4 y5 y6 y7 y8 y9 y10 y11 y12 y13 y14 y15)) r:=aa.jmp (by kernel_rfl) h
theorem f47_1_J  {x0 x1 x2 x3 x4 y5 y6 y7 y8 y9 y10 y11 y12 y13 y14 y15:TV} {r:TV} (h:aa prog 47 (f47_1 x0 x1 x2 x3 x4 y5 y6 y7 y8 y9 y10 y11 y12 y13 y14 y15) r):aa prog 47 (.jmp [1,1,1,1,1,0,1,0,1,1] (f47_1_S x0 x1 x2 x3 x4 y5 y6 y7 y8 y9 y10 y11 y12 y13 y14 y15)) r:=aa.jmp (by kernel_rfl) h
def f48_M (x0 x1 x2 x3:TV):Prg TV :=
 chk (TV.isAgg x0 1) (
 chk (TV.isAgg x3 14) (
 rws (pelems 3 (cell x0 0)) fun r0 =>
 tv (papp 3 (TV.sl true 3 (chunks 3 0 [])) r0) fun v1 =>
 nat (slLen v1) fun n2 =>
 nat (aB x1) fun n3 =>
 chk (Bool.and (slSize v1 3) (Nat.blt n3 n2)) (
 tvs (pel v1 n3) fun e4 =>
 chk (ab zSl e4 2) (
 tv (aS [(n3,2)] v1) fun v5 =>
 chk (TV.fX v5) (
 rws (pelems 14 v5) fun r6 =>
 tv (papp 14 (TV.sl true 14 (chunks 14 0 [])) r6) fun v7 =>
 nat (slLen v7) fun n8 =>
 nat (aB x2) fun n9 =>
 chk (Bool.and (slSize v7 14) (Nat.blt n9 n8)) (
 tvs (pel v7 n9) fun e10 =>
 chk (Bool.and (bD cE e10 0) (ab cE [cell x3 0,cell x3 1,cell x3 2,cell x3 3,cell x3 4,cell x3 5,cell x3 6,cell x3 7,cell x3 8,cell x3 9,cell x3 10,cell x3 11,cell x3 12,cell x3 13] 0)) (
 tv (fK [] v7 n9 0 [cell x3 0,cell x3 1,cell x3 2,cell x3 3,cell x3 4,cell x3 5,cell x3 6,cell x3 7,cell x3 8,cell x3 9,cell x3 10,cell x3 11,cell x3 12,cell x3 13]) fun v11 =>
 nat (slLen v1) fun n12 =>
 nat (aB x1) fun n13 =>
 chk (Bool.and (slSize v1 3) (Nat.blt n13 n12)) (
 tvs (pel v1 n13) fun e14 =>
 chk (Bool.and (bD zSl e14 2) (ab zSl [v11] 0)) (
 tv (fK [] v1 n13 2 [v11]) fun v15 =>
 ret (agg [v15]))))))))))
theorem f48_MR (x0 x1 x2 x3:TV):ar prog 48 [x0,x1,x2,x3]=f48_M x0 x1 x2 x3:=by kernel_rfl
def f49_0_S  (x0 x1 x2 y3 y4 y5 y6 y7 y8 y9 y10 y11 y12 y13 y14 y15 y16 y17 y18 y19 y20:TV):ASt:=⟨[Jk,Jk,Pt 0,Pt 1]++Rj 17 ++ [AV.tv x0,AV.tv x1,AV.tv x2]++Rj 12,[some (BC.cells [CA.t y3,CA.t y4,CA.t y5,CA.t y6]),some (BC.cells [CA.t y7,CA.t y8,CA.t y9,CA.t y10,CA.t y11,CA.t y12,CA.t y13,CA.t y14,CA.t y15,CA.t y16,CA.t y17,CA.t y18,CA.t y19,CA.t y20])]++Rz 58,[]⟩
def f49_1_S  (y0 y1 y2 y3 y4 y5 y6 y7 y8 y9 y10 y11 y12 y13 y14 y15 y16 y17:TV):ASt:=⟨[Jk,Jk,Pt 0,Pt 1]++Rj 32,[some (BC.cells [CA.t y0,CA.t y1,CA.t y2,CA.t y3]),some (BC.cells [CA.t y4,CA.t y5,CA.t y6,CA.t y7,CA.t y8,CA.t y9,CA.t y10,CA.t y11,CA.t y12,CA.t y13,CA.t y14,CA.t y15,CA.t y16,CA.t y17])]++Rz 58,[]⟩
def f49_M (x0 x1:TV):Prg TV :=
 chk (TV.isAgg x0 4) (
 chk (TV.isAgg x1 14) (
 tv (plen (.slice 55) (cell x1 5)) fun v0 =>
 tv (pbin (.int .i64) .gtr v0 (I 64)) fun v1 =>
 Prg.ite (asBool v1) (
 ret (B false)) (
 call 60 [agg [cell x0 0,cell x0 1,cell x0 2,cell x0 3],cell x1 0,agg [cell x1 1,cell x1 2,cell x1 3,cell x1 4]] fun v2 =>
 chk (ab am [v2] 0) (
 tv (pun .not v2) fun v3 =>
 Prg.ite (asBool v3) (
 ret (B false)) (
 tv (plen (.slice 55) (cell x1 5)) fun v4 =>
 jmp [0,0,1,0,1,1] (f49_0_S (cell x1 5) v4 (I 0) (cell x0 0) (cell x0 1) (cell x0 2) (cell x0 3) (cell x1 0) (cell x1 1) (cell x1 2) (cell x1 3) (cell x1 4) (cell x1 5) (cell x1 6) (cell x1 7) (cell x1 8) (cell x1 9) (cell x1 10) (cell x1 11) (cell x1 12) (cell x1 13)))))))
def f49_0  (x0 x1 x2 y3 y4 y5 y6 y7 y8 y9 y10 y11 y12 y13 y14 y15 y16 y17 y18 y19 y20:TV):Prg TV :=
 tv (pbin (.int .i64) .lss x2 x1) fun v5 =>
 Prg.ite (asBool v5) (
 tvs (pidx 7 x0 x2) fun e6 =>
 chk (Nat.ble 7 (List.length e6)) (
 call 61 [agg [y3,y4,y5,y6],agg [nth hole e6 0,nth hole e6 1,nth hole e6 2,nth hole e6 3,nth hole e6 4,nth hole e6 5,nth hole e6 6]] fun v7 =>
 chk (ab am [v7] 0) (
 tv (pun .not v7) fun v8 =>
 Prg.ite (asBool v8) (
 ret (B false)) (
 tv (pbin (.int .i64) .add x2 (I 1)) fun v9 =>
 jmp [0,0,1,0,1,1] (f49_0_S x0 x1 v9 y3 y4 y5 y6 y7 y8 y9 y10 y11 y12 y13 y14 y15 y16 y17 y18 y19 y20))))) (
 jmp [1,1,1] (f49_1_S y3 y4 y5 y6 y7 y8 y9 y10 y11 y12 y13 y14 y15 y16 y17 y18 y19 y20))
def f49_1  (y0 y1 y2 y3 y4 y5 y6 y7 y8 y9 y10 y11 y12 y13 y14 y15 y16 y17:TV):Prg TV :=
 call 62 [agg [y0,y1,y2,y3],agg [y10,y11,y12,y13,y14,y15,y16,y17]] fun v10 =>
 chk (ab am [v10] 0) (
 ret v10)
theorem f49_MR (x0 x1:TV):ar prog 49 [x0,x1]=f49_M x0 x1:=by kernel_rfl
theorem f49_0_J  {x0 x1 x2 y3 y4 y5 y6 y7 y8 y9 y10 y11 y12 y13 y14 y15 y16 y17 y18 y19 y20:TV} {r:TV} (h:aa prog 49 (f49_0 x0 x1 x2 y3 y4 y5 y6 y7 y8 y9 y10 y11 y12 y13 y14 y15 y16 y17 y18 y19 y20) r):aa prog 49 (.jmp [0,0,1,0,1,1] (f49_0_S x0 x1 x2 y3 y4 y5 y6 y7 y8 y9 y10 y11 y12 y13 y14 y15 y16 y17 y18 y19 y20)) r:=aa.jmp (by kernel_rfl) h
theorem f49_1_J  {y0 y1 y2 y3 y4 y5 y6 y7 y8 y9 y10 y11 y12 y13 y14 y15 y16 y17:TV} {r:TV} (h:aa prog 49 (f49_1 y0 y1 y2 y3 y4 y5 y6 y7 y8 y9 y10 y11 y12 y13 y14 y15 y16 y17) r):aa prog 49 (.jmp [1,1,1] (f49_1_S y0 y1 y2 y3 y4 y5 y6 y7 y8 y9 y10 y11 y12 y13 y14 y15 y16 y17)) r:=aa.jmp (by kernel_rfl) h
def f56_M (x0 x1:TV):Prg TV :=
 tv (pbin (.int .i64) .geq x0 (I 0)) fun v0 =>
 Prg.ite (asBool v0) (
 tv (pbin (.int .i64) .lss x0 x1) fun v1 =>
 ret v1) (
 ret (B false))
theorem f56_MR (x0 x1:TV):ar prog 56 [x0,x1]=f56_M x0 x1:=by kernel_rfl
def f57_M (x0 x1:TV):Prg TV :=
 chk (TV.isAgg x0 3) (
 tv (plen (.slice 48) (cell x0 2)) fun v0 =>
 call 56 [x1,v0] fun v1 =>
 chk (ab am [v1] 0) (
 Prg.ite (asBool v1) (
 tvs (pidx 14 (cell x0 2) x1) fun e2 =>
 chk (Nat.blt 0 (List.length e2)) (
 tv (pun .not (nth hole e2 0)) fun v3 =>
 ret v3)) (
 ret (B false))))
theorem f57_MR (x0 x1:TV):ar prog 57 [x0,x1]=f57_M x0 x1:=by kernel_rfl
def f58_0_S  (x0 x1 y2 y3 y4:TV):ASt:=⟨[Jk,Jk,Jk,AV.tv x0,Jk,Pt 0,Jk,Jk,Jk,AV.tv x1]++Rj 31,[some (BC.cells [CA.t y2,CA.t y3,CA.t y4])]++Rz 64,[]⟩
def f58_M (x0 x1 x2 x3:TV):Prg TV :=
 chk (TV.isAgg x0 1) (
 chk (TV.isAgg x1 3) (
 tv (plen (.slice 40) (cell x0 0)) fun v0 =>
 call 56 [x2,v0] fun v1 =>
 chk (ab am [v1] 0) (
 tv (pun .not v1) fun v2 =>
 Prg.ite (asBool v2) (
 ret (B false)) (
 tv (plen (.slice 3) x3) fun v3 =>
 tvs (pidx 3 (cell x0 0) x2) fun e4 =>
 chk (Nat.blt 0 (List.length e4)) (
 tv (pbin (.int .i64) .neq v3 (nth hole e4 0)) fun v5 =>
 Prg.ite (asBool v5) (
 ret (B false)) (
 jmp [0,0,1,0,1,1] (f58_0_S x3 (I 0) (cell x1 0) (cell x1 1) (cell x1 2))))))))
def f58_0  (x0 x1 y2 y3 y4:TV):Prg TV :=
 tv (plen (.slice 3) x0) fun v6 =>
 tv (pbin (.int .i64) .lss x1 v6) fun v7 =>
 Prg.ite (asBool v7) (
 tvs (pidx 1 x0 x1) fun e8 =>
 chk (Nat.blt 0 (List.length e8)) (
 call 56 [nth hole e8 0,y3] fun v9 =>
 chk (ab am [v9] 0) (
 tv (pun .not v9) fun v10 =>
 Prg.ite (asBool v10) (
 ret (B false)) (
 tv (pbin (.int .i64) .add x1 (I 1)) fun v11 =>
 jmp [0,0,1,0,1,1] (f58_0_S x0 v11 y2 y3 y4))))) (
 ret (B true))
theorem f58_MR (x0 x1 x2 x3:TV):ar prog 58 [x0,x1,x2,x3]=f58_M x0 x1 x2 x3:=by kernel_rfl
theorem f58_0_J  {x0 x1 y2 y3 y4:TV} {r:TV} (h:aa prog 58 (f58_0 x0 x1 y2 y3 y4) r):aa prog 58 (.jmp [0,0,1,0,1,1] (f58_0_S x0 x1 y2 y3 y4)) r:=aa.jmp (by kernel_rfl) h
def f59_M (x0 x1 x2:TV):Prg TV :=
 tv (pbin (.int .u16) .eql x0 (W 0)) fun v0 =>
 Prg.ite (asBool v0) (
 tv (pbin (.int .i64) .eql x1 (I 0)) fun v1 =>
 Prg.ite (asBool v1) (
 tv (plen (.slice 3) x2) fun v2 =>
 tv (pbin (.int .i64) .eql v2 (I 0)) fun v3 =>
 ret v3) (
 ret (B false))) (
 ret (B false))
theorem f59_MR (x0 x1 x2:TV):ar prog 59 [x0,x1,x2]=f59_M x0 x1 x2:=by kernel_rfl
def f60_M (x0 x1 x2:TV):Prg TV :=
 chk (TV.isAgg x0 4) (
 chk (TV.isAgg x2 4) (
 tv (pun .not x1) fun v0 =>
 Prg.ite (asBool v0) (
 tv (pbin (.int .i64) .eql (cell x2 0) (I 0)) fun v1 =>
 Prg.ite (asBool v1) (
 tv (plen (.slice 53) (cell x2 1)) fun v2 =>
 tv (pbin (.int .i64) .eql v2 (I 0)) fun v3 =>
 Prg.ite (asBool v3) (
 tv (pun .not (cell x2 2)) fun v4 =>
 Prg.ite (asBool v4) (
 tv (pun .not (cell x2 3)) fun v5 =>
 ret v5) (
 ret (B false))) (
 ret (B false))) (
 ret (B false))) (
 call 72 [agg [cell x0 0,cell x0 1,cell x0 2,cell x0 3],B true,cell x2 0] fun v6 =>
 chk (ab am [v6] 0) (
 Prg.ite (asBool v6) (
 tv (plen (.slice 53) (cell x2 1)) fun v7 =>
 tv (pbin (.int .i64) .leq v7 (I 8)) fun v8 =>
 Prg.ite (asBool v8) (
 call 73 [cell x2 1] fun v9 =>
 chk (ab am [v9] 0) (
 Prg.ite (asBool v9) (
 tv (plen (.slice 53) (cell x2 1)) fun v10 =>
 tv (pbin (.int .i64) .gtr v10 (I 0)) fun v11 =>
 Prg.ite (asBool v11) (
 ret (B true)) (
 Prg.ite (asBool (cell x2 2)) (
 ret (B true)) (
 ret (cell x2 3)))) (
 ret (B false)))) (
 ret (B false))) (
 ret (B false))))))
theorem f60_MR (x0 x1 x2:TV):ar prog 60 [x0,x1,x2]=f60_M x0 x1 x2:=by kernel_rfl
def f61_M (x0 x1:TV):Prg TV :=
 chk (TV.isAgg x0 4) (
 chk (TV.isAgg x1 7) (
 call 74 [cell x1 0] fun v0 =>
 chk (ab yg [v0] 0) (
 call 75 [v0,I 1] fun v1 =>
 chk (ab am [v1] 0) (
 Prg.ite (asBool v1) (
 call 75 [v0,I 2] fun v2 =>
 chk (ab am [v2] 0) (
 call 72 [agg [cell x0 0,cell x0 1,cell x0 2,cell x0 3],v2,cell x1 1] fun v3 =>
 chk (ab am [v3] 0) (
 Prg.ite (asBool v3) (
 call 75 [v0,I 4] fun v4 =>
 chk (ab am [v4] 0) (
 call 72 [agg [cell x0 0,cell x0 1,cell x0 2,cell x0 3],v4,cell x1 2] fun v5 =>
 chk (ab am [v5] 0) (
 Prg.ite (asBool v5) (
 call 75 [v0,I 8] fun v6 =>
 chk (ab am [v6] 0) (
 call 72 [agg [cell x0 0,cell x0 1,cell x0 2,cell x0 3],v6,cell x1 3] fun v7 =>
 chk (ab am [v7] 0) (
 Prg.ite (asBool v7) (
 call 75 [v0,I 16] fun v8 =>
 chk (ab am [v8] 0) (
 Prg.ite (asBool v8) (
 call 75 [v0,I 32] fun v9 =>
 chk (ab am [v9] 0) (
 call 76 [agg [cell x0 0,cell x0 1,cell x0 2,cell x0 3],v9,cell x1 5,cell x1 6] fun v10 =>
 chk (ab am [v10] 0) (
 ret v10))) (
 tv (pbin (.int .u16) .eql (cell x1 4) (W 0)) fun v11 =>
 Prg.ite (asBool v11) (
 call 75 [v0,I 32] fun v12 =>
 chk (ab am [v12] 0) (
 call 76 [agg [cell x0 0,cell x0 1,cell x0 2,cell x0 3],v12,cell x1 5,cell x1 6] fun v13 =>
 chk (ab am [v13] 0) (
 ret v13))) (
 ret (B false))))) (
 ret (B false))))) (
 ret (B false))))) (
 ret (B false))))) (
 ret (B false))))))
theorem f61_MR (x0 x1:TV):ar prog 61 [x0,x1]=f61_M x0 x1:=by kernel_rfl
def f62_M (x0 x1:TV):Prg TV :=
 chk (TV.isAgg x0 4) (
 chk (TV.isAgg x1 8) (
 call 77 [cell x1 0] fun v0 =>
 chk (ab yg [v0] 0) (
 call 75 [v0,I 1] fun v1 =>
 chk (ab am [v1] 0) (
 Prg.ite (asBool v1) (
 call 75 [v0,I 4] fun v2 =>
 chk (ab am [v2] 0) (
 call 72 [agg [cell x0 0,cell x0 1,cell x0 2,cell x0 3],v2,cell x1 1] fun v3 =>
 chk (ab am [v3] 0) (
 Prg.ite (asBool v3) (
 call 75 [v0,I 2] fun v4 =>
 chk (ab am [v4] 0) (
 call 72 [agg [cell x0 0,cell x0 1,cell x0 2,cell x0 3],v4,cell x1 2] fun v5 =>
 chk (ab am [v5] 0) (
 Prg.ite (asBool v5) (
 call 75 [v0,I 32] fun v6 =>
 chk (ab am [v6] 0) (
 call 76 [agg [cell x0 0,cell x0 1,cell x0 2,cell x0 3],v6,cell x1 3,cell x1 4] fun v7 =>
 chk (ab am [v7] 0) (
 Prg.ite (asBool v7) (
 call 75 [v0,I 64] fun v8 =>
 chk (ab am [v8] 0) (
 call 78 [agg [cell x0 0,cell x0 1,cell x0 2,cell x0 3],v8,cell x1 5,B false] fun v9 =>
 chk (ab am [v9] 0) (
 Prg.ite (asBool v9) (
 call 75 [v0,I 128] fun v10 =>
 chk (ab am [v10] 0) (
 call 78 [agg [cell x0 0,cell x0 1,cell x0 2,cell x0 3],v10,cell x1 6,B false] fun v11 =>
 chk (ab am [v11] 0) (
 Prg.ite (asBool v11) (
 call 75 [v0,I 256] fun v12 =>
 chk (ab am [v12] 0) (
 call 78 [agg [cell x0 0,cell x0 1,cell x0 2,cell x0 3],v12,cell x1 7,B true] fun v13 =>
 chk (ab am [v13] 0) (
 ret v13))) (
 ret (B false))))) (
 ret (B false))))) (
 ret (B false))))) (
 ret (B false))))) (
 ret (B false))))) (
 ret (B false))))))
theorem f62_MR (x0 x1:TV):ar prog 62 [x0,x1]=f62_M x0 x1:=by kernel_rfl
end Go.Ab.C14
end
section
set_option maxRecDepth 100000
namespace Go.Ab.C14
open Go Go.Ab Go.Proofs
open Go.Ab.TV (hole cell comp isSl isSc isTup cellsL tup agg)
open Go.Ab.Prg (tv tvs rws nat chk call jmp ret)
def f72_M (x0 x1 x2:TV):Prg TV :=
 chk (TV.isAgg x0 4) (
 tv (pun .not x1) fun v0 =>
 Prg.ite (asBool v0) (
 tv (pbin (.int .i64) .eql x2 (I 0)) fun v1 =>
 ret v1) (
 tv (pbin (.int .i64) .leq (I 0) x2) fun v2 =>
 Prg.ite (asBool v2) (
 tv (pbin (.int .i64) .lss x2 (cell x0 2)) fun v3 =>
 ret v3) (
 ret (B false))))
theorem f72_MR (x0 x1 x2:TV):ar prog 72 [x0,x1,x2]=f72_M x0 x1 x2:=by kernel_rfl
def f73_0_S  (x0 x1 x2 x3:TV):ASt:=⟨[AV.tv x0]++Rj 4 ++ [AV.tv x1,AV.tv x2,AV.tv x3]++Rj 10,Rz 42,[]⟩
def f73_M (x0:TV):Prg TV :=
 tv (plen (.slice 53) x0) fun v0 =>
 jmp [0,0,1,0,1] (f73_0_S x0 x0 v0 (I 0))
def f73_0  (x0 x1 x2 x3:TV):Prg TV :=
 tv (pbin (.int .i64) .lss x3 x2) fun v1 =>
 Prg.ite (asBool v1) (
 tvs (pidx 1 x1 x3) fun e2 =>
 chk (Nat.blt 0 (List.length e2)) (
 nat (aB x3) fun n3 =>
 tv (pslice (.slice 53) 1 x0 none (some n3)) fun v4 =>
 call 84 [v4,nth hole e2 0] fun v5 =>
 chk (ab am [v5] 0) (
 Prg.ite (asBool v5) (
 ret (B false)) (
 tv (pbin (.int .i64) .add x3 (I 1)) fun v6 =>
 jmp [0,0,1,0,1] (f73_0_S x0 x1 x2 v6))))) (
 ret (B true))
theorem f73_MR (x0:TV):ar prog 73 [x0]=f73_M x0:=by kernel_rfl
theorem f73_0_J  {x0 x1 x2 x3:TV} {r:TV} (h:aa prog 73 (f73_0 x0 x1 x2 x3) r):aa prog 73 (.jmp [0,0,1,0,1] (f73_0_S x0 x1 x2 x3)) r:=aa.jmp (by kernel_rfl) h
def f74_M (x0:TV):Prg TV :=
 tv (pbin (.int .i64) .eql x0 (I 1)) fun v0 =>
 Prg.ite (asBool v0) (
 ret (I 19)) (
 tv (pbin (.int .i64) .eql x0 (I 2)) fun v1 =>
 Prg.ite (asBool v1) (
 Prg.ite (asBool v1) (
 ret (I 7)) (
 tv (pbin (.int .i64) .eql x0 (I 3)) fun v2 =>
 Prg.ite (asBool v2) (
 Prg.ite (asBool v2) (
 ret (I 15)) (
 tv (pbin (.int .i64) .eql x0 (I 10)) fun v3 =>
 Prg.ite (asBool v3) (
 ret (I 13)) (
 tv (pbin (.int .i64) .eql x0 (I 11)) fun v4 =>
 Prg.ite (asBool v4) (
 ret (I 35)) (
 tv (pbin (.int .i64) .eql x0 (I 12)) fun v5 =>
 Prg.ite (asBool v5) (
 ret (I 5)) (
 tv (pbin (.int .i64) .eql x0 (I 13)) fun v6 =>
 Prg.ite (asBool v6) (
 ret (I 3)) (
 ret (I 0))))))) (
 tv (pbin (.int .i64) .eql x0 (I 4)) fun v7 =>
 Prg.ite (asBool v7) (
 Prg.ite (asBool v7) (
 ret (I 15)) (
 tv (pbin (.int .i64) .eql x0 (I 10)) fun v8 =>
 Prg.ite (asBool v8) (
 ret (I 13)) (
 tv (pbin (.int .i64) .eql x0 (I 11)) fun v9 =>
 Prg.ite (asBool v9) (
 ret (I 35)) (
 tv (pbin (.int .i64) .eql x0 (I 12)) fun v10 =>
 Prg.ite (asBool v10) (
 ret (I 5)) (
 tv (pbin (.int .i64) .eql x0 (I 13)) fun v11 =>
 Prg.ite (asBool v11) (
 ret (I 3)) (
 ret (I 0))))))) (
 tv (pbin (.int .i64) .eql x0 (I 5)) fun v12 =>
 Prg.ite (asBool v12) (
 Prg.ite (asBool v12) (
 ret (I 15)) (
 tv (pbin (.int .i64) .eql x0 (I 10)) fun v13 =>
 Prg.ite (asBool v13) (
 ret (I 13)) (
 tv (pbin (.int .i64) .eql x0 (I 11)) fun v14 =>
 Prg.ite (asBool v14) (
 ret (I 35)) (
 tv (pbin (.int .i64) .eql x0 (I 12)) fun v15 =>
 Prg.ite (asBool v15) (
 ret (I 5)) (
 tv (pbin (.int .i64) .eql x0 (I 13)) fun v16 =>
 Prg.ite (asBool v16) (
 ret (I 3)) (
 ret (I 0))))))) (
 tv (pbin (.int .i64) .eql x0 (I 6)) fun v17 =>
 Prg.ite (asBool v17) (
 Prg.ite (asBool v17) (
 ret (I 15)) (
 tv (pbin (.int .i64) .eql x0 (I 10)) fun v18 =>
 Prg.ite (asBool v18) (
 ret (I 13)) (
 tv (pbin (.int .i64) .eql x0 (I 11)) fun v19 =>
 Prg.ite (asBool v19) (
 ret (I 35)) (
 tv (pbin (.int .i64) .eql x0 (I 12)) fun v20 =>
 Prg.ite (asBool v20) (
 ret (I 5)) (
 tv (pbin (.int .i64) .eql x0 (I 13)) fun v21 =>
 Prg.ite (asBool v21) (
 ret (I 3)) (
 ret (I 0))))))) (
 tv (pbin (.int .i64) .eql x0 (I 7)) fun v22 =>
 Prg.ite (asBool v22) (
 Prg.ite (asBool v22) (
 ret (I 15)) (
 tv (pbin (.int .i64) .eql x0 (I 10)) fun v23 =>
 Prg.ite (asBool v23) (
 ret (I 13)) (
 tv (pbin (.int .i64) .eql x0 (I 11)) fun v24 =>
 Prg.ite (asBool v24) (
 ret (I 35)) (
 tv (pbin (.int .i64) .eql x0 (I 12)) fun v25 =>
 Prg.ite (asBool v25) (
 ret (I 5)) (
 tv (pbin (.int .i64) .eql x0 (I 13)) fun v26 =>
 Prg.ite (asBool v26) (
 ret (I 3)) (
 ret (I 0))))))) (
 tv (pbin (.int .i64) .eql x0 (I 8)) fun v27 =>
 Prg.ite (asBool v27) (
 ret (I 15)) (
 tv (pbin (.int .i64) .eql x0 (I 10)) fun v28 =>
 Prg.ite (asBool v28) (
 ret (I 13)) (
 tv (pbin (.int .i64) .eql x0 (I 11)) fun v29 =>
 Prg.ite (asBool v29) (
 ret (I 35)) (
 tv (pbin (.int .i64) .eql x0 (I 12)) fun v30 =>
 Prg.ite (asBool v30) (
 ret (I 5)) (
 tv (pbin (.int .i64) .eql x0 (I 13)) fun v31 =>
 Prg.ite (asBool v31) (
 ret (I 3)) (
 ret (I 0))))))))))))) (
 tv (pbin (.int .i64) .eql x0 (I 9)) fun v32 =>
 Prg.ite (asBool v32) (
 ret (I 7)) (
 tv (pbin (.int .i64) .eql x0 (I 3)) fun v33 =>
 Prg.ite (asBool v33) (
 Prg.ite (asBool v33) (
 ret (I 15)) (
 tv (pbin (.int .i64) .eql x0 (I 10)) fun v34 =>
 Prg.ite (asBool v34) (
 ret (I 13)) (
 tv (pbin (.int .i64) .eql x0 (I 11)) fun v35 =>
 Prg.ite (asBool v35) (
 ret (I 35)) (
 tv (pbin (.int .i64) .eql x0 (I 12)) fun v36 =>
 Prg.ite (asBool v36) (
 ret (I 5)) (
 tv (pbin (.int .i64) .eql x0 (I 13)) fun v37 =>
 Prg.ite (asBool v37) (
 ret (I 3)) (
 ret (I 0))))))) (
 tv (pbin (.int .i64) .eql x0 (I 4)) fun v38 =>
 Prg.ite (asBool v38) (
 Prg.ite (asBool v38) (
 ret (I 15)) (
 tv (pbin (.int .i64) .eql x0 (I 10)) fun v39 =>
 Prg.ite (asBool v39) (
 ret (I 13)) (
 tv (pbin (.int .i64) .eql x0 (I 11)) fun v40 =>
 Prg.ite (asBool v40) (
 ret (I 35)) (
 tv (pbin (.int .i64) .eql x0 (I 12)) fun v41 =>
 Prg.ite (asBool v41) (
 ret (I 5)) (
 tv (pbin (.int .i64) .eql x0 (I 13)) fun v42 =>
 Prg.ite (asBool v42) (
 ret (I 3)) (
 ret (I 0))))))) (
 tv (pbin (.int .i64) .eql x0 (I 5)) fun v43 =>
 Prg.ite (asBool v43) (
 Prg.ite (asBool v43) (
 ret (I 15)) (
 tv (pbin (.int .i64) .eql x0 (I 10)) fun v44 =>
 Prg.ite (asBool v44) (
 ret (I 13)) (
 tv (pbin (.int .i64) .eql x0 (I 11)) fun v45 =>
 Prg.ite (asBool v45) (
 ret (I 35)) (
 tv (pbin (.int .i64) .eql x0 (I 12)) fun v46 =>
 Prg.ite (asBool v46) (
 ret (I 5)) (
 tv (pbin (.int .i64) .eql x0 (I 13)) fun v47 =>
 Prg.ite (asBool v47) (
 ret (I 3)) (
 ret (I 0))))))) (
 tv (pbin (.int .i64) .eql x0 (I 6)) fun v48 =>
 Prg.ite (asBool v48) (
 Prg.ite (asBool v48) (
 ret (I 15)) (
 tv (pbin (.int .i64) .eql x0 (I 10)) fun v49 =>
 Prg.ite (asBool v49) (
 ret (I 13)) (
 tv (pbin (.int .i64) .eql x0 (I 11)) fun v50 =>
 Prg.ite (asBool v50) (
 ret (I 35)) (
 tv (pbin (.int .i64) .eql x0 (I 12)) fun v51 =>
 Prg.ite (asBool v51) (
 ret (I 5)) (
 tv (pbin (.int .i64) .eql x0 (I 13)) fun v52 =>
 Prg.ite (asBool v52) (
 ret (I 3)) (
 ret (I 0))))))) (
 tv (pbin (.int .i64) .eql x0 (I 7)) fun v53 =>
 Prg.ite (asBool v53) (
 Prg.ite (asBool v53) (
 ret (I 15)) (
 tv (pbin (.int .i64) .eql x0 (I 10)) fun v54 =>
 Prg.ite (asBool v54) (
 ret (I 13)) (
 tv (pbin (.int .i64) .eql x0 (I 11)) fun v55 =>
 Prg.ite (asBool v55) (
 ret (I 35)) (
 tv (pbin (.int .i64) .eql x0 (I 12)) fun v56 =>
 Prg.ite (asBool v56) (
 ret (I 5)) (
 tv (pbin (.int .i64) .eql x0 (I 13)) fun v57 =>
 Prg.ite (asBool v57) (
 ret (I 3)) (
 ret (I 0))))))) (
 tv (pbin (.int .i64) .eql x0 (I 8)) fun v58 =>
 Prg.ite (asBool v58) (
 ret (I 15)) (
 tv (pbin (.int .i64) .eql x0 (I 10)) fun v59 =>
 Prg.ite (asBool v59) (
 ret (I 13)) (
 tv (pbin (.int .i64) .eql x0 (I 11)) fun v60 =>
 Prg.ite (asBool v60) (
 ret (I 35)) (
 tv (pbin (.int .i64) .eql x0 (I 12)) fun v61 =>
 Prg.ite (asBool v61) (
 ret (I 5)) (
 tv (pbin (.int .i64) .eql x0 (I 13)) fun v62 =>
 Prg.ite (asBool v62) (
 ret (I 3)) (
 ret (I 0))))))))))))))
theorem f74_MR (x0:TV):ar prog 74 [x0]=f74_M x0:=by kernel_rfl
def f75_M (x0 x1:TV):Prg TV :=
 tv (pbin (.int .i64) .and x0 x1) fun v0 =>
 tv (pbin (.int .i64) .neq v0 (I 0)) fun v1 =>
 ret v1
theorem f75_MR (x0 x1:TV):ar prog 75 [x0,x1]=f75_M x0 x1:=by kernel_rfl
def f76_0_S  (x0 x1 x2 y3 y4 y5 y6:TV):ASt:=⟨Rj 4 ++ [Pt 0]++Rj 35 ++ [AV.tv x0,AV.tv x1,AV.tv x2]++Rj 8,[some (BC.cells [CA.t y3,CA.t y4,CA.t y5,CA.t y6])]++Rz 74,[]⟩
def f76_M (x0 x1 x2 x3:TV):Prg TV :=
 chk (TV.isAgg x0 4) (
 tv (pun .not x1) fun v0 =>
 Prg.ite (asBool v0) (
 tv (pbin (.int .i64) .eql x2 (I 0)) fun v1 =>
 Prg.ite (asBool v1) (
 tv (plen (.slice 3) x3) fun v2 =>
 tv (pbin (.int .i64) .eql v2 (I 0)) fun v3 =>
 ret v3) (
 ret (B false))) (
 tv (pbin (.int .i64) .lss x2 (I 0)) fun v4 =>
 Prg.ite (asBool v4) (
 ret (B false)) (
 tv (plen (.slice 40) (cell x0 0)) fun v5 =>
 tv (pbin (.int .i64) .geq x2 v5) fun v6 =>
 Prg.ite (asBool v6) (
 ret (B false)) (
 tv (plen (.slice 3) x3) fun v7 =>
 tvs (pidx 3 (cell x0 0) x2) fun e8 =>
 chk (Nat.blt 0 (List.length e8)) (
 tv (pbin (.int .i64) .neq v7 (nth hole e8 0)) fun v9 =>
 Prg.ite (asBool v9) (
 ret (B false)) (
 tv (plen (.slice 3) x3) fun v10 =>
 jmp [0,0,1,0,1,1,1] (f76_0_S x3 v10 (I 0) (cell x0 0) (cell x0 1) (cell x0 2) (cell x0 3))))))))
def f76_0  (x0 x1 x2 y3 y4 y5 y6:TV):Prg TV :=
 tv (pbin (.int .i64) .lss x2 x1) fun v11 =>
 Prg.ite (asBool v11) (
 tvs (pidx 1 x0 x2) fun e12 =>
 chk (Nat.blt 0 (List.length e12)) (
 call 72 [agg [y3,y4,y5,y6],B true,nth hole e12 0] fun v13 =>
 chk (ab am [v13] 0) (
 tv (pun .not v13) fun v14 =>
 Prg.ite (asBool v14) (
 ret (B false)) (
 tv (pbin (.int .i64) .add x2 (I 1)) fun v15 =>
 jmp [0,0,1,0,1,1,1] (f76_0_S x0 x1 v15 y3 y4 y5 y6))))) (
 ret (B true))
theorem f76_MR (x0 x1 x2 x3:TV):ar prog 76 [x0,x1,x2,x3]=f76_M x0 x1 x2 x3:=by kernel_rfl
theorem f76_0_J  {x0 x1 x2 y3 y4 y5 y6:TV} {r:TV} (h:aa prog 76 (f76_0 x0 x1 x2 y3 y4 y5 y6) r):aa prog 76 (.jmp [0,0,1,0,1,1,1] (f76_0_S x0 x1 x2 y3 y4 y5 y6)) r:=aa.jmp (by kernel_rfl) h
def f77_M (x0:TV):Prg TV :=
 tv (pbin (.int .i64) .eql x0 (I 1)) fun v0 =>
 Prg.ite (asBool v0) (
 Prg.ite (asBool v0) (
 ret (I 5)) (
 tv (pbin (.int .i64) .eql x0 (I 2)) fun v1 =>
 Prg.ite (asBool v1) (
 ret (I 65)) (
 tv (pbin (.int .i64) .eql x0 (I 3)) fun v2 =>
 Prg.ite (asBool v2) (
 ret (I 197)) (
 tv (pbin (.int .i64) .eql x0 (I 4)) fun v3 =>
 Prg.ite (asBool v3) (
 ret (I 355)) (
 tv (pbin (.int .i64) .eql x0 (I 6)) fun v4 =>
 Prg.ite (asBool v4) (
 ret (I 1)) (
 ret (I 0))))))) (
 tv (pbin (.int .i64) .eql x0 (I 5)) fun v5 =>
 Prg.ite (asBool v5) (
 ret (I 5)) (
 tv (pbin (.int .i64) .eql x0 (I 2)) fun v6 =>
 Prg.ite (asBool v6) (
 ret (I 65)) (
 tv (pbin (.int .i64) .eql x0 (I 3)) fun v7 =>
 Prg.ite (asBool v7) (
 ret (I 197)) (
 tv (pbin (.int .i64) .eql x0 (I 4)) fun v8 =>
 Prg.ite (asBool v8) (
 ret (I 355)) (
 tv (pbin (.int .i64) .eql x0 (I 6)) fun v9 =>
 Prg.ite (asBool v9) (
 ret (I 1)) (
 ret (I 0)))))))
theorem f77_MR (x0:TV):ar prog 77 [x0]=f77_M x0:=by kernel_rfl
def f78_M (x0 x1 x2 x3:TV):Prg TV :=
 chk (TV.isAgg x0 4) (
 tv (pun .not x1) fun v0 =>
 Prg.ite (asBool v0) (
 tv (pbin (.int .i64) .eql x2 (I 0)) fun v1 =>
 ret v1) (
 tv (pbin (.int .i64) .leq (I 0) x2) fun v2 =>
 Prg.ite (asBool v2) (
 tv (plen (.slice 48) (cell x0 3)) fun v3 =>
 tv (pbin (.int .i64) .lss x2 v3) fun v4 =>
 Prg.ite (asBool v4) (
 tvs (pidx 14 (cell x0 3) x2) fun e5 =>
 chk (Nat.blt 0 (List.length e5)) (
 tv (pbin Kd.bool .eql (nth hole e5 0) x3) fun v6 =>
 ret v6)) (
 ret (B false))) (
 ret (B false))))
theorem f78_MR (x0 x1 x2 x3:TV):ar prog 78 [x0,x1,x2,x3]=f78_M x0 x1 x2 x3:=by kernel_rfl
def f84_M (x0 x1:TV):Prg TV :=
 call 88 [x0,x1] fun v0 =>
 chk (ab yg [v0] 0) (
 tv (pbin (.int .i64) .geq v0 (I 0)) fun v1 =>
 ret v1)
theorem f84_MR (x0 x1:TV):ar prog 84 [x0,x1]=f84_M x0 x1:=by kernel_rfl
def f88_0_S  (x0 x1 x2 x3:TV):ASt:=⟨[AV.tv x0,AV.tv x1]++Rj 5 ++ [AV.tv x2,AV.tv x3]++Rj 10,Rz 43,[]⟩
def f88_M (x0 x1:TV):Prg TV :=
 tv (plen (.slice 53) x0) fun v0 =>
 jmp [0,0,1,0,1] (f88_0_S x0 x1 v0 (I 0))
def f88_0  (x0 x1 x2 x3:TV):Prg TV :=
 tv (pbin (.int .i64) .lss x3 x2) fun v1 =>
 Prg.ite (asBool v1) (
 tvs (pidx 1 x0 x3) fun e2 =>
 chk (Nat.blt 0 (List.length e2)) (
 tv (pbin (.int .u16) .eql x1 (nth hole e2 0)) fun v3 =>
 Prg.ite (asBool v3) (
 ret x3) (
 tv (pbin (.int .i64) .add x3 (I 1)) fun v4 =>
 jmp [0,0,1,0,1] (f88_0_S x0 x1 x2 v4)))) (
 ret (TV.lit (Value.int IntKind.i64 (-1))))
theorem f88_MR (x0 x1:TV):ar prog 88 [x0,x1]=f88_M x0 x1:=by kernel_rfl
theorem f88_0_J  {x0 x1 x2 x3:TV} {r:TV} (h:aa prog 88 (f88_0 x0 x1 x2 x3) r):aa prog 88 (.jmp [0,0,1,0,1] (f88_0_S x0 x1 x2 x3)) r:=aa.jmp (by kernel_rfl) h
end Go.Ab.C14
end
section
set_option maxRecDepth 10000
namespace Go.Ab.C14
open Go Go.Ab Go.Proofs
theorem Au {a b:DIns}:a=b ↔ a.op=b.op/\a.dst=b.dst/\a.a=b.a/\a.b=b.b/\a.k=b.k/\a.f=b.f/\a.args=b.args:=by
 cases a;cases b;simp
theorem AS {a b:DEnd}:a=b ↔ a.kind=b.kind/\a.a=b.a/\a.dst=b.dst/\a.f=b.f/\a.args=b.args/\a.to=b.to/\a.els=b.els/\a.pad=b.pad:=by
 cases a;cases b;simp
theorem pF {a b:DPad}:a=b ↔ a.dst=b.dst/\a.catches=b.catches/\a.all=b.all/\a.cleanup=b.cleanup:=by
 cases a;cases b;simp
theorem AI {a b:DBlock}:a=b ↔ a.landing=b.landing/\a.pad=b.pad/\a.ins=b.ins/\a.fin=b.fin:=by
 cases a;cases b;simp
theorem oS {a b:DFunc}:a=b ↔ a.params=b.params/\a.regs=b.regs/\a.blocks=b.blocks:=by
 cases a;cases b;simp
theorem Ac {a b:DMod}:a=b ↔ a.funcs=b.funcs:=by
 cases a;cases b;simp
theorem r14 {q q':Option Bool} {x y:TV} {l m:List Int} (hx:RInts q x l) (hy:RInts q' y m):ao prog 40 [x,y] (B (tt (l=m))):=by
 refine ao.of (f40_MR _ _) ?_
 unfold f40_M
 repeat' (first
  | refine aa.chk rfl ?_
  | refine aa.tv rfl ?_
  | refine aa.tv (RL.len (by assumption)) ?_
  | refine aa.nat rfl ?_
  | refine aa.ite rfl (fun _=>?_) (fun _=>?_)
  | refine aa.call (by assumption) ?_
  | refine aa.tvs (by assumption) ?_)
 ·rename_i h
  have h:¬l=m:=by rintro rfl;simp at h
  exact aD h
 ·rename_i h
  have hlen:l.length=m.length:=by simp at h;omega
  refine f40_0_J ?_
  rw[be (dK hlen)]
  refine du (g:=fun k=>f40_0 x y (I k)) ?_ ?_
  ·unfold f40_0
   refine aa.tv hx.len (aa.tv rfl (aa.ite aI nofun fun _=>aa.ret))
  ·intro k hk r h1 h2
   have hk':k<m.length:=by omega
   have ha:l[k]? = some l[k]:=Ci hk
   have hb:m[k]? = some m[k]:=Ci hk'
   obtain⟨e,he,rfl,_⟩:=hx.idx (k:=.i64) ha
   obtain⟨e',he',rfl,_⟩:=hy.idx (k:=.i64) hb
   unfold f40_0
   refine aa.tv hx.len (aa.tv rfl (aa.ite (aH hk) (fun _=>?_) nofun))
   refine aa.tvs he (aa.chk rfl (aa.tvs he' (aa.chk rfl (aa.tv rfl (aa.ite rfl (fun h=>?_) fun h=>?_)))))
   ·rw[h1 (by rw[ha,hb];simpa using h)];exact aa.ret
   ·refine aa.tv (inc hk hx.bnd) (f40_0_J (h2 ?_))
    rw[ha,hb];simpa using h
theorem r46 {q q':Option Bool} {e e':List TV} {a b:DIns} (ha:RIns q e a) (hb:RIns q' e' b):ao prog 21 [.agg e,.agg e'] (B (tt (a=b))):=by
 obtain⟨g,rfl,hg,_⟩:=ha
 obtain⟨g',rfl,hg',_⟩:=hb
 have h14:=r14 hg hg'
 refine ao.of (f21_MR _ _) ?_
 unfold f21_M
 repeat' (first
  | refine aa.chk rfl ?_
  | refine aa.tv rfl ?_
  | refine aa.tv (RL.len (by assumption)) ?_
  | refine aa.nat rfl ?_
  | refine aa.ite rfl (fun _=>?_) (fun _=>?_)
  | refine aa.call (by assumption) ?_
  | refine aa.tvs (by assumption) ?_)
 ·apply aJ;rw[Au];simp_all[tt]
 all_goals (apply aD;rw[Au];simp_all[tt])
theorem r45 {q q':Option Bool} {e e':List TV} {a b:DEnd} (ha:REnd q e a) (hb:REnd q' e' b):ao prog 20 [.agg e,.agg e'] (B (tt (a=b))):=by
 obtain⟨g,rfl,hg,_⟩:=ha
 obtain⟨g',rfl,hg',_⟩:=hb
 have h14:=r14 hg hg'
 refine ao.of (f20_MR _ _) ?_
 unfold f20_M
 repeat' (first
  | refine aa.chk rfl ?_
  | refine aa.tv rfl ?_
  | refine aa.tv (RL.len (by assumption)) ?_
  | refine aa.nat rfl ?_
  | refine aa.ite rfl (fun _=>?_) (fun _=>?_)
  | refine aa.call (by assumption) ?_
  | refine aa.tvs (by assumption) ?_)
 ·apply aJ;rw[AS];simp_all[tt]
 all_goals (apply aD;rw[AS];simp_all[tt])
theorem r44 {q q':Option Bool} {e e':List TV} {a b:DPad} (ha:RPad q e a) (hb:RPad q' e' b):ao prog 44 [.agg e,.agg e'] (B (tt (a=b))):=by
 obtain⟨x,rfl,hx,_⟩:=ha
 obtain⟨y,rfl,hy,_⟩:=hb
 refine ao.of (f44_MR _ _) ?_
 unfold f44_M
 repeat' (first
  | refine aa.chk rfl ?_
  | refine aa.tv rfl ?_
  | refine aa.tv (RL.len (by assumption)) ?_
  | refine aa.nat rfl ?_
  | refine aa.ite rfl (fun _=>?_) (fun _=>?_)
  | refine aa.call (by assumption) ?_
  | refine aa.tvs (by assumption) ?_)
 ·apply aD;rw[pF];simp_all
 ·apply aD;rw[pF];simp_all
 ·apply aD;rw[pF];simp_all
 ·rename_i h
  apply aD;rw[pF]
  intro h'
  rw[h'.2.1]at h
  simp at h
 ·rename_i h1 h2 h3 h
  have hlen:a.catches.length=b.catches.length:=by simp at h;omega
  refine f44_0_J ?_
  have hp:a=b ↔ ∀i,i<a.catches.length->a.catches[i]? = b.catches[i]? := by
   rw[pF,dK hlen]
   simp at h1 h2 h3
   exact⟨fun h=>h.2.1,fun h=>⟨h1,h,h2,h3⟩⟩
  rw[be hp]
  refine du (g:=fun k=>f44_0 (I k) (I a.dst) x (B a.all) (B a.cleanup) (I b.dst) y (B b.all) (B b.cleanup)) ?_ ?_
  ·unfold f44_0
   refine aa.tv hx.len (aa.tv rfl (aa.ite aI nofun fun _=>aa.ret))
  ·intro k hk r h1 h2
   have hk':k<b.catches.length:=by omega
   have ha:a.catches[k]? = some a.catches[k]:=Ci hk
   have hb:b.catches[k]? = some b.catches[k]:=Ci hk'
   obtain⟨e,he,rfl,_⟩:=hx.idx (k:=.i64) ha
   obtain⟨e',he',rfl,_⟩:=hy.idx (k:=.i64) hb
   unfold f44_0
   refine aa.tv hx.len (aa.tv rfl (aa.ite (aH hk) (fun _=>?_) nofun))
   refine aa.tvs he (aa.chk rfl (aa.tvs he' (aa.chk rfl (aa.tv rfl (aa.ite rfl (fun h=>?_) fun h=>?_)))))
   ·rw[h1 (by rw[ha,hb];simpa using h)];exact aa.ret
   ·refine aa.tv (inc hk hx.bnd) (f44_0_J (h2 ?_))
    rw[ha,hb];simpa using h
theorem r31 {q q' : Option Bool} {e e' : List TV} {a b : DFunc} (ha : RFunc q e a) (hb : RFunc q' e' b) : ao prog 28 [.agg e, .agg e'] (B (tt (a = b))) := by
 obtain⟨x,rfl,hx,_⟩:=ha
 obtain⟨y,rfl,hy,_⟩:=hb
 refine ao.of (f28_MR _ _) ?_
 unfold f28_M
 repeat' (first
  | refine aa.chk rfl ?_
  | refine aa.tv rfl ?_
  | refine aa.tv (RL.len (by assumption)) ?_
  | refine aa.nat rfl ?_
  | refine aa.ite rfl (fun _=>?_) (fun _=>?_)
  | refine aa.call (by assumption) ?_
  | refine aa.tvs (by assumption) ?_)
 ·apply aD;rw[oS];simp_all
 ·apply aD;rw[oS];simp_all
 ·rename_i h
  apply aD;rw[oS]
  intro h'
  rw[h'.2.2]at h
  simp at h
 ·rename_i h1 h2 h
  have hlen:a.blocks.length=b.blocks.length:=by simp at h;omega
  refine f28_0_J ?_
  have hp:a=b ↔ ∀i,i<a.blocks.length->a.blocks[i]? = b.blocks[i]? := by
   rw[oS,dK hlen]
   simp at h1 h2
   exact⟨fun h=>h.2.2,fun h=>⟨h1,h2,h⟩⟩
  rw[be hp]
  refine du (g:=fun k=>f28_0 (I k) (I a.params) (I a.regs) x (I b.params) (I b.regs) y) ?_ ?_
  ·unfold f28_0
   refine aa.tv hx.len (aa.tv rfl (aa.ite aI nofun fun _=>aa.ret))
  ·intro k hk r h1 h2
   have hk':k<b.blocks.length:=by omega
   have hak:a.blocks[k]? = some a.blocks[k]:=Ci hk
   have hbk:b.blocks[k]? = some b.blocks[k]:=Ci hk'
   obtain⟨e,he,hea⟩:=hx.idx (k:=.i64) hak
   obtain⟨e',he',heb⟩:=hy.idx (k:=.i64) hbk
   rw[hak,hbk,Option.some_inj,AI]at h1 h2
   generalize a.blocks[k]=u at *
   generalize b.blocks[k]=v at *
   obtain⟨c,i,g,rfl,hc,hd,hi,hg,ho⟩:=hea
   obtain⟨c',i',g',rfl,hc',hd',hi',hg',ho'⟩:=heb
   have h44:=r44 (q:=q) (q':=q') (a:=u.pad) (b:=v.pad) ⟨c,rfl,hc,hd⟩ ⟨c',rfl,hc',hd'⟩
   have h45:=r45 (q:=q) (q':=q') (a:=u.fin) (b:=v.fin) ⟨g,rfl,hg,ho⟩ ⟨g',rfl,hg',ho'⟩
   unfold f28_0
   refine aa.tv hx.len (aa.tv rfl (aa.ite (aH hk) (fun _=>?_) nofun))
   refine aa.tvs he (aa.chk rfl (aa.tvs he' (aa.chk rfl (aa.tv rfl (aa.ite rfl (fun h=>?_) fun h3=>?_)))))
   ·rw[h1 (by simp at h;simp[h])];exact aa.ret
   ·refine aa.call h44 (aa.chk rfl (aa.tv rfl (aa.ite rfl (fun h=>?_) fun h4=>?_)))
    ·rw[h1 (by simp[tt]at h;simp[h])];exact aa.ret
    ·refine aa.call h45 (aa.chk rfl (aa.tv rfl (aa.ite rfl (fun h=>?_) fun h5=>?_)))
     ·rw[h1 (by simp[tt]at h;simp[h])];exact aa.ret
     ·refine aa.tv hi.len (aa.tv hi'.len (aa.tv rfl (aa.ite rfl (fun h=>?_) fun h6=>?_)))
      ·rw[h1 (by intro h';rw[h'.2.2.1]at h;simp at h)];exact aa.ret
      ·refine f28_1_J ?_
       have hil:u.ins.length=v.ins.length:=by simp at h6;omega
       simp[tt]at h3 h4 h5
       refine mD (n:=u.ins.length) (P:=fun j=>u.ins[j]? = v.ins[j]?) (g:=fun j=>f28_1 (I k) (I j) (I a.params) (I a.regs) x (I b.params) (I b.regs) y (B u.landing) (I u.pad.dst) c (B u.pad.all) (B u.pad.cleanup) i (I u.fin.kind) (I u.fin.a) (I u.fin.dst) (I u.fin.f) g (I u.fin.to) (I u.fin.els) (I u.fin.pad) (B v.landing) (I v.pad.dst) c' (B v.pad.all) (B v.pad.cleanup) i' (I v.fin.kind) (I v.fin.a) (I v.fin.dst) (I v.fin.f) g' (I v.fin.to) (I v.fin.els) (I v.fin.pad)) ?_ ?_ ?_
       ·intro hn;exact h1 fun h'=>hn ((dK hil).1 h'.2.2.1)
       ·intro hn
        unfold f28_1
        refine aa.tv hi.len (aa.tv rfl (aa.ite aI nofun fun _=>?_))
        refine aa.tv (inc hk hx.bnd) (f28_0_J (h2 ?_))
        exact⟨h3,h4,(dK hil).2 hn,h5⟩
       ·intro j hj r g1 g2
        have hj':j<v.ins.length:=by omega
        have hau:u.ins[j]? = some u.ins[j]:=Ci hj
        have hbu:v.ins[j]? = some v.ins[j]:=Ci hj'
        obtain⟨e,he,hea⟩:=hi.idx (k:=.i64) hau
        obtain⟨e',he',heb⟩:=hi'.idx (k:=.i64) hbu
        have h46:=r46 hea heb
        obtain⟨_,rfl,_⟩:=hea
        obtain⟨_,rfl,_⟩:=heb
        unfold f28_1
        refine aa.tv hi.len (aa.tv rfl (aa.ite (aH hj) (fun _=>?_) nofun))
        refine aa.tvs he (aa.chk rfl (aa.tvs he' (aa.chk rfl (aa.call h46 (aa.chk rfl (aa.tv rfl (aa.ite rfl (fun h=>?_) fun h=>?_)))))))
        ·rw[g1 (by rw[hau,hbu];simpa[tt]using h)];exact aa.ret
        ·refine aa.tv (inc hj hi.bnd) (f28_1_J (g2 ?_))
         rw[hau,hbu];simpa[tt]using h
theorem r18 {q q':Option Bool} {e e':List TV} {a b:DMod} (ha:RMod q e a) (hb:RMod q' e' b):ao prog 12 [.agg e,.agg e'] (B (tt (a=b))):=by
 obtain⟨x,rfl,hx⟩:=ha
 obtain⟨y,rfl,hy⟩:=hb
 refine ao.of (f12_MR _ _) ?_
 unfold f12_M
 repeat' (first
  | refine aa.chk rfl ?_
  | refine aa.tv rfl ?_
  | refine aa.tv (RL.len (by assumption)) ?_
  | refine aa.nat rfl ?_
  | refine aa.ite rfl (fun _=>?_) (fun _=>?_)
  | refine aa.call (by assumption) ?_
  | refine aa.tvs (by assumption) ?_)
 ·rename_i h
  apply aD;rw[Ac]
  intro h'
  rw[h']at h
  simp at h
 ·rename_i h
  have hlen:a.funcs.length=b.funcs.length:=by simp at h;omega
  refine f12_0_J ?_
  rw[be (Ac.trans (dK hlen))]
  refine du (g:=fun k=>f12_0 (I k) x y) ?_ ?_
  ·unfold f12_0
   refine aa.tv hx.len (aa.tv rfl (aa.ite aI nofun fun _=>aa.ret))
  ·intro k hk r h1 h2
   have hk':k<b.funcs.length:=by omega
   have hak:a.funcs[k]? = some a.funcs[k]:=Ci hk
   have hbk:b.funcs[k]? = some b.funcs[k]:=Ci hk'
   obtain⟨e,he,hea⟩:=hx.idx (k:=.i64) hak
   obtain⟨e',he',heb⟩:=hy.idx (k:=.i64) hbk
   have hc:=r31 hea heb
   obtain⟨_,rfl,_⟩:=hea
   obtain⟨_,rfl,_⟩:=heb
   unfold f12_0
   refine aa.tv hx.len (aa.tv rfl (aa.ite (aH hk) (fun _=>?_) nofun))
   refine aa.tvs he (aa.chk rfl (aa.tvs he' (aa.chk rfl (aa.call hc (aa.chk rfl (aa.tv rfl (aa.ite rfl (fun h=>?_) fun h=>?_)))))))
   ·rw[h1 (by rw[hak,hbk];simpa[tt]using h)];exact aa.ret
   ·refine aa.tv (inc hk hx.bnd) (f12_0_J (h2 ?_))
    rw[hak,hbk];simpa[tt]using h
end Go.Ab.C14
end
section
set_option maxRecDepth 10000
namespace Go.Ab
theorem RL.ru {α:Type} {q:Option Bool} {s:Nat} {R:List TV->α->Prop} {x:TV} {l:List α} (h:RL q s R x l) {k:IntKind} {n:Int} {a:α} (h0:0<=n) (hi:l[n.toNat]? = some a):∃e,pidx s x (.lit (.int k n))=some e/\R e a:=by
 rcases h with⟨rfl,rfl⟩|⟨o,xs,rfl,hq,h,_⟩
 ·simp at hi
 ·obtain⟨e,he,hr⟩:=h.get hi
  exact⟨e,by simp[pidx,he,h0],hr⟩
def within (n most:Int):Prop:=0<=n/\n<most
def ec (u:Bool) (regs n:Int):Prop:=(u=true->within n regs)/\(u=false->n=0)
def nI (fs:List DFunc) (regs n:Int) (l:List Int):Prop:=0<=n/\∃g,fs[n.toNat]? = some g/\(l.length:Int)=g.params/\∀i,i<l.length->∀a,l[i]? = some a->within a regs
def jF (u:Bool) (fs:List DFunc) (regs n:Int) (l:List Int):Prop:=(u=true->nI fs regs n l)/\(u=false->n=0/\l=[])
def eW (bs:List DBlock) (n:Int) (landing:Bool):Prop:=0<=n/\∃b,bs[n.toNat]? = some b/\b.landing=landing
def jy (u:Bool) (bs:List DBlock) (n:Int) (landing:Bool):Prop:=(u=true->eW bs n landing)/\(u=false->n=0)
theorem aQ {regs n:Int}:ec true regs n ↔ within n regs:=⟨fun h=>h.1 rfl,fun h=>⟨fun _=>h,nofun⟩⟩
theorem aq {p:Prop}:tt p=false ↔ ¬p:=⟨fun h hp=>(by rw[dH hp]at h;exact Bool.noConfusion h),fun h=>gH h⟩
end Go.Ab
namespace Go.Ab.C14
open Go Go.Ab Go.Proofs
def gS (op:Int):Int :=
 if op=1 then 19 else if op=2 then 7 else if op=9 then 7 else if op=3 then 15 else if op=4 then 15 else if op=5 then 15 else if op=6 then 15 else if op=7 then 15 else if op=8 then 15 else if op=10 then 13 else if op=11 then 35 else if op=12 then 5 else if op=13 then 3 else 0
def fq (k:Int):Int :=
 if k=1 then 5 else if k=5 then 5 else if k=2 then 65 else if k=3 then 197 else if k=4 then 355 else if k=6 then 1 else 0
def has (u f:Int):Bool:=decide (¬IntKind.i64.wrap ((BitVec.ofInt 64 u &&& BitVec.ofInt 64 f).toNat:Int)=0)
theorem r25 (u f:Int):ao prog 75 [I u,I f] (B (has u f)):=by
 refine ao.of (f75_MR _ _) ?_
 unfold f75_M
 repeat' (first
  | refine aa.chk rfl ?_
  | refine aa.tv rfl ?_
  | refine aa.tv (RL.len (by assumption)) ?_
  | refine aa.nat rfl ?_
  | refine aa.ite rfl (fun _=>?_) (fun _=>?_)
  | refine aa.call (by assumption) ?_
  | refine aa.tvs (by assumption) ?_)
 refine pL.2 ?_
 simp[has]
 rfl
theorem r24 (k:Int):ao prog 77 [I k] (I (fq k)):=by
 refine ao.of (f77_MR _) ?_
 unfold f77_M
 repeat' (first
  | refine aa.chk rfl ?_
  | refine aa.tv rfl ?_
  | refine aa.tv (RL.len (by assumption)) ?_
  | refine aa.nat rfl ?_
  | refine aa.ite rfl (fun _=>?_) (fun _=>?_)
  | refine aa.call (by assumption) ?_
  | refine aa.tvs (by assumption) ?_)
 all_goals (refine pL.2 ?_;simp_all[fq])
theorem r49 (k:Int):ao prog 74 [I k] (I (gS k)):=by
 refine ao.of (f74_MR _) ?_
 unfold f74_M
 repeat' (first
  | refine aa.chk rfl ?_
  | refine aa.tv rfl ?_
  | refine aa.tv (RL.len (by assumption)) ?_
  | refine aa.nat rfl ?_
  | refine aa.ite rfl (fun _=>?_) (fun _=>?_)
  | refine aa.call (by assumption) ?_
  | refine aa.tvs (by assumption) ?_)
 all_goals (refine pL.2 ?_;simp_all[gS])
theorem r35 (n m:Int):ao prog 56 [I n,I m] (B (tt (within n m))):=by
 refine ao.of (f56_MR _ _) ?_
 unfold f56_M
 repeat' (first
  | refine aa.chk rfl ?_
  | refine aa.tv rfl ?_
  | refine aa.tv (RL.len (by assumption)) ?_
  | refine aa.nat rfl ?_
  | refine aa.ite rfl (fun _=>?_) (fun _=>?_)
  | refine aa.call (by assumption) ?_
  | refine aa.tvs (by assumption) ?_)
 all_goals (apply aJ;simp_all[within]<;>omega)
theorem r47 {fs bs:TV} {p regs n:Int} {u:Bool}:ao prog 72 [.agg [fs,I p,I regs,bs],B u,I n] (B (tt (ec u regs n))):=by
  cases u
  · refine ao.of (f72_MR _ _ _) ?_
    unfold f72_M
    repeat' (first
      | refine aa.chk rfl ?_
      | refine aa.tv rfl ?_
      | refine aa.tv (RL.len (by assumption)) ?_
      | refine aa.nat rfl ?_
      | refine aa.ite (v:=true) rfl (fun _=>?_) nofun
      | refine aa.ite (v:=false) rfl nofun (fun _=>?_)
      | refine aa.ite rfl (fun _=>?_) (fun _=>?_)
      | refine aa.call (by assumption) ?_
      | refine aa.tvs (by assumption) ?_
       )
    all_goals (apply aJ;simp_all[ec])
  · refine ao.of (f72_MR _ _ _) ?_
    unfold f72_M
    repeat' (first
      | refine aa.chk rfl ?_
      | refine aa.tv rfl ?_
      | refine aa.tv (RL.len (by assumption)) ?_
      | refine aa.nat rfl ?_
      | refine aa.ite (v:=true) rfl (fun _=>?_) nofun
      | refine aa.ite (v:=false) rfl nofun (fun _=>?_)
      | refine aa.ite rfl (fun _=>?_) (fun _=>?_)
      | refine aa.call (by assumption) ?_
      | refine aa.tvs (by assumption) ?_
       )
    all_goals (apply aJ;simp_all[ec,within]<;>omega)
theorem r50 {q q' : Option Bool} {x bs g : TV} {fs : List DFunc} {p regs n : Int} {u : Bool} {l : List Int} (hx : RL q 3 (RFunc q) x fs) (hg : RInts q' g l) : ao prog 76 [.agg [x, I p, I regs, bs], B u, I n, g] (B (tt (jF u fs regs n l))) := by
  cases u
  · refine ao.of (f76_MR _ _ _ _) ?_
    unfold f76_M
    repeat' (first
      | refine aa.chk rfl ?_
      | refine aa.tv rfl ?_
      | refine aa.tv (RL.len (by assumption)) ?_
      | refine aa.nat rfl ?_
      | refine aa.ite (v:=true) rfl (fun _=>?_) nofun
      | refine aa.ite (v:=false) rfl nofun (fun _=>?_)
      | refine aa.ite rfl (fun _=>?_) (fun _=>?_)
      | refine aa.call (by assumption) ?_
      | refine aa.tvs (by assumption) ?_
       )
    all_goals (apply aJ;simp_all[jF])
  · rw [show tt (jF true fs regs n l) = tt (nI fs regs n l) from be ⟨fun h => h.1 rfl, fun h => ⟨fun _ => h, fun h => nomatch h⟩⟩]
    refine ao.of (f76_MR _ _ _ _) ?_
    unfold f76_M
    refine aa.chk rfl (aa.tv rfl (aa.ite rfl nofun fun _=>aa.tv rfl (aa.ite rfl (fun h=>?_) fun h=>?_)))
    · simp at h
      exact aD fun h'=>by have:=h'.1;omega
    · have h0 : 0 ≤ n := by simpa using h
      refine aa.tv hx.len (aa.tv rfl (aa.ite rfl (fun h=>?_) fun h=>?_))
      · simp at h
        refine aD ?_
        rintro⟨_,f,hf,_⟩
        have:=(Ch.1 hf).1
        omega
      · simp at h
        have hlt:n.toNat<fs.length:=by omega
        have hf:fs[n.toNat]? = some fs[n.toNat]:=Ci hlt
        obtain⟨e,he,hr⟩:=hx.ru (k:=.i64) h0 hf
        obtain⟨b,rfl,_⟩:=hr
        refine aa.tv hg.len (aa.tvs he (aa.chk rfl (aa.tv rfl (aa.ite rfl (fun h=>?_) fun h=>?_))))
        · refine aD ?_
          rintro⟨_,f,hf',hl,_⟩
          rw[hf]at hf'
          simp at hf' h
          subst hf'
          exact h hl
        · simp at h
          refine aa.tv hg.len (f76_0_J ?_)
          have hp:nI fs regs n l ↔ ∀i,i<l.length->∀a,l[i]? = some a->within a regs:=by
            refine⟨fun⟨_,f,hf',hl,ha⟩=>ha,fun ha=>⟨h0,_,hf,h,ha⟩⟩
          rw[be hp]
          refine du (g:=fun k=>f76_0 g (I l.length) (I k) x (I p) (I regs) bs) ?_ ?_
          · unfold f76_0
            refine aa.tv rfl (aa.ite aI nofun fun _=>?_)
            exact aa.ret
          · intro k hk r h1 h2
            have ha:l[k]? = some l[k]:=Ci hk
            obtain⟨e,he,rfl,_⟩:=hg.idx (k:=.i64) ha
            unfold f76_0
            refine aa.tv rfl (aa.ite (aH hk) (fun _=>?_) nofun)
            refine aa.tvs he (aa.chk rfl (aa.call r47 (aa.chk rfl (aa.tv rfl (aa.ite rfl (fun h=>?_) fun h=>?_)))))
            · rw[h1 (by simp[ha];simpa[aE,aq,aQ]using h)];exact aa.ret
            · refine aa.tv (inc hk hg.bnd) (f76_0_J (h2 ?_))
              simp[ha];simpa[aE,aq,aQ]using h
theorem r51 {q : Option Bool} {fs x : TV} {bs : List DBlock} {p regs n : Int} {u landing : Bool} (hx : RL q 14 (RBlock q) x bs) : ao prog 78 [.agg [fs, I p, I regs, x], B u, I n, B landing] (B (tt (jy u bs n landing))) := by
  cases u
  · refine ao.of (f78_MR _ _ _ _) ?_
    unfold f78_M
    repeat' (first
      | refine aa.chk rfl ?_
      | refine aa.tv rfl ?_
      | refine aa.tv (RL.len (by assumption)) ?_
      | refine aa.nat rfl ?_
      | refine aa.ite (v:=true) rfl (fun _=>?_) nofun
      | refine aa.ite (v:=false) rfl nofun (fun _=>?_)
      | refine aa.ite rfl (fun _=>?_) (fun _=>?_)
      | refine aa.call (by assumption) ?_
      | refine aa.tvs (by assumption) ?_
       )
    all_goals (apply aJ;simp_all[jy])
  · rw [show tt (jy true bs n landing) = tt (eW bs n landing) from be ⟨fun h => h.1 rfl, fun h => ⟨fun _ => h, fun h => nomatch h⟩⟩]
    refine ao.of (f78_MR _ _ _ _) ?_
    unfold f78_M
    refine aa.chk rfl (aa.tv rfl (aa.ite rfl nofun fun _=>aa.tv rfl (aa.ite rfl (fun h=>?_) fun h=>?_)))
    · have h0 : 0 ≤ n := by simpa using h
      refine aa.tv hx.len (aa.tv rfl (aa.ite rfl (fun h=>?_) fun h=>?_))
      · simp at h
        have hlt:n.toNat<bs.length:=by omega
        have hf:bs[n.toNat]? = some bs[n.toNat]:=Ci hlt
        obtain⟨e,he,hr⟩:=hx.ru (k:=.i64) h0 hf
        obtain⟨c,i,g,rfl,_⟩:=hr
        refine aa.tvs he (aa.chk rfl (aa.tv rfl ?_))
        apply aJ
        simp[eW,h0,hf]
      · simp at h
        refine aD ?_
        rintro⟨_,f,hf,_⟩
        have:=(Ch.1 hf).1
        omega
    · simp at h
      exact aD fun h'=>by have:=h'.1;omega
def rn (fs:List DFunc) (regs:Int) (x:DIns):Prop :=
 has (gS x.op) 1=true/\ec (has (gS x.op) 2) regs x.dst/\ec (has (gS x.op) 4) regs x.a/\ec (has (gS x.op) 8) regs x.b/\(has (gS x.op) 16=true\/x.k=0)/\jF (has (gS x.op) 32) fs regs x.f x.args
theorem r33 {q q':Option Bool} {x bs:TV} {e:List TV} {fs:List DFunc} {p regs:Int} {a:DIns} (hx:RL q 3 (RFunc q) x fs) (he:RIns q' e a):ao prog 61 [.agg [x,I p,I regs,bs],.agg e] (B (tt (rn fs regs a))):=by
 obtain⟨g,rfl,hg,_⟩:=he
 have h49:=r49 a.op
 have h50:∀{u:Bool} {n:Int},ao prog 76 [.agg [x,I p,I regs,bs],B u,I n,g] (B (tt (jF u fs regs n a.args))):=r50 hx hg
 refine ao.of (f61_MR _ _) ?_
 unfold f61_M
 repeat' (first
  | refine aa.chk rfl ?_
  | refine aa.tv rfl ?_
  | refine aa.tv (RL.len (by assumption)) ?_
  | refine aa.nat rfl ?_
  | refine aa.ite (v:=true) rfl (fun _=>?_) nofun
  | refine aa.ite (v:=false) rfl nofun (fun _=>?_)
  | refine aa.ite rfl (fun _=>?_) (fun _=>?_)
  | refine aa.call (by assumption) ?_
  | refine aa.tvs (by assumption) ?_
  | refine aa.call (r25 _ _) ?_|refine aa.call r47 ?_|refine aa.call h50 ?_)
 all_goals (apply aJ;simp_all[rn,aE,aq])
def tO (fs:List DFunc) (regs:Int) (bs:List DBlock) (x:DEnd):Prop :=
 has (fq x.kind) 1=true/\ec (has (fq x.kind) 4) regs x.a/\ec (has (fq x.kind) 2) regs x.dst/\jF (has (fq x.kind) 32) fs regs x.f x.args /\
  jy (has (fq x.kind) 64) bs x.to false/\jy (has (fq x.kind) 128) bs x.els false/\jy (has (fq x.kind) 256) bs x.pad true
theorem r34 {q q' q2:Option Bool} {x y:TV} {e:List TV} {fs:List DFunc} {bs:List DBlock} {p regs:Int} {a:DEnd} (hx:RL q 3 (RFunc q) x fs) (hy:RL q2 14 (RBlock q2) y bs) (he:REnd q' e a):ao prog 62 [.agg [x,I p,I regs,y],.agg e] (B (tt (tO fs regs bs a))):=by
 obtain⟨g,rfl,hg,_⟩:=he
 have h24:=r24 a.kind
 have h50:∀{u:Bool} {n:Int},ao prog 76 [.agg [x,I p,I regs,y],B u,I n,g] (B (tt (jF u fs regs n a.args))):=r50 hx hg
 have h51:∀{u landing:Bool} {n:Int},ao prog 78 [.agg [x,I p,I regs,y],B u,I n,B landing] (B (tt (jy u bs n landing))):=r51 hy
 refine ao.of (f62_MR _ _) ?_
 unfold f62_M
 repeat' (first
  | refine aa.chk rfl ?_
  | refine aa.tv rfl ?_
  | refine aa.tv (RL.len (by assumption)) ?_
  | refine aa.nat rfl ?_
  | refine aa.ite (v:=true) rfl (fun _=>?_) nofun
  | refine aa.ite (v:=false) rfl nofun (fun _=>?_)
  | refine aa.ite rfl (fun _=>?_) (fun _=>?_)
  | refine aa.call (by assumption) ?_
  | refine aa.tvs (by assumption) ?_
  | refine aa.call (r25 _ _) ?_|refine aa.call r47 ?_|refine aa.call h50 ?_|refine aa.call h51 ?_)
 all_goals (apply aJ;simp_all[tO,aE,aq])
end Go.Ab.C14
end

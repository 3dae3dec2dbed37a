import Derived.Test.YthfcodidfelpoaaGD13T
import Derived.Test.YthfcodidfelpoaaGD13Xa
import Derived.Test.YthfcodidfelpoaaGD13Xb
import Derived.Test.YthfcodidfelpoaaGD13Xc
set_option linter.all false
section
set_option maxRecDepth 100000
namespace Go.Ab.D13
open Go Go.Ab Go.Proofs
open Go.Ab.TV (hole cell comp isSl isSc isTup cellsL tup agg)
open Go.Ab.Prg (tv tvs rws nat chk call jmp ret)
def f51_0_S  (x0 x1 x2 x3 x4 y5 y6 y7 y8 y9 y10 y11 y12 y13 y14 y15:TV):ASt:=⟨[Jk,Jk,Jk,Pt 0,Pt 1,Pt 2,Jk,AV.tv x0,AV.tv x1,AV.tv x2] ++ Rj 16 ++ [AV.tv x3] ++ Rj 24 ++ [AV.tv x4] ++ Rj 134,[Ct y5,some (BC.cells [CA.t y6,CA.t y7,CA.t y8]),some (BC.cells [CA.t y9,CA.t y10,CA.t y11,CA.t y12,CA.t y13,CA.t y14,CA.t y15])] ++ Rz 207,[]⟩
def f51_1_S  (x0 x1 x2 x3 x4 y5 y6 y7 y8 y9 y10 y11 y12 y13 y14 y15:TV):ASt:=⟨[Jk,Jk,Jk,Pt 0,Pt 1,Pt 2,Jk,AV.tv x0,AV.tv x1,AV.tv x2] ++ Rj 16 ++ [AV.tv x3] ++ Rj 45 ++ [AV.tv x4] ++ Rj 113,[Ct y5,some (BC.cells [CA.t y6,CA.t y7,CA.t y8]),some (BC.cells [CA.t y9,CA.t y10,CA.t y11,CA.t y12,CA.t y13,CA.t y14,CA.t y15])] ++ Rz 207,[]⟩
def f51_M (x0 x1 x2:TV):Prg TV :=
 chk (TV.isAgg x0 1) (
 chk (TV.isAgg x1 3) (
 chk (TV.isAgg x2 7) (
 call 63 [cell x2 1,cell x1 1] fun v0 =>
 chk (ab ao [v0] 0) (
 call 63 [cell x2 2,cell x1 1] fun v1 =>
 chk (ab ao [v1] 0) (
 call 63 [cell x2 3,cell x1 1] fun v2 =>
 chk (ab ao [v2] 0) (
 tv (pbin (.int .i64) .eql (cell x2 0) (I 1)) fun v3 =>
 Prg.ite (asBool v3) (
 Prg.ite (asBool v0) (
 tv (pbin (.int .i64) .eql (cell x2 2) (I 0)) fun v4 =>
 Prg.ite (asBool v4) (
 tv (pbin (.int .i64) .eql (cell x2 3) (I 0)) fun v5 =>
 Prg.ite (asBool v5) (
 tv (pbin (.int .i64) .eql (cell x2 5) (I 0)) fun v6 =>
 Prg.ite (asBool v6) (
 tv (plen (.slice 3) (cell x2 6)) fun v7 =>
 tv (pbin (.int .i64) .eql v7 (I 0)) fun v8 =>
 ret v8) (
 ret (B false))) (
 ret (B false))) (
 ret (B false))) (
 ret (B false))) (
 tv (pbin (.int .i64) .eql (cell x2 0) (I 2)) fun v9 =>
 Prg.ite (asBool v9) (
 jmp [1,1,1,0,1,0,1,1] (f51_0_S v0 v1 v2 (cell x2 0) v9 (cell x0 0) (cell x1 0) (cell x1 1) (cell x1 2) (cell x2 0) (cell x2 1) (cell x2 2) (cell x2 3) (cell x2 4) (cell x2 5) (cell x2 6))) (
 tv (pbin (.int .i64) .eql (cell x2 0) (I 9)) fun v10 =>
 jmp [1,1,1,0,1,0,1,1] (f51_0_S v0 v1 v2 (cell x2 0) v10 (cell x0 0) (cell x1 0) (cell x1 1) (cell x1 2) (cell x2 0) (cell x2 1) (cell x2 2) (cell x2 3) (cell x2 4) (cell x2 5) (cell x2 6))))))))))
def f51_0  (x0 x1 x2 x3 x4 y5 y6 y7 y8 y9 y10 y11 y12 y13 y14 y15:TV):Prg TV :=
 Prg.ite (asBool x4) (
 Prg.ite (asBool x0) (
 Prg.ite (asBool x1) (
 tv (pbin (.int .i64) .eql y12 (I 0)) fun v11 =>
 Prg.ite (asBool v11) (
 call 66 [y13,y14,y15] fun v12 =>
 chk (ab ao [v12] 0) (
 ret v12)) (
 ret (B false))) (
 ret (B false))) (
 ret (B false))) (
 tv (pbin (.int .i64) .eql x3 (I 3)) fun v13 =>
 Prg.ite (asBool v13) (
 jmp [1,1,1,1,1,0,1,0,1,1] (f51_1_S x0 x1 x2 x3 v13 y5 y6 y7 y8 y9 y10 y11 y12 y13 y14 y15)) (
 tv (pbin (.int .i64) .eql x3 (I 4)) fun v14 =>
 Prg.ite (asBool v14) (
 jmp [1,1,1,1,1,0,1,0,1,1] (f51_1_S x0 x1 x2 x3 v14 y5 y6 y7 y8 y9 y10 y11 y12 y13 y14 y15)) (
 tv (pbin (.int .i64) .eql x3 (I 5)) fun v15 =>
 Prg.ite (asBool v15) (
 jmp [1,1,1,1,1,0,1,0,1,1] (f51_1_S x0 x1 x2 x3 v15 y5 y6 y7 y8 y9 y10 y11 y12 y13 y14 y15)) (
 tv (pbin (.int .i64) .eql x3 (I 6)) fun v16 =>
 Prg.ite (asBool v16) (
 jmp [1,1,1,1,1,0,1,0,1,1] (f51_1_S x0 x1 x2 x3 v16 y5 y6 y7 y8 y9 y10 y11 y12 y13 y14 y15)) (
 tv (pbin (.int .i64) .eql x3 (I 7)) fun v17 =>
 Prg.ite (asBool v17) (
 jmp [1,1,1,1,1,0,1,0,1,1] (f51_1_S x0 x1 x2 x3 v17 y5 y6 y7 y8 y9 y10 y11 y12 y13 y14 y15)) (
 tv (pbin (.int .i64) .eql x3 (I 8)) fun v18 =>
 jmp [1,1,1,1,1,0,1,0,1,1] (f51_1_S x0 x1 x2 x3 v18 y5 y6 y7 y8 y9 y10 y11 y12 y13 y14 y15)))))))
def f51_1  (x0 x1 x2 x3 x4 y5 y6 y7 y8 y9 y10 y11 y12 y13 y14 y15:TV):Prg TV :=
 Prg.ite (asBool x4) (
 Prg.ite (asBool x0) (
 Prg.ite (asBool x1) (
 Prg.ite (asBool x2) (
 call 66 [y13,y14,y15] fun v19 =>
 chk (ab ao [v19] 0) (
 ret v19)) (
 ret (B false))) (
 ret (B false))) (
 ret (B false))) (
 tv (pbin (.int .i64) .eql x3 (I 10)) fun v20 =>
 Prg.ite (asBool v20) (
 tv (pbin (.int .i64) .eql y10 (I 0)) fun v21 =>
 Prg.ite (asBool v21) (
 Prg.ite (asBool x1) (
 Prg.ite (asBool x2) (
 call 66 [y13,y14,y15] fun v22 =>
 chk (ab ao [v22] 0) (
 ret v22)) (
 ret (B false))) (
 ret (B false))) (
 ret (B false))) (
 tv (pbin (.int .i64) .eql x3 (I 11)) fun v23 =>
 Prg.ite (asBool v23) (
 Prg.ite (asBool x0) (
 tv (pbin (.int .i64) .eql y11 (I 0)) fun v24 =>
 Prg.ite (asBool v24) (
 tv (pbin (.int .i64) .eql y12 (I 0)) fun v25 =>
 Prg.ite (asBool v25) (
 tv (pbin (.int .u16) .eql y13 (W 0)) fun v26 =>
 Prg.ite (asBool v26) (
 call 65 [agg [y5],agg [y6,y7,y8],y14,y15] fun v27 =>
 chk (ab ao [v27] 0) (
 ret v27)) (
 ret (B false))) (
 ret (B false))) (
 ret (B false))) (
 ret (B false))) (
 tv (pbin (.int .i64) .eql x3 (I 12)) fun v28 =>
 Prg.ite (asBool v28) (
 tv (pbin (.int .i64) .eql y10 (I 0)) fun v29 =>
 Prg.ite (asBool v29) (
 Prg.ite (asBool x1) (
 tv (pbin (.int .i64) .eql y12 (I 0)) fun v30 =>
 Prg.ite (asBool v30) (
 call 66 [y13,y14,y15] fun v31 =>
 chk (ab ao [v31] 0) (
 ret v31)) (
 ret (B false))) (
 ret (B false))) (
 ret (B false))) (
 tv (pbin (.int .i64) .eql x3 (I 13)) fun v32 =>
 Prg.ite (asBool v32) (
 Prg.ite (asBool x0) (
 tv (pbin (.int .i64) .eql y11 (I 0)) fun v33 =>
 Prg.ite (asBool v33) (
 tv (pbin (.int .i64) .eql y12 (I 0)) fun v34 =>
 Prg.ite (asBool v34) (
 call 66 [y13,y14,y15] fun v35 =>
 chk (ab ao [v35] 0) (
 ret v35)) (
 ret (B false))) (
 ret (B false))) (
 ret (B false))) (
 ret (B false))))))
theorem f51_MR (x0 x1 x2:TV):au prog 51 [x0,x1,x2]=f51_M x0 x1 x2:=by kernel_rfl
theorem f51_0_J  {x0 x1 x2 x3 x4 y5 y6 y7 y8 y9 y10 y11 y12 y13 y14 y15:TV} {r:TV} (h:aa prog 51 (f51_0 x0 x1 x2 x3 x4 y5 y6 y7 y8 y9 y10 y11 y12 y13 y14 y15) r):aa prog 51 (.jmp [1,1,1,0,1,0,1,1] (f51_0_S x0 x1 x2 x3 x4 y5 y6 y7 y8 y9 y10 y11 y12 y13 y14 y15)) r:=aa.jmp (by kernel_rfl) h
theorem f51_1_J  {x0 x1 x2 x3 x4 y5 y6 y7 y8 y9 y10 y11 y12 y13 y14 y15:TV} {r:TV} (h:aa prog 51 (f51_1 x0 x1 x2 x3 x4 y5 y6 y7 y8 y9 y10 y11 y12 y13 y14 y15) r):aa prog 51 (.jmp [1,1,1,1,1,0,1,0,1,1] (f51_1_S x0 x1 x2 x3 x4 y5 y6 y7 y8 y9 y10 y11 y12 y13 y14 y15)) r:=aa.jmp (by kernel_rfl) h
def f52_0_S  (x0 x1 y2 w3:TV):ASt:=⟨[Jk,AV.tv x0,Pt 0,Jk,Jk,Sr 1,AV.tv x1] ++ Rj 30,[Ct y2,Tr w3] ++ Rz 59,[]⟩
def f52_M (x0 x1:TV):Prg TV :=
 chk (TV.isAgg x0 1) (
 chk true (
 jmp [0,0,1,0,1,1] (f52_0_S x1 (I 0) (cell x0 0) (TV.lit aB))))
def f52_0  (x0 x1 y2 w3:TV):Prg TV :=
 tv (plen (.slice 27) y2) fun v0 =>
 tv (pbin (.int .i64) .lss x1 v0) fun v1 =>
 Prg.ite (asBool v1) (
 tv (pbin (.int .i64) .geq x0 (I 0)) fun v2 =>
 Prg.ite (asBool v2) (
 tv (plen (.slice 27) y2) fun v3 =>
 tv (pbin (.int .i64) .lss x0 v3) fun v4 =>
 Prg.ite (asBool v4) (
 tvs (pidx 3 y2 x0) fun e5 =>
 chk (Nat.ble 3 (List.length e5)) (
 call 67 [agg [nth hole e5 0,nth hole e5 1,nth hole e5 2],x1] fun v6 =>
 chk (ab ao [v6] 0) (
 Prg.ite (asBool v6) (
 chk (TV.gR x1) (
 rws (pelems 1 (TV.sl true 1 (chunks 1 1 [x1]))) fun r7 =>
 tv (papp 1 w3 (jR r7)) fun v8 =>
 tv (pbin (.int .i64) .add x1 (I 1)) fun v9 =>
 jmp [0,0,1,0,1,1] (f52_0_S x0 v9 y2 v8))) (
 tv (pbin (.int .i64) .add x1 (I 1)) fun v10 =>
 jmp [0,0,1,0,1,1] (f52_0_S x0 v10 y2 w3))))) (
 tv (pbin (.int .i64) .add x1 (I 1)) fun v11 =>
 jmp [0,0,1,0,1,1] (f52_0_S x0 v11 y2 w3))) (
 tv (pbin (.int .i64) .add x1 (I 1)) fun v12 =>
 jmp [0,0,1,0,1,1] (f52_0_S x0 v12 y2 w3))) (
 chk (bj w3) (
 ret w3))
theorem f52_MR (x0 x1:TV):au prog 52 [x0,x1]=f52_M x0 x1:=by kernel_rfl
theorem f52_0_J  {x0 x1 y2 w3:TV} {r:TV} (h:aa prog 52 (f52_0 x0 x1 y2 w3) r):aa prog 52 (.jmp [0,0,1,0,1,1] (f52_0_S x0 x1 y2 w3)) r:=aa.jmp (by kernel_rfl) h
def f53_0_S  (x0 x1 x2 y3 y4 y5 y6 y7 y8 y9 y10 y11 y12 y13 y14 y15 y16 y17 y18 y19 y20:TV):ASt:=⟨[Jk,Jk,Pt 0,Pt 1] ++ Rj 17 ++ [AV.tv x0,AV.tv x1,AV.tv x2] ++ Rj 12,[some (BC.cells [CA.t y3,CA.t y4,CA.t y5,CA.t y6]),some (BC.cells [CA.t y7,CA.t y8,CA.t y9,CA.t y10,CA.t y11,CA.t y12,CA.t y13,CA.t y14,CA.t y15,CA.t y16,CA.t y17,CA.t y18,CA.t y19,CA.t y20])] ++ Rz 58,[]⟩
def f53_1_S  (y0 y1 y2 y3 y4 y5 y6 y7 y8 y9 y10 y11 y12 y13 y14 y15 y16 y17:TV):ASt:=⟨[Jk,Jk,Pt 0,Pt 1] ++ Rj 32,[some (BC.cells [CA.t y0,CA.t y1,CA.t y2,CA.t y3]),some (BC.cells [CA.t y4,CA.t y5,CA.t y6,CA.t y7,CA.t y8,CA.t y9,CA.t y10,CA.t y11,CA.t y12,CA.t y13,CA.t y14,CA.t y15,CA.t y16,CA.t y17])] ++ Rz 58,[]⟩
def f53_M (x0 x1:TV):Prg TV :=
 chk (TV.isAgg x0 4) (
 chk (TV.isAgg x1 14) (
 tv (plen (.slice 50) (cell x1 5)) fun v0 =>
 tv (pbin (.int .i64) .gtr v0 (I 64)) fun v1 =>
 Prg.ite (asBool v1) (
 ret (B false)) (
 call 68 [agg [cell x0 0,cell x0 1,cell x0 2,cell x0 3],cell x1 0,agg [cell x1 1,cell x1 2,cell x1 3,cell x1 4]] fun v2 =>
 chk (ab ao [v2] 0) (
 tv (pun .not v2) fun v3 =>
 Prg.ite (asBool v3) (
 ret (B false)) (
 tv (plen (.slice 50) (cell x1 5)) fun v4 =>
 jmp [0,0,1,0,1,1] (f53_0_S (cell x1 5) v4 (I 0) (cell x0 0) (cell x0 1) (cell x0 2) (cell x0 3) (cell x1 0) (cell x1 1) (cell x1 2) (cell x1 3) (cell x1 4) (cell x1 5) (cell x1 6) (cell x1 7) (cell x1 8) (cell x1 9) (cell x1 10) (cell x1 11) (cell x1 12) (cell x1 13)))))))
def f53_0  (x0 x1 x2 y3 y4 y5 y6 y7 y8 y9 y10 y11 y12 y13 y14 y15 y16 y17 y18 y19 y20:TV):Prg TV :=
 tv (pbin (.int .i64) .lss x2 x1) fun v5 =>
 Prg.ite (asBool v5) (
 tvs (pidx 7 x0 x2) fun e6 =>
 chk (Nat.ble 7 (List.length e6)) (
 call 69 [agg [y3,y4,y5,y6],agg [nth hole e6 0,nth hole e6 1,nth hole e6 2,nth hole e6 3,nth hole e6 4,nth hole e6 5,nth hole e6 6]] fun v7 =>
 chk (ab ao [v7] 0) (
 tv (pun .not v7) fun v8 =>
 Prg.ite (asBool v8) (
 ret (B false)) (
 tv (pbin (.int .i64) .add x2 (I 1)) fun v9 =>
 jmp [0,0,1,0,1,1] (f53_0_S x0 x1 v9 y3 y4 y5 y6 y7 y8 y9 y10 y11 y12 y13 y14 y15 y16 y17 y18 y19 y20))))) (
 jmp [1,1,1] (f53_1_S y3 y4 y5 y6 y7 y8 y9 y10 y11 y12 y13 y14 y15 y16 y17 y18 y19 y20))
def f53_1  (y0 y1 y2 y3 y4 y5 y6 y7 y8 y9 y10 y11 y12 y13 y14 y15 y16 y17:TV):Prg TV :=
 call 70 [agg [y0,y1,y2,y3],agg [y10,y11,y12,y13,y14,y15,y16,y17]] fun v10 =>
 chk (ab ao [v10] 0) (
 ret v10)
theorem f53_MR (x0 x1:TV):au prog 53 [x0,x1]=f53_M x0 x1:=by kernel_rfl
theorem f53_0_J  {x0 x1 x2 y3 y4 y5 y6 y7 y8 y9 y10 y11 y12 y13 y14 y15 y16 y17 y18 y19 y20:TV} {r:TV} (h:aa prog 53 (f53_0 x0 x1 x2 y3 y4 y5 y6 y7 y8 y9 y10 y11 y12 y13 y14 y15 y16 y17 y18 y19 y20) r):aa prog 53 (.jmp [0,0,1,0,1,1] (f53_0_S x0 x1 x2 y3 y4 y5 y6 y7 y8 y9 y10 y11 y12 y13 y14 y15 y16 y17 y18 y19 y20)) r:=aa.jmp (by kernel_rfl) h
theorem f53_1_J  {y0 y1 y2 y3 y4 y5 y6 y7 y8 y9 y10 y11 y12 y13 y14 y15 y16 y17:TV} {r:TV} (h:aa prog 53 (f53_1 y0 y1 y2 y3 y4 y5 y6 y7 y8 y9 y10 y11 y12 y13 y14 y15 y16 y17) r):aa prog 53 (.jmp [1,1,1] (f53_1_S y0 y1 y2 y3 y4 y5 y6 y7 y8 y9 y10 y11 y12 y13 y14 y15 y16 y17)) r:=aa.jmp (by kernel_rfl) h
def f56_M (c0 c1 c2 x0:TV):Prg TV :=
 chk (Nat.ble 3 (List.length [c0,c1,c2])) (
 call 47 [agg [c0,c1,c2],x0] fun v0 =>
 chk (ab zSl [v0] 0) (
 chk (bj v0) (
 ret v0)))
theorem f56_MR (c0 c1 c2 x0:TV):au prog 56 [x0,agg [c0,c1,c2]]=f56_M c0 c1 c2 x0:=by kernel_rfl
def f58_M (x0:TV):Prg TV :=
 tv (pbin (.int .i64) .eql x0 (I 1)) fun v0 =>
 Prg.ite (asBool v0) (
 Prg.ite (asBool v0) (
 ret (I 5)) (
 tv (pbin (.int .i64) .eql x0 (I 2)) fun v1 =>
 Prg.ite (asBool v1) (
 ret (I 65)) (
 tv (pbin (.int .i64) .eql x0 (I 3)) fun v2 =>
 Prg.ite (asBool v2) (
 ret (I 197)) (
 tv (pbin (.int .i64) .eql x0 (I 4)) fun v3 =>
 Prg.ite (asBool v3) (
 ret (I 355)) (
 tv (pbin (.int .i64) .eql x0 (I 6)) fun v4 =>
 Prg.ite (asBool v4) (
 ret (I 1)) (
 ret (I 0))))))) (
 tv (pbin (.int .i64) .eql x0 (I 5)) fun v5 =>
 Prg.ite (asBool v5) (
 ret (I 5)) (
 tv (pbin (.int .i64) .eql x0 (I 2)) fun v6 =>
 Prg.ite (asBool v6) (
 ret (I 65)) (
 tv (pbin (.int .i64) .eql x0 (I 3)) fun v7 =>
 Prg.ite (asBool v7) (
 ret (I 197)) (
 tv (pbin (.int .i64) .eql x0 (I 4)) fun v8 =>
 Prg.ite (asBool v8) (
 ret (I 355)) (
 tv (pbin (.int .i64) .eql x0 (I 6)) fun v9 =>
 Prg.ite (asBool v9) (
 ret (I 1)) (
 ret (I 0)))))))
theorem f58_MR (x0:TV):au prog 58 [x0]=f58_M x0:=by kernel_rfl
def f59_M (x0 x1:TV):Prg TV :=
 tv (pbin (.int .i64) .and x0 x1) fun v0 =>
 tv (pbin (.int .i64) .neq v0 (I 0)) fun v1 =>
 ret v1
theorem f59_MR (x0 x1:TV):au prog 59 [x0,x1]=f59_M x0 x1:=by kernel_rfl
def f60_M (x0 x1:TV):Prg TV :=
 chk (TV.isAgg x0 3) (
 tv (pbin (.int .i64) .leq (I 0) x1) fun v0 =>
 Prg.ite (asBool v0) (
 tv (plen (.slice 46) (cell x0 2)) fun v1 =>
 tv (pbin (.int .i64) .lss x1 v1) fun v2 =>
 ret v2) (
 ret (B false)))
theorem f60_MR (x0 x1:TV):au prog 60 [x0,x1]=f60_M x0 x1:=by kernel_rfl
def f63_M (x0 x1:TV):Prg TV :=
 tv (pbin (.int .i64) .geq x0 (I 0)) fun v0 =>
 Prg.ite (asBool v0) (
 tv (pbin (.int .i64) .lss x0 x1) fun v1 =>
 ret v1) (
 ret (B false))
theorem f63_MR (x0 x1:TV):au prog 63 [x0,x1]=f63_M x0 x1:=by kernel_rfl
def f64_M (x0 x1:TV):Prg TV :=
 chk (TV.isAgg x0 3) (
 tv (plen (.slice 46) (cell x0 2)) fun v0 =>
 call 63 [x1,v0] fun v1 =>
 chk (ab ao [v1] 0) (
 Prg.ite (asBool v1) (
 tvs (pidx 14 (cell x0 2) x1) fun e2 =>
 chk (Nat.blt 0 (List.length e2)) (
 tv (pun .not (nth hole e2 0)) fun v3 =>
 ret v3)) (
 ret (B false))))
theorem f64_MR (x0 x1:TV):au prog 64 [x0,x1]=f64_M x0 x1:=by kernel_rfl
def f65_0_S  (x0 x1 y2 y3 y4:TV):ASt:=⟨[Jk,Jk,Jk,AV.tv x0,Jk,Pt 0,Jk,Jk,Jk,AV.tv x1] ++ Rj 31,[some (BC.cells [CA.t y2,CA.t y3,CA.t y4])] ++ Rz 64,[]⟩
def f65_M (x0 x1 x2 x3:TV):Prg TV :=
 chk (TV.isAgg x0 1) (
 chk (TV.isAgg x1 3) (
 tv (plen (.slice 27) (cell x0 0)) fun v0 =>
 call 63 [x2,v0] fun v1 =>
 chk (ab ao [v1] 0) (
 tv (pun .not v1) fun v2 =>
 Prg.ite (asBool v2) (
 ret (B false)) (
 tv (plen (.slice 3) x3) fun v3 =>
 tvs (pidx 3 (cell x0 0) x2) fun e4 =>
 chk (Nat.blt 0 (List.length e4)) (
 tv (pbin (.int .i64) .neq v3 (nth hole e4 0)) fun v5 =>
 Prg.ite (asBool v5) (
 ret (B false)) (
 jmp [0,0,1,0,1,1] (f65_0_S x3 (I 0) (cell x1 0) (cell x1 1) (cell x1 2))))))))
def f65_0  (x0 x1 y2 y3 y4:TV):Prg TV :=
 tv (plen (.slice 3) x0) fun v6 =>
 tv (pbin (.int .i64) .lss x1 v6) fun v7 =>
 Prg.ite (asBool v7) (
 tvs (pidx 1 x0 x1) fun e8 =>
 chk (Nat.blt 0 (List.length e8)) (
 call 63 [nth hole e8 0,y3] fun v9 =>
 chk (ab ao [v9] 0) (
 tv (pun .not v9) fun v10 =>
 Prg.ite (asBool v10) (
 ret (B false)) (
 tv (pbin (.int .i64) .add x1 (I 1)) fun v11 =>
 jmp [0,0,1,0,1,1] (f65_0_S x0 v11 y2 y3 y4))))) (
 ret (B true))
theorem f65_MR (x0 x1 x2 x3:TV):au prog 65 [x0,x1,x2,x3]=f65_M x0 x1 x2 x3:=by kernel_rfl
theorem f65_0_J  {x0 x1 y2 y3 y4:TV} {r:TV} (h:aa prog 65 (f65_0 x0 x1 y2 y3 y4) r):aa prog 65 (.jmp [0,0,1,0,1,1] (f65_0_S x0 x1 y2 y3 y4)) r:=aa.jmp (by kernel_rfl) h
def f66_M (x0 x1 x2:TV):Prg TV :=
 tv (pbin (.int .u16) .eql x0 (W 0)) fun v0 =>
 Prg.ite (asBool v0) (
 tv (pbin (.int .i64) .eql x1 (I 0)) fun v1 =>
 Prg.ite (asBool v1) (
 tv (plen (.slice 3) x2) fun v2 =>
 tv (pbin (.int .i64) .eql v2 (I 0)) fun v3 =>
 ret v3) (
 ret (B false))) (
 ret (B false))
theorem f66_MR (x0 x1 x2:TV):au prog 66 [x0,x1,x2]=f66_M x0 x1 x2:=by kernel_rfl
def f67_0_S  (x0 x1 y2 y3 y4:TV):ASt:=⟨[Jk,AV.tv x0,Pt 0,Jk,Jk,AV.tv x1] ++ Rj 63,[some (BC.cells [CA.t y2,CA.t y3,CA.t y4])] ++ Rz 92,[]⟩
def f67_1_S  (x0 x1 x2 y3 y4 y5:TV):ASt:=⟨[Jk,AV.tv x0,Pt 0,Jk,Jk,AV.tv x1,AV.tv x2] ++ Rj 62,[some (BC.cells [CA.t y3,CA.t y4,CA.t y5])] ++ Rz 92,[]⟩
def f67_2_S  (x0 x1 y2 y3 y4:TV):ASt:=⟨[Jk,AV.tv x0,Pt 0,Jk,Jk,AV.tv x1] ++ Rj 63,[some (BC.cells [CA.t y2,CA.t y3,CA.t y4])] ++ Rz 92,[]⟩
def f67_M (x0 x1:TV):Prg TV :=
 chk (TV.isAgg x0 3) (
 jmp [0,0,1,0,1] (f67_0_S x1 (I 0) (cell x0 0) (cell x0 1) (cell x0 2)))
def f67_0  (x0 x1 y2 y3 y4:TV):Prg TV :=
 tv (plen (.slice 46) y4) fun v0 =>
 tv (pbin (.int .i64) .lss x1 v0) fun v1 =>
 Prg.ite (asBool v1) (
 jmp [0,0,1,0,0,0,1,0,0,1,0,1] (f67_1_S x0 x1 (I 0) y2 y3 y4)) (
 ret (B false))
def f67_1  (x0 x1 x2 y3 y4 y5:TV):Prg TV :=
 tvs (pidx 14 y5 x1) fun e2 =>
 chk (Nat.blt 5 (List.length e2)) (
 tv (plen (.slice 50) (nth hole e2 5)) fun v3 =>
 tv (pbin (.int .i64) .lss x2 v3) fun v4 =>
 Prg.ite (asBool v4) (
 tvs (pidx 14 y5 x1) fun e5 =>
 chk (Nat.blt 5 (List.length e5)) (
 tvs (pidx 7 (nth hole e5 5) x2) fun e6 =>
 chk (Nat.blt 0 (List.length e6)) (
 tv (pbin (.int .i64) .eql (nth hole e6 0) (I 11)) fun v7 =>
 Prg.ite (asBool v7) (
 tvs (pidx 14 y5 x1) fun e8 =>
 chk (Nat.blt 5 (List.length e8)) (
 tvs (pidx 7 (nth hole e8 5) x2) fun e9 =>
 chk (Nat.blt 5 (List.length e9)) (
 tv (pbin (.int .i64) .eql (nth hole e9 5) x0) fun v10 =>
 Prg.ite (asBool v10) (
 ret (B true)) (
 tv (pbin (.int .i64) .add x2 (I 1)) fun v11 =>
 jmp [0,0,1,0,0,0,1,0,0,1,0,1] (f67_1_S x0 x1 v11 y3 y4 y5))))) (
 tv (pbin (.int .i64) .add x2 (I 1)) fun v12 =>
 jmp [0,0,1,0,0,0,1,0,0,1,0,1] (f67_1_S x0 x1 v12 y3 y4 y5))))) (
 jmp [1,0,0,1,0,0,1,0,1] (f67_2_S x0 x1 y3 y4 y5)))
def f67_2  (x0 x1 y2 y3 y4:TV):Prg TV :=
 tvs (pidx 14 y4 x1) fun e13 =>
 chk (Nat.blt 6 (List.length e13)) (
 tv (pbin (.int .i64) .eql (nth hole e13 6) (I 4)) fun v14 =>
 Prg.ite (asBool v14) (
 tvs (pidx 14 y4 x1) fun e15 =>
 chk (Nat.blt 9 (List.length e15)) (
 tv (pbin (.int .i64) .eql (nth hole e15 9) x0) fun v16 =>
 Prg.ite (asBool v16) (
 ret (B true)) (
 tv (pbin (.int .i64) .add x1 (I 1)) fun v17 =>
 jmp [0,0,1,0,1] (f67_0_S x0 v17 y2 y3 y4)))) (
 tv (pbin (.int .i64) .add x1 (I 1)) fun v18 =>
 jmp [0,0,1,0,1] (f67_0_S x0 v18 y2 y3 y4)))
theorem f67_MR (x0 x1:TV):au prog 67 [x0,x1]=f67_M x0 x1:=by kernel_rfl
theorem f67_0_J  {x0 x1 y2 y3 y4:TV} {r:TV} (h:aa prog 67 (f67_0 x0 x1 y2 y3 y4) r):aa prog 67 (.jmp [0,0,1,0,1] (f67_0_S x0 x1 y2 y3 y4)) r:=aa.jmp (by kernel_rfl) h
theorem f67_1_J  {x0 x1 x2 y3 y4 y5:TV} {r:TV} (h:aa prog 67 (f67_1 x0 x1 x2 y3 y4 y5) r):aa prog 67 (.jmp [0,0,1,0,0,0,1,0,0,1,0,1] (f67_1_S x0 x1 x2 y3 y4 y5)) r:=aa.jmp (by kernel_rfl) h
theorem f67_2_J  {x0 x1 y2 y3 y4:TV} {r:TV} (h:aa prog 67 (f67_2 x0 x1 y2 y3 y4) r):aa prog 67 (.jmp [1,0,0,1,0,0,1,0,1] (f67_2_S x0 x1 y2 y3 y4)) r:=aa.jmp (by kernel_rfl) h
def f68_M (x0 x1 x2:TV):Prg TV :=
 chk (TV.isAgg x0 4) (
 chk (TV.isAgg x2 4) (
 tv (pun .not x1) fun v0 =>
 Prg.ite (asBool v0) (
 tv (pbin (.int .i64) .eql (cell x2 0) (I 0)) fun v1 =>
 Prg.ite (asBool v1) (
 tv (plen (.slice 48) (cell x2 1)) fun v2 =>
 tv (pbin (.int .i64) .eql v2 (I 0)) fun v3 =>
 Prg.ite (asBool v3) (
 tv (pun .not (cell x2 2)) fun v4 =>
 Prg.ite (asBool v4) (
 tv (pun .not (cell x2 3)) fun v5 =>
 ret v5) (
 ret (B false))) (
 ret (B false))) (
 ret (B false))) (
 call 73 [agg [cell x0 0,cell x0 1,cell x0 2,cell x0 3],B true,cell x2 0] fun v6 =>
 chk (ab ao [v6] 0) (
 Prg.ite (asBool v6) (
 tv (plen (.slice 48) (cell x2 1)) fun v7 =>
 tv (pbin (.int .i64) .leq v7 (I 8)) fun v8 =>
 Prg.ite (asBool v8) (
 call 74 [cell x2 1] fun v9 =>
 chk (ab ao [v9] 0) (
 Prg.ite (asBool v9) (
 tv (plen (.slice 48) (cell x2 1)) fun v10 =>
 tv (pbin (.int .i64) .gtr v10 (I 0)) fun v11 =>
 Prg.ite (asBool v11) (
 ret (B true)) (
 Prg.ite (asBool (cell x2 2)) (
 ret (B true)) (
 ret (cell x2 3)))) (
 ret (B false)))) (
 ret (B false))) (
 ret (B false))))))
theorem f68_MR (x0 x1 x2:TV):au prog 68 [x0,x1,x2]=f68_M x0 x1 x2:=by kernel_rfl
def f69_M (x0 x1:TV):Prg TV :=
 chk (TV.isAgg x0 4) (
 chk (TV.isAgg x1 7) (
 call 75 [cell x1 0] fun v0 =>
 chk (ab ct [v0] 0) (
 call 59 [v0,I 1] fun v1 =>
 chk (ab ao [v1] 0) (
 Prg.ite (asBool v1) (
 call 59 [v0,I 2] fun v2 =>
 chk (ab ao [v2] 0) (
 call 73 [agg [cell x0 0,cell x0 1,cell x0 2,cell x0 3],v2,cell x1 1] fun v3 =>
 chk (ab ao [v3] 0) (
 Prg.ite (asBool v3) (
 call 59 [v0,I 4] fun v4 =>
 chk (ab ao [v4] 0) (
 call 73 [agg [cell x0 0,cell x0 1,cell x0 2,cell x0 3],v4,cell x1 2] fun v5 =>
 chk (ab ao [v5] 0) (
 Prg.ite (asBool v5) (
 call 59 [v0,I 8] fun v6 =>
 chk (ab ao [v6] 0) (
 call 73 [agg [cell x0 0,cell x0 1,cell x0 2,cell x0 3],v6,cell x1 3] fun v7 =>
 chk (ab ao [v7] 0) (
 Prg.ite (asBool v7) (
 call 59 [v0,I 16] fun v8 =>
 chk (ab ao [v8] 0) (
 Prg.ite (asBool v8) (
 call 59 [v0,I 32] fun v9 =>
 chk (ab ao [v9] 0) (
 call 76 [agg [cell x0 0,cell x0 1,cell x0 2,cell x0 3],v9,cell x1 5,cell x1 6] fun v10 =>
 chk (ab ao [v10] 0) (
 ret v10))) (
 tv (pbin (.int .u16) .eql (cell x1 4) (W 0)) fun v11 =>
 Prg.ite (asBool v11) (
 call 59 [v0,I 32] fun v12 =>
 chk (ab ao [v12] 0) (
 call 76 [agg [cell x0 0,cell x0 1,cell x0 2,cell x0 3],v12,cell x1 5,cell x1 6] fun v13 =>
 chk (ab ao [v13] 0) (
 ret v13))) (
 ret (B false))))) (
 ret (B false))))) (
 ret (B false))))) (
 ret (B false))))) (
 ret (B false))))))
theorem f69_MR (x0 x1:TV):au prog 69 [x0,x1]=f69_M x0 x1:=by kernel_rfl
def f70_M (x0 x1:TV):Prg TV :=
 chk (TV.isAgg x0 4) (
 chk (TV.isAgg x1 8) (
 call 58 [cell x1 0] fun v0 =>
 chk (ab ct [v0] 0) (
 call 59 [v0,I 1] fun v1 =>
 chk (ab ao [v1] 0) (
 Prg.ite (asBool v1) (
 call 59 [v0,I 4] fun v2 =>
 chk (ab ao [v2] 0) (
 call 73 [agg [cell x0 0,cell x0 1,cell x0 2,cell x0 3],v2,cell x1 1] fun v3 =>
 chk (ab ao [v3] 0) (
 Prg.ite (asBool v3) (
 call 59 [v0,I 2] fun v4 =>
 chk (ab ao [v4] 0) (
 call 73 [agg [cell x0 0,cell x0 1,cell x0 2,cell x0 3],v4,cell x1 2] fun v5 =>
 chk (ab ao [v5] 0) (
 Prg.ite (asBool v5) (
 call 59 [v0,I 32] fun v6 =>
 chk (ab ao [v6] 0) (
 call 76 [agg [cell x0 0,cell x0 1,cell x0 2,cell x0 3],v6,cell x1 3,cell x1 4] fun v7 =>
 chk (ab ao [v7] 0) (
 Prg.ite (asBool v7) (
 call 59 [v0,I 64] fun v8 =>
 chk (ab ao [v8] 0) (
 call 77 [agg [cell x0 0,cell x0 1,cell x0 2,cell x0 3],v8,cell x1 5,B false] fun v9 =>
 chk (ab ao [v9] 0) (
 Prg.ite (asBool v9) (
 call 59 [v0,I 128] fun v10 =>
 chk (ab ao [v10] 0) (
 call 77 [agg [cell x0 0,cell x0 1,cell x0 2,cell x0 3],v10,cell x1 6,B false] fun v11 =>
 chk (ab ao [v11] 0) (
 Prg.ite (asBool v11) (
 call 59 [v0,I 256] fun v12 =>
 chk (ab ao [v12] 0) (
 call 77 [agg [cell x0 0,cell x0 1,cell x0 2,cell x0 3],v12,cell x1 7,B true] fun v13 =>
 chk (ab ao [v13] 0) (
 ret v13))) (
 ret (B false))))) (
 ret (B false))))) (
 ret (B false))))) (
 ret (B false))))) (
 ret (B false))))) (
 ret (B false))))))
theorem f70_MR (x0 x1:TV):au prog 70 [x0,x1]=f70_M x0 x1:=by kernel_rfl
def f73_M (x0 x1 x2:TV):Prg TV :=
 chk (TV.isAgg x0 4) (
 tv (pun .not x1) fun v0 =>
 Prg.ite (asBool v0) (
 tv (pbin (.int .i64) .eql x2 (I 0)) fun v1 =>
 ret v1) (
 tv (pbin (.int .i64) .leq (I 0) x2) fun v2 =>
 Prg.ite (asBool v2) (
 tv (pbin (.int .i64) .lss x2 (cell x0 2)) fun v3 =>
 ret v3) (
 ret (B false))))
theorem f73_MR (x0 x1 x2:TV):au prog 73 [x0,x1,x2]=f73_M x0 x1 x2:=by kernel_rfl
def f74_0_S  (x0 x1 x2 x3:TV):ASt:=⟨[AV.tv x0] ++ Rj 4 ++ [AV.tv x1,AV.tv x2,AV.tv x3] ++ Rj 10,Rz 42,[]⟩
def f74_M (x0:TV):Prg TV :=
 tv (plen (.slice 48) x0) fun v0 =>
 jmp [0,0,1,0,1] (f74_0_S x0 x0 v0 (I 0))
def f74_0  (x0 x1 x2 x3:TV):Prg TV :=
 tv (pbin (.int .i64) .lss x3 x2) fun v1 =>
 Prg.ite (asBool v1) (
 tvs (pidx 1 x1 x3) fun e2 =>
 chk (Nat.blt 0 (List.length e2)) (
 nat (af x3) fun n3 =>
 tv (pslice (.slice 48) 1 x0 none (some n3)) fun v4 =>
 call 78 [v4,nth hole e2 0] fun v5 =>
 chk (ab ao [v5] 0) (
 Prg.ite (asBool v5) (
 ret (B false)) (
 tv (pbin (.int .i64) .add x3 (I 1)) fun v6 =>
 jmp [0,0,1,0,1] (f74_0_S x0 x1 x2 v6))))) (
 ret (B true))
theorem f74_MR (x0:TV):au prog 74 [x0]=f74_M x0:=by kernel_rfl
theorem f74_0_J  {x0 x1 x2 x3:TV} {r:TV} (h:aa prog 74 (f74_0 x0 x1 x2 x3) r):aa prog 74 (.jmp [0,0,1,0,1] (f74_0_S x0 x1 x2 x3)) r:=aa.jmp (by kernel_rfl) h
def f75_M (x0:TV):Prg TV :=
 tv (pbin (.int .i64) .eql x0 (I 1)) fun v0 =>
 Prg.ite (asBool v0) (
 ret (I 19)) (
 tv (pbin (.int .i64) .eql x0 (I 2)) fun v1 =>
 Prg.ite (asBool v1) (
 Prg.ite (asBool v1) (
 ret (I 7)) (
 tv (pbin (.int .i64) .eql x0 (I 3)) fun v2 =>
 Prg.ite (asBool v2) (
 Prg.ite (asBool v2) (
 ret (I 15)) (
 tv (pbin (.int .i64) .eql x0 (I 10)) fun v3 =>
 Prg.ite (asBool v3) (
 ret (I 13)) (
 tv (pbin (.int .i64) .eql x0 (I 11)) fun v4 =>
 Prg.ite (asBool v4) (
 ret (I 35)) (
 tv (pbin (.int .i64) .eql x0 (I 12)) fun v5 =>
 Prg.ite (asBool v5) (
 ret (I 5)) (
 tv (pbin (.int .i64) .eql x0 (I 13)) fun v6 =>
 Prg.ite (asBool v6) (
 ret (I 3)) (
 ret (I 0))))))) (
 tv (pbin (.int .i64) .eql x0 (I 4)) fun v7 =>
 Prg.ite (asBool v7) (
 Prg.ite (asBool v7) (
 ret (I 15)) (
 tv (pbin (.int .i64) .eql x0 (I 10)) fun v8 =>
 Prg.ite (asBool v8) (
 ret (I 13)) (
 tv (pbin (.int .i64) .eql x0 (I 11)) fun v9 =>
 Prg.ite (asBool v9) (
 ret (I 35)) (
 tv (pbin (.int .i64) .eql x0 (I 12)) fun v10 =>
 Prg.ite (asBool v10) (
 ret (I 5)) (
 tv (pbin (.int .i64) .eql x0 (I 13)) fun v11 =>
 Prg.ite (asBool v11) (
 ret (I 3)) (
 ret (I 0))))))) (
 tv (pbin (.int .i64) .eql x0 (I 5)) fun v12 =>
 Prg.ite (asBool v12) (
 Prg.ite (asBool v12) (
 ret (I 15)) (
 tv (pbin (.int .i64) .eql x0 (I 10)) fun v13 =>
 Prg.ite (asBool v13) (
 ret (I 13)) (
 tv (pbin (.int .i64) .eql x0 (I 11)) fun v14 =>
 Prg.ite (asBool v14) (
 ret (I 35)) (
 tv (pbin (.int .i64) .eql x0 (I 12)) fun v15 =>
 Prg.ite (asBool v15) (
 ret (I 5)) (
 tv (pbin (.int .i64) .eql x0 (I 13)) fun v16 =>
 Prg.ite (asBool v16) (
 ret (I 3)) (
 ret (I 0))))))) (
 tv (pbin (.int .i64) .eql x0 (I 6)) fun v17 =>
 Prg.ite (asBool v17) (
 Prg.ite (asBool v17) (
 ret (I 15)) (
 tv (pbin (.int .i64) .eql x0 (I 10)) fun v18 =>
 Prg.ite (asBool v18) (
 ret (I 13)) (
 tv (pbin (.int .i64) .eql x0 (I 11)) fun v19 =>
 Prg.ite (asBool v19) (
 ret (I 35)) (
 tv (pbin (.int .i64) .eql x0 (I 12)) fun v20 =>
 Prg.ite (asBool v20) (
 ret (I 5)) (
 tv (pbin (.int .i64) .eql x0 (I 13)) fun v21 =>
 Prg.ite (asBool v21) (
 ret (I 3)) (
 ret (I 0))))))) (
 tv (pbin (.int .i64) .eql x0 (I 7)) fun v22 =>
 Prg.ite (asBool v22) (
 Prg.ite (asBool v22) (
 ret (I 15)) (
 tv (pbin (.int .i64) .eql x0 (I 10)) fun v23 =>
 Prg.ite (asBool v23) (
 ret (I 13)) (
 tv (pbin (.int .i64) .eql x0 (I 11)) fun v24 =>
 Prg.ite (asBool v24) (
 ret (I 35)) (
 tv (pbin (.int .i64) .eql x0 (I 12)) fun v25 =>
 Prg.ite (asBool v25) (
 ret (I 5)) (
 tv (pbin (.int .i64) .eql x0 (I 13)) fun v26 =>
 Prg.ite (asBool v26) (
 ret (I 3)) (
 ret (I 0))))))) (
 tv (pbin (.int .i64) .eql x0 (I 8)) fun v27 =>
 Prg.ite (asBool v27) (
 ret (I 15)) (
 tv (pbin (.int .i64) .eql x0 (I 10)) fun v28 =>
 Prg.ite (asBool v28) (
 ret (I 13)) (
 tv (pbin (.int .i64) .eql x0 (I 11)) fun v29 =>
 Prg.ite (asBool v29) (
 ret (I 35)) (
 tv (pbin (.int .i64) .eql x0 (I 12)) fun v30 =>
 Prg.ite (asBool v30) (
 ret (I 5)) (
 tv (pbin (.int .i64) .eql x0 (I 13)) fun v31 =>
 Prg.ite (asBool v31) (
 ret (I 3)) (
 ret (I 0))))))))))))) (
 tv (pbin (.int .i64) .eql x0 (I 9)) fun v32 =>
 Prg.ite (asBool v32) (
 ret (I 7)) (
 tv (pbin (.int .i64) .eql x0 (I 3)) fun v33 =>
 Prg.ite (asBool v33) (
 Prg.ite (asBool v33) (
 ret (I 15)) (
 tv (pbin (.int .i64) .eql x0 (I 10)) fun v34 =>
 Prg.ite (asBool v34) (
 ret (I 13)) (
 tv (pbin (.int .i64) .eql x0 (I 11)) fun v35 =>
 Prg.ite (asBool v35) (
 ret (I 35)) (
 tv (pbin (.int .i64) .eql x0 (I 12)) fun v36 =>
 Prg.ite (asBool v36) (
 ret (I 5)) (
 tv (pbin (.int .i64) .eql x0 (I 13)) fun v37 =>
 Prg.ite (asBool v37) (
 ret (I 3)) (
 ret (I 0))))))) (
 tv (pbin (.int .i64) .eql x0 (I 4)) fun v38 =>
 Prg.ite (asBool v38) (
 Prg.ite (asBool v38) (
 ret (I 15)) (
 tv (pbin (.int .i64) .eql x0 (I 10)) fun v39 =>
 Prg.ite (asBool v39) (
 ret (I 13)) (
 tv (pbin (.int .i64) .eql x0 (I 11)) fun v40 =>
 Prg.ite (asBool v40) (
 ret (I 35)) (
 tv (pbin (.int .i64) .eql x0 (I 12)) fun v41 =>
 Prg.ite (asBool v41) (
 ret (I 5)) (
 tv (pbin (.int .i64) .eql x0 (I 13)) fun v42 =>
 Prg.ite (asBool v42) (
 ret (I 3)) (
 ret (I 0))))))) (
 tv (pbin (.int .i64) .eql x0 (I 5)) fun v43 =>
 Prg.ite (asBool v43) (
 Prg.ite (asBool v43) (
 ret (I 15)) (
 tv (pbin (.int .i64) .eql x0 (I 10)) fun v44 =>
 Prg.ite (asBool v44) (
 ret (I 13)) (
 tv (pbin (.int .i64) .eql x0 (I 11)) fun v45 =>
 Prg.ite (asBool v45) (
 ret (I 35)) (
 tv (pbin (.int .i64) .eql x0 (I 12)) fun v46 =>
 Prg.ite (asBool v46) (
 ret (I 5)) (
 tv (pbin (.int .i64) .eql x0 (I 13)) fun v47 =>
 Prg.ite (asBool v47) (
 ret (I 3)) (
 ret (I 0))))))) (
 tv (pbin (.int .i64) .eql x0 (I 6)) fun v48 =>
 Prg.ite (asBool v48) (
 Prg.ite (asBool v48) (
 ret (I 15)) (
 tv (pbin (.int .i64) .eql x0 (I 10)) fun v49 =>
 Prg.ite (asBool v49) (
 ret (I 13)) (
 tv (pbin (.int .i64) .eql x0 (I 11)) fun v50 =>
 Prg.ite (asBool v50) (
 ret (I 35)) (
 tv (pbin (.int .i64) .eql x0 (I 12)) fun v51 =>
 Prg.ite (asBool v51) (
 ret (I 5)) (
 tv (pbin (.int .i64) .eql x0 (I 13)) fun v52 =>
 Prg.ite (asBool v52) (
 ret (I 3)) (
 ret (I 0))))))) (
 tv (pbin (.int .i64) .eql x0 (I 7)) fun v53 =>
 Prg.ite (asBool v53) (
 Prg.ite (asBool v53) (
 ret (I 15)) (
 tv (pbin (.int .i64) .eql x0 (I 10)) fun v54 =>
 Prg.ite (asBool v54) (
 ret (I 13)) (
 tv (pbin (.int .i64) .eql x0 (I 11)) fun v55 =>
 Prg.ite (asBool v55) (
 ret (I 35)) (
 tv (pbin (.int .i64) .eql x0 (I 12)) fun v56 =>
 Prg.ite (asBool v56) (
 ret (I 5)) (
 tv (pbin (.int .i64) .eql x0 (I 13)) fun v57 =>
 Prg.ite (asBool v57) (
 ret (I 3)) (
 ret (I 0))))))) (
 tv (pbin (.int .i64) .eql x0 (I 8)) fun v58 =>
 Prg.ite (asBool v58) (
 ret (I 15)) (
 tv (pbin (.int .i64) .eql x0 (I 10)) fun v59 =>
 Prg.ite (asBool v59) (
 ret (I 13)) (
 tv (pbin (.int .i64) .eql x0 (I 11)) fun v60 =>
 Prg.ite (asBool v60) (
 ret (I 35)) (
 tv (pbin (.int .i64) .eql x0 (I 12)) fun v61 =>
 Prg.ite (asBool v61) (
 ret (I 5)) (
 tv (pbin (.int .i64) .eql x0 (I 13)) fun v62 =>
 Prg.ite (asBool v62) (
 ret (I 3)) (
 ret (I 0))))))))))))))
theorem f75_MR (x0:TV):au prog 75 [x0]=f75_M x0:=by kernel_rfl
def f76_0_S  (x0 x1 x2 y3 y4 y5 y6:TV):ASt:=⟨Rj 4 ++ [Pt 0] ++ Rj 35 ++ [AV.tv x0,AV.tv x1,AV.tv x2] ++ Rj 8,[some (BC.cells [CA.t y3,CA.t y4,CA.t y5,CA.t y6])] ++ Rz 74,[]⟩
def f76_M (x0 x1 x2 x3:TV):Prg TV :=
 chk (TV.isAgg x0 4) (
 tv (pun .not x1) fun v0 =>
 Prg.ite (asBool v0) (
 tv (pbin (.int .i64) .eql x2 (I 0)) fun v1 =>
 Prg.ite (asBool v1) (
 tv (plen (.slice 3) x3) fun v2 =>
 tv (pbin (.int .i64) .eql v2 (I 0)) fun v3 =>
 ret v3) (
 ret (B false))) (
 tv (pbin (.int .i64) .lss x2 (I 0)) fun v4 =>
 Prg.ite (asBool v4) (
 ret (B false)) (
 tv (plen (.slice 27) (cell x0 0)) fun v5 =>
 tv (pbin (.int .i64) .geq x2 v5) fun v6 =>
 Prg.ite (asBool v6) (
 ret (B false)) (
 tv (plen (.slice 3) x3) fun v7 =>
 tvs (pidx 3 (cell x0 0) x2) fun e8 =>
 chk (Nat.blt 0 (List.length e8)) (
 tv (pbin (.int .i64) .neq v7 (nth hole e8 0)) fun v9 =>
 Prg.ite (asBool v9) (
 ret (B false)) (
 tv (plen (.slice 3) x3) fun v10 =>
 jmp [0,0,1,0,1,1,1] (f76_0_S x3 v10 (I 0) (cell x0 0) (cell x0 1) (cell x0 2) (cell x0 3))))))))
def f76_0  (x0 x1 x2 y3 y4 y5 y6:TV):Prg TV :=
 tv (pbin (.int .i64) .lss x2 x1) fun v11 =>
 Prg.ite (asBool v11) (
 tvs (pidx 1 x0 x2) fun e12 =>
 chk (Nat.blt 0 (List.length e12)) (
 call 73 [agg [y3,y4,y5,y6],B true,nth hole e12 0] fun v13 =>
 chk (ab ao [v13] 0) (
 tv (pun .not v13) fun v14 =>
 Prg.ite (asBool v14) (
 ret (B false)) (
 tv (pbin (.int .i64) .add x2 (I 1)) fun v15 =>
 jmp [0,0,1,0,1,1,1] (f76_0_S x0 x1 v15 y3 y4 y5 y6))))) (
 ret (B true))
theorem f76_MR (x0 x1 x2 x3:TV):au prog 76 [x0,x1,x2,x3]=f76_M x0 x1 x2 x3:=by kernel_rfl
theorem f76_0_J  {x0 x1 x2 y3 y4 y5 y6:TV} {r:TV} (h:aa prog 76 (f76_0 x0 x1 x2 y3 y4 y5 y6) r):aa prog 76 (.jmp [0,0,1,0,1,1,1] (f76_0_S x0 x1 x2 y3 y4 y5 y6)) r:=aa.jmp (by kernel_rfl) h
def f77_M (x0 x1 x2 x3:TV):Prg TV :=
 chk (TV.isAgg x0 4) (
 tv (pun .not x1) fun v0 =>
 Prg.ite (asBool v0) (
 tv (pbin (.int .i64) .eql x2 (I 0)) fun v1 =>
 ret v1) (
 tv (pbin (.int .i64) .leq (I 0) x2) fun v2 =>
 Prg.ite (asBool v2) (
 tv (plen (.slice 46) (cell x0 3)) fun v3 =>
 tv (pbin (.int .i64) .lss x2 v3) fun v4 =>
 Prg.ite (asBool v4) (
 tvs (pidx 14 (cell x0 3) x2) fun e5 =>
 chk (Nat.blt 0 (List.length e5)) (
 tv (pbin Kd.bool .eql (nth hole e5 0) x3) fun v6 =>
 ret v6)) (
 ret (B false))) (
 ret (B false))))
theorem f77_MR (x0 x1 x2 x3:TV):au prog 77 [x0,x1,x2,x3]=f77_M x0 x1 x2 x3:=by kernel_rfl
def f78_M (x0 x1:TV):Prg TV :=
 call 79 [x0,x1] fun v0 =>
 chk (ab ct [v0] 0) (
 tv (pbin (.int .i64) .geq v0 (I 0)) fun v1 =>
 ret v1)
theorem f78_MR (x0 x1:TV):au prog 78 [x0,x1]=f78_M x0 x1:=by kernel_rfl
def f79_0_S  (x0 x1 x2 x3:TV):ASt:=⟨[AV.tv x0,AV.tv x1] ++ Rj 5 ++ [AV.tv x2,AV.tv x3] ++ Rj 10,Rz 43,[]⟩
def f79_M (x0 x1:TV):Prg TV :=
 tv (plen (.slice 48) x0) fun v0 =>
 jmp [0,0,1,0,1] (f79_0_S x0 x1 v0 (I 0))
def f79_0  (x0 x1 x2 x3:TV):Prg TV :=
 tv (pbin (.int .i64) .lss x3 x2) fun v1 =>
 Prg.ite (asBool v1) (
 tvs (pidx 1 x0 x3) fun e2 =>
 chk (Nat.blt 0 (List.length e2)) (
 tv (pbin (.int .u16) .eql x1 (nth hole e2 0)) fun v3 =>
 Prg.ite (asBool v3) (
 ret x3) (
 tv (pbin (.int .i64) .add x3 (I 1)) fun v4 =>
 jmp [0,0,1,0,1] (f79_0_S x0 x1 x2 v4)))) (
 ret (TV.lit (Value.int IntKind.i64 (-1))))
theorem f79_MR (x0 x1:TV):au prog 79 [x0,x1]=f79_M x0 x1:=by kernel_rfl
theorem f79_0_J  {x0 x1 x2 x3:TV} {r:TV} (h:aa prog 79 (f79_0 x0 x1 x2 x3) r):aa prog 79 (.jmp [0,0,1,0,1] (f79_0_S x0 x1 x2 x3)) r:=aa.jmp (by kernel_rfl) h
end Go.Ab.D13
end
section
set_option maxRecDepth 10000
namespace Go.Ab.D13
open Go Go.Ab Go.Proofs
theorem AW {a b:DIns}:a=b ↔ a.op=b.op/\a.dst=b.dst/\a.a=b.a/\a.b=b.b/\a.k=b.k/\a.f=b.f/\a.args=b.args:=by
 cases a; cases b; simp
theorem Cp {a b:DEnd}:a=b ↔ a.kind=b.kind/\a.a=b.a/\a.dst=b.dst/\a.f=b.f/\a.args=b.args/\a.to=b.to/\a.els=b.els/\a.pad=b.pad:=by
 cases a; cases b; simp
theorem rZ {a b:DPad}:a=b ↔ a.dst=b.dst/\a.catches=b.catches/\a.all=b.all/\a.cleanup=b.cleanup:=by
 cases a; cases b; simp
theorem CI {a b:DBlock}:a=b ↔ a.landing=b.landing/\a.pad=b.pad/\a.ins=b.ins/\a.fin=b.fin:=by
 cases a; cases b; simp
theorem qk {a b:DFunc}:a=b ↔ a.params=b.params/\a.regs=b.regs/\a.blocks=b.blocks:=by
 cases a; cases b; simp
theorem AS {a b:DMod}:a=b ↔ a.funcs=b.funcs:=by
 cases a; cases b; simp
theorem r14 {q q':Option Bool} {x y:TV} {l m:List Int} (hx:RInts q x l) (hy:RInts q' y m):aj prog 44 [x,y] (B (tt (l=m))):=by
 refine aj.of (f44_MR _ _) ?_
 unfold f44_M
 repeat' (first
  | refine aa.chk rfl ?_
  | refine aa.tv rfl ?_
  | refine aa.tv (RL.len (by assumption)) ?_
  | refine aa.nat rfl ?_
  | refine aa.ite rfl (fun _=>?_) (fun _=>?_)
  | refine aa.call (by assumption) ?_
  | refine aa.tvs (by assumption) ?_)
 ·rename_i h
  have h:¬ l=m:=by rintro rfl; simp at h
  exact aJ h
 ·rename_i h
  have hlen:l.length=m.length:=by simp at h; omega
  refine f44_0_J ?_
  rw [b7 (eo hlen)]
  refine dM (g:=fun k=>f44_0 x y (I k)) ?_ ?_
  ·unfold f44_0
   refine aa.tv hx.len (aa.tv rfl (aa.ite ap nofun fun _=>aa.ret))
  ·intro k hk r h1 h2
   have hk':k < m.length:=by omega
   have ha:l[k]? = some l[k]:=Eu hk
   have hb:m[k]? = some m[k]:=Eu hk'
   obtain ⟨e,he,rfl,_⟩:=hx.idx (k:=.i64) ha
   obtain ⟨e',he',rfl,_⟩:=hy.idx (k:=.i64) hb
   unfold f44_0
   refine aa.tv hx.len (aa.tv rfl (aa.ite (aq hk) (fun _=>?_) nofun))
   refine aa.tvs he (aa.chk rfl (aa.tvs he' (aa.chk rfl (aa.tv rfl (aa.ite rfl (fun h=>?_) fun h=>?_)))))
   ·rw [h1 (by rw [ha,hb]; simpa using h)]; exact aa.ret
   ·refine aa.tv (inc hk hx.bnd) (f44_0_J (h2 ?_))
    rw [ha,hb]; simpa using h
theorem r46 {q q':Option Bool} {e e':List TV} {a b:DIns} (ha:RIns q e a) (hb:RIns q' e' b):aj prog 25 [.agg e,.agg e'] (B (tt (a=b))):=by
 obtain ⟨g,rfl,hg,_⟩:=ha
 obtain ⟨g',rfl,hg',_⟩:=hb
 have h14:=r14 hg hg'
 refine aj.of (f25_MR _ _) ?_
 unfold f25_M
 repeat' (first
  | refine aa.chk rfl ?_
  | refine aa.tv rfl ?_
  | refine aa.tv (RL.len (by assumption)) ?_
  | refine aa.nat rfl ?_
  | refine aa.ite rfl (fun _=>?_) (fun _=>?_)
  | refine aa.call (by assumption) ?_
  | refine aa.tvs (by assumption) ?_)
 ·apply aS; rw [AW]; simp_all [tt]
 all_goals (apply aJ; rw [AW]; simp_all [tt])
theorem r45 {q q':Option Bool} {e e':List TV} {a b:DEnd} (ha:REnd q e a) (hb:REnd q' e' b):aj prog 24 [.agg e,.agg e'] (B (tt (a=b))):=by
 obtain ⟨g,rfl,hg,_⟩:=ha
 obtain ⟨g',rfl,hg',_⟩:=hb
 have h14:=r14 hg hg'
 refine aj.of (f24_MR _ _) ?_
 unfold f24_M
 repeat' (first
  | refine aa.chk rfl ?_
  | refine aa.tv rfl ?_
  | refine aa.tv (RL.len (by assumption)) ?_
  | refine aa.nat rfl ?_
  | refine aa.ite rfl (fun _=>?_) (fun _=>?_)
  | refine aa.call (by assumption) ?_
  | refine aa.tvs (by assumption) ?_)
 ·apply aS; rw [Cp]; simp_all [tt]
 all_goals (apply aJ; rw [Cp]; simp_all [tt])
theorem r44 {q q':Option Bool} {e e':List TV} {a b:DPad} (ha:RPad q e a) (hb:RPad q' e' b):aj prog 23 [.agg e,.agg e'] (B (tt (a=b))):=by
 obtain ⟨x,rfl,hx,_⟩:=ha
 obtain ⟨y,rfl,hy,_⟩:=hb
 refine aj.of (f23_MR _ _) ?_
 unfold f23_M
 repeat' (first
  | refine aa.chk rfl ?_
  | refine aa.tv rfl ?_
  | refine aa.tv (RL.len (by assumption)) ?_
  | refine aa.nat rfl ?_
  | refine aa.ite rfl (fun _=>?_) (fun _=>?_)
  | refine aa.call (by assumption) ?_
  | refine aa.tvs (by assumption) ?_)
 ·apply aJ; rw [rZ]; simp_all
 ·apply aJ; rw [rZ]; simp_all
 ·apply aJ; rw [rZ]; simp_all
 ·rename_i h
  apply aJ; rw [rZ]
  intro h'
  rw [h'.2.1] at h
  simp at h
 ·rename_i h1 h2 h3 h
  have hlen:a.catches.length=b.catches.length:=by simp at h; omega
  refine f23_0_J ?_
  have hp:a=b ↔ ∀ i,i < a.catches.length->a.catches[i]? = b.catches[i]? := by
   rw [rZ,eo hlen]
   simp at h1 h2 h3
   exact ⟨fun h=>h.2.1,fun h=>⟨h1,h,h2,h3⟩⟩
  rw [b7 hp]
  refine dM (g:=fun k=>f23_0 (I k) (I a.dst) x (B a.all) (B a.cleanup) (I b.dst) y (B b.all) (B b.cleanup)) ?_ ?_
  ·unfold f23_0
   refine aa.tv hx.len (aa.tv rfl (aa.ite ap nofun fun _=>aa.ret))
  ·intro k hk r h1 h2
   have hk':k < b.catches.length:=by omega
   have ha:a.catches[k]? = some a.catches[k]:=Eu hk
   have hb:b.catches[k]? = some b.catches[k]:=Eu hk'
   obtain ⟨e,he,rfl,_⟩:=hx.idx (k:=.i64) ha
   obtain ⟨e',he',rfl,_⟩:=hy.idx (k:=.i64) hb
   unfold f23_0
   refine aa.tv hx.len (aa.tv rfl (aa.ite (aq hk) (fun _=>?_) nofun))
   refine aa.tvs he (aa.chk rfl (aa.tvs he' (aa.chk rfl (aa.tv rfl (aa.ite rfl (fun h=>?_) fun h=>?_)))))
   ·rw [h1 (by rw [ha,hb]; simpa using h)]; exact aa.ret
   ·refine aa.tv (inc hk hx.bnd) (f23_0_J (h2 ?_))
    rw [ha,hb]; simpa using h
theorem r31 {q q' : Option Bool} {e e' : List TV} {a b : DFunc} (ha : RFunc q e a) (hb : RFunc q' e' b) : aj prog 10 [.agg e, .agg e'] (B (tt (a = b))) := by
 obtain ⟨x,rfl,hx,_⟩:=ha
 obtain ⟨y,rfl,hy,_⟩:=hb
 refine aj.of (f10_MR _ _) ?_
 unfold f10_M
 repeat' (first
  | refine aa.chk rfl ?_
  | refine aa.tv rfl ?_
  | refine aa.tv (RL.len (by assumption)) ?_
  | refine aa.nat rfl ?_
  | refine aa.ite rfl (fun _=>?_) (fun _=>?_)
  | refine aa.call (by assumption) ?_
  | refine aa.tvs (by assumption) ?_)
 ·apply aJ; rw [qk]; simp_all
 ·apply aJ; rw [qk]; simp_all
 ·rename_i h
  apply aJ; rw [qk]
  intro h'
  rw [h'.2.2] at h
  simp at h
 ·rename_i h1 h2 h
  have hlen:a.blocks.length=b.blocks.length:=by simp at h; omega
  refine f10_0_J ?_
  have hp:a=b ↔ ∀ i,i < a.blocks.length->a.blocks[i]? = b.blocks[i]? := by
   rw [qk,eo hlen]
   simp at h1 h2
   exact ⟨fun h=>h.2.2,fun h=>⟨h1,h2,h⟩⟩
  rw [b7 hp]
  refine dM (g:=fun k=>f10_0 (I k) (I a.params) (I a.regs) x (I b.params) (I b.regs) y) ?_ ?_
  ·unfold f10_0
   refine aa.tv hx.len (aa.tv rfl (aa.ite ap nofun fun _=>aa.ret))
  ·intro k hk r h1 h2
   have hk':k < b.blocks.length:=by omega
   have hak:a.blocks[k]? = some a.blocks[k]:=Eu hk
   have hbk:b.blocks[k]? = some b.blocks[k]:=Eu hk'
   obtain ⟨e,he,hea⟩:=hx.idx (k:=.i64) hak
   obtain ⟨e',he',heb⟩:=hy.idx (k:=.i64) hbk
   rw [hak,hbk,Option.some_inj,CI] at h1 h2
   generalize a.blocks[k]=u at *
   generalize b.blocks[k]=v at *
   obtain ⟨c,i,g,rfl,hc,hd,hi,hg,ho⟩:=hea
   obtain ⟨c',i',g',rfl,hc',hd',hi',hg',ho'⟩:=heb
   have h44:=r44 (q:=q) (q':=q') (a:=u.pad) (b:=v.pad) ⟨c,rfl,hc,hd⟩ ⟨c',rfl,hc',hd'⟩
   have h45:=r45 (q:=q) (q':=q') (a:=u.fin) (b:=v.fin) ⟨g,rfl,hg,ho⟩ ⟨g',rfl,hg',ho'⟩
   unfold f10_0
   refine aa.tv hx.len (aa.tv rfl (aa.ite (aq hk) (fun _=>?_) nofun))
   refine aa.tvs he (aa.chk rfl (aa.tvs he' (aa.chk rfl (aa.tv rfl (aa.ite rfl (fun h=>?_) fun h3=>?_)))))
   ·rw [h1 (by simp at h; simp [h])]; exact aa.ret
   ·refine aa.call h44 (aa.chk rfl (aa.tv rfl (aa.ite rfl (fun h=>?_) fun h4=>?_)))
    ·rw [h1 (by simp [tt] at h; simp [h])]; exact aa.ret
    ·refine aa.call h45 (aa.chk rfl (aa.tv rfl (aa.ite rfl (fun h=>?_) fun h5=>?_)))
     ·rw [h1 (by simp [tt] at h; simp [h])]; exact aa.ret
     ·refine aa.tv hi.len (aa.tv hi'.len (aa.tv rfl (aa.ite rfl (fun h=>?_) fun h6=>?_)))
      ·rw [h1 (by intro h'; rw [h'.2.2.1] at h; simp at h)]; exact aa.ret
      ·refine f10_1_J ?_
       have hil:u.ins.length=v.ins.length:=by simp at h6; omega
       simp [tt] at h3 h4 h5
       refine nu (n:=u.ins.length) (P:=fun j=>u.ins[j]? = v.ins[j]?) (g:=fun j=>f10_1 (I k) (I j) (I a.params) (I a.regs) x (I b.params) (I b.regs) y (B u.landing) (I u.pad.dst) c (B u.pad.all) (B u.pad.cleanup) i (I u.fin.kind) (I u.fin.a) (I u.fin.dst) (I u.fin.f) g (I u.fin.to) (I u.fin.els) (I u.fin.pad) (B v.landing) (I v.pad.dst) c' (B v.pad.all) (B v.pad.cleanup) i' (I v.fin.kind) (I v.fin.a) (I v.fin.dst) (I v.fin.f) g' (I v.fin.to) (I v.fin.els) (I v.fin.pad)) ?_ ?_ ?_
       ·intro hn; exact h1 fun h'=>hn ((eo hil).1 h'.2.2.1)
       ·intro hn
        unfold f10_1
        refine aa.tv hi.len (aa.tv rfl (aa.ite ap nofun fun _=>?_))
        refine aa.tv (inc hk hx.bnd) (f10_0_J (h2 ?_))
        exact ⟨h3,h4,(eo hil).2 hn,h5⟩
       ·intro j hj r g1 g2
        have hj':j < v.ins.length:=by omega
        have hau:u.ins[j]? = some u.ins[j]:=Eu hj
        have hbu:v.ins[j]? = some v.ins[j]:=Eu hj'
        obtain ⟨e,he,hea⟩:=hi.idx (k:=.i64) hau
        obtain ⟨e',he',heb⟩:=hi'.idx (k:=.i64) hbu
        have h46:=r46 hea heb
        obtain ⟨_,rfl,_⟩:=hea
        obtain ⟨_,rfl,_⟩:=heb
        unfold f10_1
        refine aa.tv hi.len (aa.tv rfl (aa.ite (aq hj) (fun _=>?_) nofun))
        refine aa.tvs he (aa.chk rfl (aa.tvs he' (aa.chk rfl (aa.call h46 (aa.chk rfl (aa.tv rfl (aa.ite rfl (fun h=>?_) fun h=>?_)))))))
        ·rw [g1 (by rw [hau,hbu]; simpa [tt] using h)]; exact aa.ret
        ·refine aa.tv (inc hj hi.bnd) (f10_1_J (g2 ?_))
         rw [hau,hbu]; simpa [tt] using h
theorem r18 {q q':Option Bool} {e e':List TV} {a b:DMod} (ha:RMod q e a) (hb:RMod q' e' b):aj prog 9 [.agg e,.agg e'] (B (tt (a=b))):=by
 obtain ⟨x,rfl,hx⟩:=ha
 obtain ⟨y,rfl,hy⟩:=hb
 refine aj.of (f9_MR _ _) ?_
 unfold f9_M
 repeat' (first
  | refine aa.chk rfl ?_
  | refine aa.tv rfl ?_
  | refine aa.tv (RL.len (by assumption)) ?_
  | refine aa.nat rfl ?_
  | refine aa.ite rfl (fun _=>?_) (fun _=>?_)
  | refine aa.call (by assumption) ?_
  | refine aa.tvs (by assumption) ?_)
 ·rename_i h
  apply aJ; rw [AS]
  intro h'
  rw [h'] at h
  simp at h
 ·rename_i h
  have hlen:a.funcs.length=b.funcs.length:=by simp at h; omega
  refine f9_0_J ?_
  rw [b7 (AS.trans (eo hlen))]
  refine dM (g:=fun k=>f9_0 (I k) x y) ?_ ?_
  ·unfold f9_0
   refine aa.tv hx.len (aa.tv rfl (aa.ite ap nofun fun _=>aa.ret))
  ·intro k hk r h1 h2
   have hk':k < b.funcs.length:=by omega
   have hak:a.funcs[k]? = some a.funcs[k]:=Eu hk
   have hbk:b.funcs[k]? = some b.funcs[k]:=Eu hk'
   obtain ⟨e,he,hea⟩:=hx.idx (k:=.i64) hak
   obtain ⟨e',he',heb⟩:=hy.idx (k:=.i64) hbk
   have hc:=r31 hea heb
   obtain ⟨_,rfl,_⟩:=hea
   obtain ⟨_,rfl,_⟩:=heb
   unfold f9_0
   refine aa.tv hx.len (aa.tv rfl (aa.ite (aq hk) (fun _=>?_) nofun))
   refine aa.tvs he (aa.chk rfl (aa.tvs he' (aa.chk rfl (aa.call hc (aa.chk rfl (aa.tv rfl (aa.ite rfl (fun h=>?_) fun h=>?_)))))))
   ·rw [h1 (by rw [hak,hbk]; simpa [tt] using h)]; exact aa.ret
   ·refine aa.tv (inc hk hx.bnd) (f9_0_J (h2 ?_))
    rw [hak,hbk]; simpa [tt] using h
end Go.Ab.D13
end

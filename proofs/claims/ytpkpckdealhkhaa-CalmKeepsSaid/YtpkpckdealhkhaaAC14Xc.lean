import Derived.Test.YtpkpckdealhkhaaAC14T
set_option linter.all false
set_option maxRecDepth 100000
namespace Go.Ab.C14
open Go Go.Ab Go.Proofs
open Go.Ab.TV (hole cell comp isSl isSc isTup cellsL tup agg)
open Go.Ab.Prg (tv tvs rws nat chk call jmp ret)
def f47_0_S  (x0 x1 x2 x3 x4 y5 y6 y7 y8 y9 y10 y11 y12 y13 y14 y15:TV):ASt:=⟨[Jk,Jk,Jk,Pt 0,Pt 1,Pt 2,Jk,AV.tv x0,AV.tv x1,AV.tv x2]++Rj 16 ++ [AV.tv x3]++Rj 24 ++ [AV.tv x4]++Rj 134,[Ct y5,some (BC.cells [CA.t y6,CA.t y7,CA.t y8]),some (BC.cells [CA.t y9,CA.t y10,CA.t y11,CA.t y12,CA.t y13,CA.t y14,CA.t y15])]++Rz 207,[]⟩
def f47_1_S  (x0 x1 x2 x3 x4 y5 y6 y7 y8 y9 y10 y11 y12 y13 y14 y15:TV):ASt:=⟨[Jk,Jk,Jk,Pt 0,Pt 1,Pt 2,Jk,AV.tv x0,AV.tv x1,AV.tv x2]++Rj 16 ++ [AV.tv x3]++Rj 45 ++ [AV.tv x4]++Rj 113,[Ct y5,some (BC.cells [CA.t y6,CA.t y7,CA.t y8]),some (BC.cells [CA.t y9,CA.t y10,CA.t y11,CA.t y12,CA.t y13,CA.t y14,CA.t y15])]++Rz 207,[]⟩
def f47_M (x0 x1 x2:TV):Prg TV :=
 chk (TV.isAgg x0 1) (
 chk (TV.isAgg x1 3) (
 chk (TV.isAgg x2 7) (
 call 56 [cell x2 1,cell x1 1] fun v0 =>
 chk (ab am [v0] 0) (
 call 56 [cell x2 2,cell x1 1] fun v1 =>
 chk (ab am [v1] 0) (
 call 56 [cell x2 3,cell x1 1] fun v2 =>
 chk (ab am [v2] 0) (
 tv (pbin (.int .i64) .eql (cell x2 0) (I 1)) fun v3 =>
 Prg.ite (asBool v3) (
 Prg.ite (asBool v0) (
 tv (pbin (.int .i64) .eql (cell x2 2) (I 0)) fun v4 =>
 Prg.ite (asBool v4) (
 tv (pbin (.int .i64) .eql (cell x2 3) (I 0)) fun v5 =>
 Prg.ite (asBool v5) (
 tv (pbin (.int .i64) .eql (cell x2 5) (I 0)) fun v6 =>
 Prg.ite (asBool v6) (
 tv (plen (.slice 3) (cell x2 6)) fun v7 =>
 tv (pbin (.int .i64) .eql v7 (I 0)) fun v8 =>
 ret v8) (
 ret (B false))) (
 ret (B false))) (
 ret (B false))) (
 ret (B false))) (
 tv (pbin (.int .i64) .eql (cell x2 0) (I 2)) fun v9 =>
 Prg.ite (asBool v9) (
 jmp [1,1,1,0,1,0,1,1] (f47_0_S v0 v1 v2 (cell x2 0) v9 (cell x0 0) (cell x1 0) (cell x1 1) (cell x1 2) (cell x2 0) (cell x2 1) (cell x2 2) (cell x2 3) (cell x2 4) (cell x2 5) (cell x2 6))) (
 tv (pbin (.int .i64) .eql (cell x2 0) (I 9)) fun v10 =>
 jmp [1,1,1,0,1,0,1,1] (f47_0_S v0 v1 v2 (cell x2 0) v10 (cell x0 0) (cell x1 0) (cell x1 1) (cell x1 2) (cell x2 0) (cell x2 1) (cell x2 2) (cell x2 3) (cell x2 4) (cell x2 5) (cell x2 6))))))))))
def f47_0  (x0 x1 x2 x3 x4 y5 y6 y7 y8 y9 y10 y11 y12 y13 y14 y15:TV):Prg TV :=
 Prg.ite (asBool x4) (
 Prg.ite (asBool x0) (
 Prg.ite (asBool x1) (
 tv (pbin (.int .i64) .eql y12 (I 0)) fun v11 =>
 Prg.ite (asBool v11) (
 call 59 [y13,y14,y15] fun v12 =>
 chk (ab am [v12] 0) (
 ret v12)) (
 ret (B false))) (
 ret (B false))) (
 ret (B false))) (
 tv (pbin (.int .i64) .eql x3 (I 3)) fun v13 =>
 Prg.ite (asBool v13) (
 jmp [1,1,1,1,1,0,1,0,1,1] (f47_1_S x0 x1 x2 x3 v13 y5 y6 y7 y8 y9 y10 y11 y12 y13 y14 y15)) (
 tv (pbin (.int .i64) .eql x3 (I 4)) fun v14 =>
 Prg.ite (asBool v14) (
 jmp [1,1,1,1,1,0,1,0,1,1] (f47_1_S x0 x1 x2 x3 v14 y5 y6 y7 y8 y9 y10 y11 y12 y13 y14 y15)) (
 tv (pbin (.int .i64) .eql x3 (I 5)) fun v15 =>
 Prg.ite (asBool v15) (
 jmp [1,1,1,1,1,0,1,0,1,1] (f47_1_S x0 x1 x2 x3 v15 y5 y6 y7 y8 y9 y10 y11 y12 y13 y14 y15)) (
 tv (pbin (.int .i64) .eql x3 (I 6)) fun v16 =>
 Prg.ite (asBool v16) (
 jmp [1,1,1,1,1,0,1,0,1,1] (f47_1_S x0 x1 x2 x3 v16 y5 y6 y7 y8 y9 y10 y11 y12 y13 y14 y15)) (
 tv (pbin (.int .i64) .eql x3 (I 7)) fun v17 =>
 Prg.ite (asBool v17) (
 jmp [1,1,1,1,1,0,1,0,1,1] (f47_1_S x0 x1 x2 x3 v17 y5 y6 y7 y8 y9 y10 y11 y12 y13 y14 y15)) (
 tv (pbin (.int .i64) .eql x3 (I 8)) fun v18 =>
 jmp [1,1,1,1,1,0,1,0,1,1] (f47_1_S x0 x1 x2 x3 v18 y5 y6 y7 y8 y9 y10 y11 y12 y13 y14 y15)))))))
def f47_1  (x0 x1 x2 x3 x4 y5 y6 y7 y8 y9 y10 y11 y12 y13 y14 y15:TV):Prg TV :=
 Prg.ite (asBool x4) (
 Prg.ite (asBool x0) (
 Prg.ite (asBool x1) (
 Prg.ite (asBool x2) (
 call 59 [y13,y14,y15] fun v19 =>
 chk (ab am [v19] 0) (
 ret v19)) (
 ret (B false))) (
 ret (B false))) (
 ret (B false))) (
 tv (pbin (.int .i64) .eql x3 (I 10)) fun v20 =>
 Prg.ite (asBool v20) (
 tv (pbin (.int .i64) .eql y10 (I 0)) fun v21 =>
 Prg.ite (asBool v21) (
 Prg.ite (asBool x1) (
 Prg.ite (asBool x2) (
 call 59 [y13,y14,y15] fun v22 =>
 chk (ab am [v22] 0) (
 ret v22)) (
 ret (B false))) (
 ret (B false))) (
 ret (B false))) (
 tv (pbin (.int .i64) .eql x3 (I 11)) fun v23 =>
 Prg.ite (asBool v23) (
 Prg.ite (asBool x0) (
 tv (pbin (.int .i64) .eql y11 (I 0)) fun v24 =>
 Prg.ite (asBool v24) (
 tv (pbin (.int .i64) .eql y12 (I 0)) fun v25 =>
 Prg.ite (asBool v25) (
 tv (pbin (.int .u16) .eql y13 (W 0)) fun v26 =>
 Prg.ite (asBool v26) (
 call 58 [agg [y5],agg [y6,y7,y8],y14,y15] fun v27 =>
 chk (ab am [v27] 0) (
 ret v27)) (
 ret (B false))) (
 ret (B false))) (
 ret (B false))) (
 ret (B false))) (
 tv (pbin (.int .i64) .eql x3 (I 12)) fun v28 =>
 Prg.ite (asBool v28) (
 tv (pbin (.int .i64) .eql y10 (I 0)) fun v29 =>
 Prg.ite (asBool v29) (
 Prg.ite (asBool x1) (
 tv (pbin (.int .i64) .eql y12 (I 0)) fun v30 =>
 Prg.ite (asBool v30) (
 call 59 [y13,y14,y15] fun v31 =>
 chk (ab am [v31] 0) (
 ret v31)) (
 ret (B false))) (
 ret (B false))) (
 ret (B false))) (
 tv (pbin (.int .i64) .eql x3 (I 13)) fun v32 =>
 Prg.ite (asBool v32) (
 Prg.ite (asBool x0) (
 tv (pbin (.int .i64) .eql y11 (I 0)) fun v33 =>
 Prg.ite (asBool v33) (
 tv (pbin (.int .i64) .eql y12 (I 0)) fun v34 =>
 Prg.ite (asBool v34) (
 call 59 [y13,y14,y15] fun v35 =>
 chk (ab am [v35] 0) (
 ret v35)) (
 ret (B false))) (
 ret (B false))) (
 ret (B false))) (
 ret (B false))))))
theorem f47_MR (x0 x1 x2:TV):ap prog 47 [x0,x1,x2]=f47_M x0 x1 x2:=by kernel_rfl
theorem f47_0_J  {x0 x1 x2 x3 x4 y5 y6 y7 y8 y9 y10 y11 y12 y13 y14 y15:TV} {r:TV} (h:aa prog 47 (f47_0 x0 x1 x2 x3 x4 y5 y6 y7 y8 y9 y10 y11 y12 y13 y14 y15) r):aa prog 47 (.jmp [1,1,1,0,1,0,1,1] (f47_0_S x0 x1 x2 x3 x4 y5 y6 y7 y8 y9 y10 y11 y12 y13 y14 y15)) r:=aa.jmp (by kernel_rfl) h
theorem f47_1_J  {x0 x1 x2 x3 x4 y5 y6 y7 y8 y9 y10 y11 y12 y13 y14 y15:TV} {r:TV} (h:aa prog 47 (f47_1 x0 x1 x2 x3 x4 y5 y6 y7 y8 y9 y10 y11 y12 y13 y14 y15) r):aa prog 47 (.jmp [1,1,1,1,1,0,1,0,1,1] (f47_1_S x0 x1 x2 x3 x4 y5 y6 y7 y8 y9 y10 y11 y12 y13 y14 y15)) r:=aa.jmp (by kernel_rfl) h
def f49_0_S  (x0 x1 x2 y3 y4 y5 y6 y7 y8 y9 y10 y11 y12 y13 y14 y15 y16 y17 y18 y19 y20:TV):ASt:=⟨[Jk,Jk,Pt 0,Pt 1]++Rj 17 ++ [AV.tv x0,AV.tv x1,AV.tv x2]++Rj 12,[some (BC.cells [CA.t y3,CA.t y4,CA.t y5,CA.t y6]),some (BC.cells [CA.t y7,CA.t y8,CA.t y9,CA.t y10,CA.t y11,CA.t y12,CA.t y13,CA.t y14,CA.t y15,CA.t y16,CA.t y17,CA.t y18,CA.t y19,CA.t y20])]++Rz 58,[]⟩
def f49_1_S  (y0 y1 y2 y3 y4 y5 y6 y7 y8 y9 y10 y11 y12 y13 y14 y15 y16 y17:TV):ASt:=⟨[Jk,Jk,Pt 0,Pt 1]++Rj 32,[some (BC.cells [CA.t y0,CA.t y1,CA.t y2,CA.t y3]),some (BC.cells [CA.t y4,CA.t y5,CA.t y6,CA.t y7,CA.t y8,CA.t y9,CA.t y10,CA.t y11,CA.t y12,CA.t y13,CA.t y14,CA.t y15,CA.t y16,CA.t y17])]++Rz 58,[]⟩
def f49_M (x0 x1:TV):Prg TV :=
 chk (TV.isAgg x0 4) (
 chk (TV.isAgg x1 14) (
 tv (plen (.slice 55) (cell x1 5)) fun v0 =>
 tv (pbin (.int .i64) .gtr v0 (I 64)) fun v1 =>
 Prg.ite (asBool v1) (
 ret (B false)) (
 call 60 [agg [cell x0 0,cell x0 1,cell x0 2,cell x0 3],cell x1 0,agg [cell x1 1,cell x1 2,cell x1 3,cell x1 4]] fun v2 =>
 chk (ab am [v2] 0) (
 tv (pun .not v2) fun v3 =>
 Prg.ite (asBool v3) (
 ret (B false)) (
 tv (plen (.slice 55) (cell x1 5)) fun v4 =>
 jmp [0,0,1,0,1,1] (f49_0_S (cell x1 5) v4 (I 0) (cell x0 0) (cell x0 1) (cell x0 2) (cell x0 3) (cell x1 0) (cell x1 1) (cell x1 2) (cell x1 3) (cell x1 4) (cell x1 5) (cell x1 6) (cell x1 7) (cell x1 8) (cell x1 9) (cell x1 10) (cell x1 11) (cell x1 12) (cell x1 13)))))))
def f49_0  (x0 x1 x2 y3 y4 y5 y6 y7 y8 y9 y10 y11 y12 y13 y14 y15 y16 y17 y18 y19 y20:TV):Prg TV :=
 tv (pbin (.int .i64) .lss x2 x1) fun v5 =>
 Prg.ite (asBool v5) (
 tvs (pidx 7 x0 x2) fun e6 =>
 chk (Nat.ble 7 (List.length e6)) (
 call 61 [agg [y3,y4,y5,y6],agg [nth hole e6 0,nth hole e6 1,nth hole e6 2,nth hole e6 3,nth hole e6 4,nth hole e6 5,nth hole e6 6]] fun v7 =>
 chk (ab am [v7] 0) (
 tv (pun .not v7) fun v8 =>
 Prg.ite (asBool v8) (
 ret (B false)) (
 tv (pbin (.int .i64) .add x2 (I 1)) fun v9 =>
 jmp [0,0,1,0,1,1] (f49_0_S x0 x1 v9 y3 y4 y5 y6 y7 y8 y9 y10 y11 y12 y13 y14 y15 y16 y17 y18 y19 y20))))) (
 jmp [1,1,1] (f49_1_S y3 y4 y5 y6 y7 y8 y9 y10 y11 y12 y13 y14 y15 y16 y17 y18 y19 y20))
def f49_1  (y0 y1 y2 y3 y4 y5 y6 y7 y8 y9 y10 y11 y12 y13 y14 y15 y16 y17:TV):Prg TV :=
 call 62 [agg [y0,y1,y2,y3],agg [y10,y11,y12,y13,y14,y15,y16,y17]] fun v10 =>
 chk (ab am [v10] 0) (
 ret v10)
theorem f49_MR (x0 x1:TV):ap prog 49 [x0,x1]=f49_M x0 x1:=by kernel_rfl
theorem f49_0_J  {x0 x1 x2 y3 y4 y5 y6 y7 y8 y9 y10 y11 y12 y13 y14 y15 y16 y17 y18 y19 y20:TV} {r:TV} (h:aa prog 49 (f49_0 x0 x1 x2 y3 y4 y5 y6 y7 y8 y9 y10 y11 y12 y13 y14 y15 y16 y17 y18 y19 y20) r):aa prog 49 (.jmp [0,0,1,0,1,1] (f49_0_S x0 x1 x2 y3 y4 y5 y6 y7 y8 y9 y10 y11 y12 y13 y14 y15 y16 y17 y18 y19 y20)) r:=aa.jmp (by kernel_rfl) h
theorem f49_1_J  {y0 y1 y2 y3 y4 y5 y6 y7 y8 y9 y10 y11 y12 y13 y14 y15 y16 y17:TV} {r:TV} (h:aa prog 49 (f49_1 y0 y1 y2 y3 y4 y5 y6 y7 y8 y9 y10 y11 y12 y13 y14 y15 y16 y17) r):aa prog 49 (.jmp [1,1,1] (f49_1_S y0 y1 y2 y3 y4 y5 y6 y7 y8 y9 y10 y11 y12 y13 y14 y15 y16 y17)) r:=aa.jmp (by kernel_rfl) h
def f54_M (x0 x1:TV):Prg TV :=
 chk (TV.isAgg x0 1) (
 call 65 [agg [cell x0 0],I 0,TV.lit bc] fun v0 =>
 chk (isTup v0 2) (
 chk (Bool.and (TV.isAgg (comp v0 0) 5) (ab z96 (cellsL true (comp v0 0)) 0)) (
 chk (ab wq [comp v0 1] 0) (
 chk (TV.eS x1) (
 ret (agg [TV.sl true 5 (chunks 5 1 [cell (comp v0 0) 0,cell (comp v0 0) 1,cell (comp v0 0) 2,cell (comp v0 0) 3,cell (comp v0 0) 4]),W 0,W 0,W 0,W 0,W 0,W 0,W 0,W 0,W 0,W 0,W 0,W 0,W 0,W 0,W 0,W 0,x1,TV.lit bc,I 0,W 0]))))))
theorem f54_MR (x0 x1:TV):ap prog 54 [x0,x1]=f54_M x0 x1:=by kernel_rfl
def f55_0_S  (y0 y1 y2 y3 y4 y5 y6 y7 y8 y9 y10 y11 y12 y13 y14 y15 y16 y17 y18 y19 y20 y21 y22 y23 y24 y25:TV):ASt:=⟨[Jk,Jk,Jk,Pt 0,Pt 1,Pt 2]++Rj 97,[some (BC.cells [CA.t y0,CA.t y1,CA.t y2,CA.t y3,CA.t y4,CA.t y5,CA.t y6,CA.t y7,CA.t y8,CA.t y9,CA.t y10,CA.t y11,CA.t y12,CA.t y13,CA.t y14,CA.t y15,CA.t y16,CA.t y17,CA.t y18,CA.t y19,CA.t y20]),some (BC.cells [CA.junk,CA.junk,CA.junk,CA.junk,CA.junk,CA.junk,CA.junk,CA.junk,CA.junk,CA.junk,CA.junk,CA.junk,CA.junk,CA.junk,CA.junk,CA.junk,CA.junk,CA.junk,CA.junk,CA.junk,CA.junk]),some (BC.cells [CA.t y21,CA.t y22,CA.t y23,CA.t y24,CA.t y25])]++Rz 124,[]⟩
def f55_M (x0 x1:TV):Prg TV :=
 chk (TV.isAgg x0 1) (
 chk (TV.isAgg x1 21) (
 tv (pbin (.int .i64) .neq (cell x1 19) (I 0)) fun v0 =>
 Prg.ite (asBool v0) (
 ret (agg [cell x1 0,cell x1 1,cell x1 2,cell x1 3,cell x1 4,cell x1 5,cell x1 6,cell x1 7,cell x1 8,cell x1 9,cell x1 10,cell x1 11,cell x1 12,cell x1 13,cell x1 14,cell x1 15,cell x1 16,cell x1 17,cell x1 18,cell x1 19,cell x1 20])) (
 tv (plen (.slice 97) (cell x1 0)) fun v1 =>
 tv (pbin (.int .i64) .sub v1 (I 1)) fun v2 =>
 tvs (pidx 5 (cell x1 0) v2) fun e3 =>
 chk (Nat.ble 5 (List.length e3)) (
 call 66 [agg [cell x0 0],agg [nth hole e3 0,nth hole e3 1,nth hole e3 2,nth hole e3 3,nth hole e3 4]] fun v4 =>
 chk (isTup v4 2) (
 chk (Bool.and (TV.isAgg (comp v4 0) 14) (ab dK (cellsL true (comp v4 0)) 0)) (
 chk (ab am [comp v4 1] 0) (
 tv (pun .not (comp v4 1)) fun v5 =>
 Prg.ite (asBool v5) (
 nat (slLen (cell (comp v4 0) 5)) fun n6 =>
 nat (aJ (nth hole e3 2)) fun n7 =>
 chk (Bool.and (slSize (cell (comp v4 0) 5) 7) (Nat.blt n7 n6)) (
 tvs (pel (cell (comp v4 0) 5) n7) fun e8 =>
 chk (ab zIns e8 0) (
 tv (a8 [(n7,6)] (cell (comp v4 0) 5)) fun v9 =>
 chk (TV.jb v9) (
 call 67 [agg [cell x0 0],agg [cell x1 0,cell x1 1,cell x1 2,cell x1 3,cell x1 4,cell x1 5,cell x1 6,cell x1 7,cell x1 8,cell x1 9,cell x1 10,cell x1 11,cell x1 12,cell x1 13,cell x1 14,cell x1 15,cell x1 16,cell x1 17,cell x1 18,cell x1 19,cell x1 20],agg [nth hole e3 0,nth hole e3 1,nth hole e3 2,nth hole e3 3,nth hole e3 4],agg [nth hole e8 0,nth hole e8 1,nth hole e8 2,nth hole e8 3,nth hole e8 4,nth hole e8 5,v9]] fun v10 =>
 chk (Bool.and (TV.isAgg v10 21) (ab z68 (cellsL true v10) 0)) (
 ret (agg [cell v10 0,cell v10 1,cell v10 2,cell v10 3,cell v10 4,cell v10 5,cell v10 6,cell v10 7,cell v10 8,cell v10 9,cell v10 10,cell v10 11,cell v10 12,cell v10 13,cell v10 14,cell v10 15,cell v10 16,cell v10 17,cell v10 18,cell v10 19,cell v10 20])))))) (
 tv (pbin (.int .i64) .eql (cell (comp v4 0) 6) (I 1)) fun v11 =>
 Prg.ite (asBool v11) (
 tvs (pidx 1 (nth hole e3 3) (cell (comp v4 0) 7)) fun e12 =>
 chk (Nat.blt 0 (List.length e12)) (
 call 68 [agg [cell x0 0],agg [cell x1 0,cell x1 1,cell x1 2,cell x1 3,cell x1 4,cell x1 5,cell x1 6,cell x1 7,cell x1 8,cell x1 9,cell x1 10,cell x1 11,cell x1 12,cell x1 13,cell x1 14,cell x1 15,cell x1 16,cell x1 17,cell x1 18,cell x1 19,cell x1 20],nth hole e12 0] fun v13 =>
 chk (Bool.and (TV.isAgg v13 21) (ab z68 (cellsL true v13) 0)) (
 ret (agg [cell v13 0,cell v13 1,cell v13 2,cell v13 3,cell v13 4,cell v13 5,cell v13 6,cell v13 7,cell v13 8,cell v13 9,cell v13 10,cell v13 11,cell v13 12,cell v13 13,cell v13 14,cell v13 15,cell v13 16,cell v13 17,cell v13 18,cell v13 19,cell v13 20])))) (
 tv (pbin (.int .i64) .eql (cell (comp v4 0) 6) (I 4)) fun v14 =>
 Prg.ite (asBool v14) (
 call 69 [agg [cell x0 0],agg [cell x1 0,cell x1 1,cell x1 2,cell x1 3,cell x1 4,cell x1 5,cell x1 6,cell x1 7,cell x1 8,cell x1 9,cell x1 10,cell x1 11,cell x1 12,cell x1 13,cell x1 14,cell x1 15,cell x1 16,cell x1 17,cell x1 18,cell x1 19,cell x1 20],cell (comp v4 0) 9,frz (cell (comp v4 0) 10)] fun v15 =>
 chk (Bool.and (TV.isAgg v15 21) (ab z68 (cellsL true v15) 0)) (
 ret (agg [cell v15 0,cell v15 1,cell v15 2,cell v15 3,cell v15 4,cell v15 5,cell v15 6,cell v15 7,cell v15 8,cell v15 9,cell v15 10,cell v15 11,cell v15 12,cell v15 13,cell v15 14,cell v15 15,cell v15 16,cell v15 17,cell v15 18,cell v15 19,cell v15 20]))) (
 tv (pbin (.int .i64) .eql (cell (comp v4 0) 6) (I 5)) fun v16 =>
 Prg.ite (asBool v16) (
 tvs (pidx 1 (nth hole e3 3) (cell (comp v4 0) 7)) fun e17 =>
 chk (Nat.blt 0 (List.length e17)) (
 call 70 [agg [cell x0 0],agg [cell x1 0,cell x1 1,cell x1 2,cell x1 3,cell x1 4,cell x1 5,cell x1 6,cell x1 7,cell x1 8,cell x1 9,cell x1 10,cell x1 11,cell x1 12,cell x1 13,cell x1 14,cell x1 15,cell x1 16,cell x1 17,cell x1 18,cell x1 19,cell x1 20],nth hole e17 0] fun v18 =>
 chk (Bool.and (TV.isAgg v18 21) (ab z68 (cellsL true v18) 0)) (
 ret (agg [cell v18 0,cell v18 1,cell v18 2,cell v18 3,cell v18 4,cell v18 5,cell v18 6,cell v18 7,cell v18 8,cell v18 9,cell v18 10,cell v18 11,cell v18 12,cell v18 13,cell v18 14,cell v18 15,cell v18 16,cell v18 17,cell v18 18,cell v18 19,cell v18 20])))) (
 tv (pbin (.int .i64) .eql (cell (comp v4 0) 6) (I 6)) fun v19 =>
 Prg.ite (asBool v19) (
 call 70 [agg [cell x0 0],agg [cell x1 0,cell x1 1,cell x1 2,cell x1 3,cell x1 4,cell x1 5,cell x1 6,cell x1 7,cell x1 8,cell x1 9,cell x1 10,cell x1 11,cell x1 12,cell x1 13,cell x1 14,cell x1 15,cell x1 16,cell x1 17,cell x1 18,cell x1 19,cell x1 20],nth hole e3 4] fun v20 =>
 chk (Bool.and (TV.isAgg v20 21) (ab z68 (cellsL true v20) 0)) (
 ret (agg [cell v20 0,cell v20 1,cell v20 2,cell v20 3,cell v20 4,cell v20 5,cell v20 6,cell v20 7,cell v20 8,cell v20 9,cell v20 10,cell v20 11,cell v20 12,cell v20 13,cell v20 14,cell v20 15,cell v20 16,cell v20 17,cell v20 18,cell v20 19,cell v20 20]))) (
 tv (pbin (.int .i64) .eql (cell (comp v4 0) 6) (I 3)) fun v21 =>
 Prg.ite (asBool v21) (
 tvs (pidx 1 (nth hole e3 3) (cell (comp v4 0) 7)) fun e22 =>
 chk (Nat.blt 0 (List.length e22)) (
 tv (pbin (.int .u16) .eql (nth hole e22 0) (W 0)) fun v23 =>
 Prg.ite (asBool v23) (
 jmp [1,1,1,1,1,1,1,1,1,1] (f55_0_S (cell x1 0) (cell x1 1) (cell x1 2) (cell x1 3) (cell x1 4) (cell x1 5) (cell x1 6) (cell x1 7) (cell x1 8) (cell x1 9) (cell x1 10) (cell x1 11) (cell x1 12) (cell x1 13) (cell x1 14) (cell x1 15) (cell x1 16) (cell x1 17) (cell x1 18) (cell x1 19) (cell x1 20) (nth hole e3 0) (cell (comp v4 0) 12) (I 0) (nth hole e3 3) (nth hole e3 4))) (
 jmp [1,1,1,1,1,1,1,1,1,1] (f55_0_S (cell x1 0) (cell x1 1) (cell x1 2) (cell x1 3) (cell x1 4) (cell x1 5) (cell x1 6) (cell x1 7) (cell x1 8) (cell x1 9) (cell x1 10) (cell x1 11) (cell x1 12) (cell x1 13) (cell x1 14) (cell x1 15) (cell x1 16) (cell x1 17) (cell x1 18) (cell x1 19) (cell x1 20) (nth hole e3 0) (cell (comp v4 0) 11) (I 0) (nth hole e3 3) (nth hole e3 4))))) (
 jmp [1,1,1,1,1,1,1,1,1,1] (f55_0_S (cell x1 0) (cell x1 1) (cell x1 2) (cell x1 3) (cell x1 4) (cell x1 5) (cell x1 6) (cell x1 7) (cell x1 8) (cell x1 9) (cell x1 10) (cell x1 11) (cell x1 12) (cell x1 13) (cell x1 14) (cell x1 15) (cell x1 16) (cell x1 17) (cell x1 18) (cell x1 19) (cell x1 20) (nth hole e3 0) (cell (comp v4 0) 11) (I 0) (nth hole e3 3) (nth hole e3 4)))))))))))))))
def f55_0  (y0 y1 y2 y3 y4 y5 y6 y7 y8 y9 y10 y11 y12 y13 y14 y15 y16 y17 y18 y19 y20 y21 y22 y23 y24 y25:TV):Prg TV :=
 call 71 [agg [y0,y1,y2,y3,y4,y5,y6,y7,y8,y9,y10,y11,y12,y13,y14,y15,y16,y17,y18,y19,y20],agg [y21,y22,y23,y24,y25]] fun v24 =>
 chk (Bool.and (TV.isAgg v24 21) (ab z68 (cellsL true v24) 0)) (
 ret (agg [cell v24 0,cell v24 1,cell v24 2,cell v24 3,cell v24 4,cell v24 5,cell v24 6,cell v24 7,cell v24 8,cell v24 9,cell v24 10,cell v24 11,cell v24 12,cell v24 13,cell v24 14,cell v24 15,cell v24 16,cell v24 17,cell v24 18,cell v24 19,cell v24 20]))
theorem f55_MR (x0 x1:TV):ap prog 55 [x0,x1]=f55_M x0 x1:=by kernel_rfl
theorem f55_0_J  {y0 y1 y2 y3 y4 y5 y6 y7 y8 y9 y10 y11 y12 y13 y14 y15 y16 y17 y18 y19 y20 y21 y22 y23 y24 y25:TV} {r:TV} (h:aa prog 55 (f55_0 y0 y1 y2 y3 y4 y5 y6 y7 y8 y9 y10 y11 y12 y13 y14 y15 y16 y17 y18 y19 y20 y21 y22 y23 y24 y25) r):aa prog 55 (.jmp [1,1,1,1,1,1,1,1,1,1] (f55_0_S y0 y1 y2 y3 y4 y5 y6 y7 y8 y9 y10 y11 y12 y13 y14 y15 y16 y17 y18 y19 y20 y21 y22 y23 y24 y25)) r:=aa.jmp (by kernel_rfl) h
def f56_M (x0 x1:TV):Prg TV :=
 tv (pbin (.int .i64) .geq x0 (I 0)) fun v0 =>
 Prg.ite (asBool v0) (
 tv (pbin (.int .i64) .lss x0 x1) fun v1 =>
 ret v1) (
 ret (B false))
theorem f56_MR (x0 x1:TV):ap prog 56 [x0,x1]=f56_M x0 x1:=by kernel_rfl
def f57_M (x0 x1:TV):Prg TV :=
 chk (TV.isAgg x0 3) (
 tv (plen (.slice 48) (cell x0 2)) fun v0 =>
 call 56 [x1,v0] fun v1 =>
 chk (ab am [v1] 0) (
 Prg.ite (asBool v1) (
 tvs (pidx 14 (cell x0 2) x1) fun e2 =>
 chk (Nat.blt 0 (List.length e2)) (
 tv (pun .not (nth hole e2 0)) fun v3 =>
 ret v3)) (
 ret (B false))))
theorem f57_MR (x0 x1:TV):ap prog 57 [x0,x1]=f57_M x0 x1:=by kernel_rfl
def f58_0_S  (x0 x1 y2 y3 y4:TV):ASt:=⟨[Jk,Jk,Jk,AV.tv x0,Jk,Pt 0,Jk,Jk,Jk,AV.tv x1]++Rj 31,[some (BC.cells [CA.t y2,CA.t y3,CA.t y4])]++Rz 64,[]⟩
def f58_M (x0 x1 x2 x3:TV):Prg TV :=
 chk (TV.isAgg x0 1) (
 chk (TV.isAgg x1 3) (
 tv (plen (.slice 40) (cell x0 0)) fun v0 =>
 call 56 [x2,v0] fun v1 =>
 chk (ab am [v1] 0) (
 tv (pun .not v1) fun v2 =>
 Prg.ite (asBool v2) (
 ret (B false)) (
 tv (plen (.slice 3) x3) fun v3 =>
 tvs (pidx 3 (cell x0 0) x2) fun e4 =>
 chk (Nat.blt 0 (List.length e4)) (
 tv (pbin (.int .i64) .neq v3 (nth hole e4 0)) fun v5 =>
 Prg.ite (asBool v5) (
 ret (B false)) (
 jmp [0,0,1,0,1,1] (f58_0_S x3 (I 0) (cell x1 0) (cell x1 1) (cell x1 2))))))))
def f58_0  (x0 x1 y2 y3 y4:TV):Prg TV :=
 tv (plen (.slice 3) x0) fun v6 =>
 tv (pbin (.int .i64) .lss x1 v6) fun v7 =>
 Prg.ite (asBool v7) (
 tvs (pidx 1 x0 x1) fun e8 =>
 chk (Nat.blt 0 (List.length e8)) (
 call 56 [nth hole e8 0,y3] fun v9 =>
 chk (ab am [v9] 0) (
 tv (pun .not v9) fun v10 =>
 Prg.ite (asBool v10) (
 ret (B false)) (
 tv (pbin (.int .i64) .add x1 (I 1)) fun v11 =>
 jmp [0,0,1,0,1,1] (f58_0_S x0 v11 y2 y3 y4))))) (
 ret (B true))
theorem f58_MR (x0 x1 x2 x3:TV):ap prog 58 [x0,x1,x2,x3]=f58_M x0 x1 x2 x3:=by kernel_rfl
theorem f58_0_J  {x0 x1 y2 y3 y4:TV} {r:TV} (h:aa prog 58 (f58_0 x0 x1 y2 y3 y4) r):aa prog 58 (.jmp [0,0,1,0,1,1] (f58_0_S x0 x1 y2 y3 y4)) r:=aa.jmp (by kernel_rfl) h
def f59_M (x0 x1 x2:TV):Prg TV :=
 tv (pbin (.int .u16) .eql x0 (W 0)) fun v0 =>
 Prg.ite (asBool v0) (
 tv (pbin (.int .i64) .eql x1 (I 0)) fun v1 =>
 Prg.ite (asBool v1) (
 tv (plen (.slice 3) x2) fun v2 =>
 tv (pbin (.int .i64) .eql v2 (I 0)) fun v3 =>
 ret v3) (
 ret (B false))) (
 ret (B false))
theorem f59_MR (x0 x1 x2:TV):ap prog 59 [x0,x1,x2]=f59_M x0 x1 x2:=by kernel_rfl
def f60_M (x0 x1 x2:TV):Prg TV :=
 chk (TV.isAgg x0 4) (
 chk (TV.isAgg x2 4) (
 tv (pun .not x1) fun v0 =>
 Prg.ite (asBool v0) (
 tv (pbin (.int .i64) .eql (cell x2 0) (I 0)) fun v1 =>
 Prg.ite (asBool v1) (
 tv (plen (.slice 53) (cell x2 1)) fun v2 =>
 tv (pbin (.int .i64) .eql v2 (I 0)) fun v3 =>
 Prg.ite (asBool v3) (
 tv (pun .not (cell x2 2)) fun v4 =>
 Prg.ite (asBool v4) (
 tv (pun .not (cell x2 3)) fun v5 =>
 ret v5) (
 ret (B false))) (
 ret (B false))) (
 ret (B false))) (
 call 72 [agg [cell x0 0,cell x0 1,cell x0 2,cell x0 3],B true,cell x2 0] fun v6 =>
 chk (ab am [v6] 0) (
 Prg.ite (asBool v6) (
 tv (plen (.slice 53) (cell x2 1)) fun v7 =>
 tv (pbin (.int .i64) .leq v7 (I 8)) fun v8 =>
 Prg.ite (asBool v8) (
 call 73 [cell x2 1] fun v9 =>
 chk (ab am [v9] 0) (
 Prg.ite (asBool v9) (
 tv (plen (.slice 53) (cell x2 1)) fun v10 =>
 tv (pbin (.int .i64) .gtr v10 (I 0)) fun v11 =>
 Prg.ite (asBool v11) (
 ret (B true)) (
 Prg.ite (asBool (cell x2 2)) (
 ret (B true)) (
 ret (cell x2 3)))) (
 ret (B false)))) (
 ret (B false))) (
 ret (B false))))))
theorem f60_MR (x0 x1 x2:TV):ap prog 60 [x0,x1,x2]=f60_M x0 x1 x2:=by kernel_rfl
def f61_M (x0 x1:TV):Prg TV :=
 chk (TV.isAgg x0 4) (
 chk (TV.isAgg x1 7) (
 call 74 [cell x1 0] fun v0 =>
 chk (ab wq [v0] 0) (
 call 75 [v0,I 1] fun v1 =>
 chk (ab am [v1] 0) (
 Prg.ite (asBool v1) (
 call 75 [v0,I 2] fun v2 =>
 chk (ab am [v2] 0) (
 call 72 [agg [cell x0 0,cell x0 1,cell x0 2,cell x0 3],v2,cell x1 1] fun v3 =>
 chk (ab am [v3] 0) (
 Prg.ite (asBool v3) (
 call 75 [v0,I 4] fun v4 =>
 chk (ab am [v4] 0) (
 call 72 [agg [cell x0 0,cell x0 1,cell x0 2,cell x0 3],v4,cell x1 2] fun v5 =>
 chk (ab am [v5] 0) (
 Prg.ite (asBool v5) (
 call 75 [v0,I 8] fun v6 =>
 chk (ab am [v6] 0) (
 call 72 [agg [cell x0 0,cell x0 1,cell x0 2,cell x0 3],v6,cell x1 3] fun v7 =>
 chk (ab am [v7] 0) (
 Prg.ite (asBool v7) (
 call 75 [v0,I 16] fun v8 =>
 chk (ab am [v8] 0) (
 Prg.ite (asBool v8) (
 call 75 [v0,I 32] fun v9 =>
 chk (ab am [v9] 0) (
 call 76 [agg [cell x0 0,cell x0 1,cell x0 2,cell x0 3],v9,cell x1 5,cell x1 6] fun v10 =>
 chk (ab am [v10] 0) (
 ret v10))) (
 tv (pbin (.int .u16) .eql (cell x1 4) (W 0)) fun v11 =>
 Prg.ite (asBool v11) (
 call 75 [v0,I 32] fun v12 =>
 chk (ab am [v12] 0) (
 call 76 [agg [cell x0 0,cell x0 1,cell x0 2,cell x0 3],v12,cell x1 5,cell x1 6] fun v13 =>
 chk (ab am [v13] 0) (
 ret v13))) (
 ret (B false))))) (
 ret (B false))))) (
 ret (B false))))) (
 ret (B false))))) (
 ret (B false))))))
theorem f61_MR (x0 x1:TV):ap prog 61 [x0,x1]=f61_M x0 x1:=by kernel_rfl
def f62_M (x0 x1:TV):Prg TV :=
 chk (TV.isAgg x0 4) (
 chk (TV.isAgg x1 8) (
 call 77 [cell x1 0] fun v0 =>
 chk (ab wq [v0] 0) (
 call 75 [v0,I 1] fun v1 =>
 chk (ab am [v1] 0) (
 Prg.ite (asBool v1) (
 call 75 [v0,I 4] fun v2 =>
 chk (ab am [v2] 0) (
 call 72 [agg [cell x0 0,cell x0 1,cell x0 2,cell x0 3],v2,cell x1 1] fun v3 =>
 chk (ab am [v3] 0) (
 Prg.ite (asBool v3) (
 call 75 [v0,I 2] fun v4 =>
 chk (ab am [v4] 0) (
 call 72 [agg [cell x0 0,cell x0 1,cell x0 2,cell x0 3],v4,cell x1 2] fun v5 =>
 chk (ab am [v5] 0) (
 Prg.ite (asBool v5) (
 call 75 [v0,I 32] fun v6 =>
 chk (ab am [v6] 0) (
 call 76 [agg [cell x0 0,cell x0 1,cell x0 2,cell x0 3],v6,cell x1 3,cell x1 4] fun v7 =>
 chk (ab am [v7] 0) (
 Prg.ite (asBool v7) (
 call 75 [v0,I 64] fun v8 =>
 chk (ab am [v8] 0) (
 call 78 [agg [cell x0 0,cell x0 1,cell x0 2,cell x0 3],v8,cell x1 5,B false] fun v9 =>
 chk (ab am [v9] 0) (
 Prg.ite (asBool v9) (
 call 75 [v0,I 128] fun v10 =>
 chk (ab am [v10] 0) (
 call 78 [agg [cell x0 0,cell x0 1,cell x0 2,cell x0 3],v10,cell x1 6,B false] fun v11 =>
 chk (ab am [v11] 0) (
 Prg.ite (asBool v11) (
 call 75 [v0,I 256] fun v12 =>
 chk (ab am [v12] 0) (
 call 78 [agg [cell x0 0,cell x0 1,cell x0 2,cell x0 3],v12,cell x1 7,B true] fun v13 =>
 chk (ab am [v13] 0) (
 ret v13))) (
 ret (B false))))) (
 ret (B false))))) (
 ret (B false))))) (
 ret (B false))))) (
 ret (B false))))) (
 ret (B false))))))
theorem f62_MR (x0 x1:TV):ap prog 62 [x0,x1]=f62_M x0 x1:=by kernel_rfl
def f65_0_S  (x0 x1 x2 y3 y4 y5 y6 y7 w8:TV):ASt:=⟨[Jk,AV.tv x0,AV.tv x1,Pt 0,Jk,Jk,Pt 1,Jk,Pt 2,AV.tv x2]++Rj 52,[Ct y3,some (BC.cells [CA.junk,CA.junk,CA.junk,CA.junk,CA.junk]),some (BC.cells [CA.t y4,CA.t y5,CA.t y6,CA.sref 3 0 [],CA.t y7]),Tr w8]++Rz 82,[]⟩
def f65_M (x0 x1 x2:TV):Prg TV :=
 chk (TV.isAgg x0 1) (
 tv (pbin (.int .i64) .lss x1 (I 0)) fun v0 =>
 Prg.ite (asBool v0) (
 chk true (
 ret (tup [agg [I 0,I 0,I 0,TV.lit bc,W 0],I 1]))) (
 tv (plen (.slice 40) (cell x0 0)) fun v1 =>
 tv (pbin (.int .i64) .geq x1 v1) fun v2 =>
 Prg.ite (asBool v2) (
 chk true (
 ret (tup [agg [I 0,I 0,I 0,TV.lit bc,W 0],I 1]))) (
 tv (plen (.slice 53) x2) fun v3 =>
 tvs (pidx 3 (cell x0 0) x1) fun e4 =>
 chk (Nat.blt 0 (List.length e4)) (
 tv (pbin (.int .i64) .neq v3 (nth hole e4 0)) fun v5 =>
 Prg.ite (asBool v5) (
 chk true (
 ret (tup [agg [I 0,I 0,I 0,TV.lit bc,W 0],I 1]))) (
 chk (TV.eS x1) (
 chk true (
 jmp [0,0,1,0,1,1,1] (f65_0_S x1 x2 (I 0) (cell x0 0) x1 (I 0) (I 0) (W 0) (TV.lit bc)))))))))
def f65_0  (x0 x1 x2 y3 y4 y5 y6 y7 w8:TV):Prg TV :=
 tvs (pidx 3 y3 x0) fun e6 =>
 chk (Nat.blt 1 (List.length e6)) (
 tv (pbin (.int .i64) .lss x2 (nth hole e6 1)) fun v7 =>
 Prg.ite (asBool v7) (
 tv (plen (.slice 53) x1) fun v8 =>
 tv (pbin (.int .i64) .lss x2 v8) fun v9 =>
 Prg.ite (asBool v9) (
 tvs (pidx 1 x1 x2) fun e10 =>
 chk (Nat.blt 0 (List.length e10)) (
 rws (pelems 1 (TV.sl true 1 (chunks 1 1 [nth hole e10 0]))) fun r11 =>
 tv (papp 1 w8 (qK r11)) fun v12 =>
 tv (pbin (.int .i64) .add x2 (I 1)) fun v13 =>
 jmp [0,0,1,0,1,1,1] (f65_0_S x0 x1 v13 y3 y4 y5 y6 y7 v12))) (
 rws (pelems 1 (TV.sl true 1 (chunks 1 1 [W 0]))) fun r14 =>
 tv (papp 1 w8 (qK r14)) fun v15 =>
 tv (pbin (.int .i64) .add x2 (I 1)) fun v16 =>
 jmp [0,0,1,0,1,1,1] (f65_0_S x0 x1 v16 y3 y4 y5 y6 y7 v15))) (
 chk (bE [agg [y4,y5,y6,w8,y7],I 0]) (
 ret (tup [agg [y4,y5,y6,w8,y7],I 0]))))
theorem f65_MR (x0 x1 x2:TV):ap prog 65 [x0,x1,x2]=f65_M x0 x1 x2:=by kernel_rfl
theorem f65_0_J  {x0 x1 x2 y3 y4 y5 y6 y7 w8:TV} {r:TV} (h:aa prog 65 (f65_0 x0 x1 x2 y3 y4 y5 y6 y7 w8) r):aa prog 65 (.jmp [0,0,1,0,1,1,1] (f65_0_S x0 x1 x2 y3 y4 y5 y6 y7 w8)) r:=aa.jmp (by kernel_rfl) h
def f66_M (x0 x1:TV):Prg TV :=
 chk (TV.isAgg x0 1) (
 chk (TV.isAgg x1 5) (
 tvs (pidx 3 (cell x0 0) (cell x1 0)) fun e0 =>
 chk (Nat.blt 2 (List.length e0)) (
 tvs (pidx 14 (nth hole e0 2) (cell x1 1)) fun e1 =>
 chk (Nat.ble 14 (List.length e1)) (
 tv (plen (.slice 55) (nth hole e1 5)) fun v2 =>
 tv (pbin (.int .i64) .eql (cell x1 2) v2) fun v3 =>
 ret (tup [agg [nth hole e1 0,nth hole e1 1,nth hole e1 2,nth hole e1 3,nth hole e1 4,nth hole e1 5,nth hole e1 6,nth hole e1 7,nth hole e1 8,nth hole e1 9,nth hole e1 10,nth hole e1 11,nth hole e1 12,nth hole e1 13],v3])))))
theorem f66_MR (x0 x1:TV):ap prog 66 [x0,x1]=f66_M x0 x1:=by kernel_rfl
def f67_0_S  (x0 y1 y2 y3 y4 y5 y6 y7 y8 y9 y10 y11 y12 y13 y14 y15 y16 y17 y18 y19 y20 y21 y22 y23 y24 y25 y26 y27 y28 y29 y30 y31 y32 y33:TV):ASt:=⟨Rj 5 ++ [Pt 0,Pt 1,Pt 2,Pt 3]++Rj 36 ++ [AV.tv x0]++Rj 89,[some (BC.cells [CA.t y1,CA.t y2,CA.t y3,CA.t y4,CA.t y5,CA.t y6,CA.t y7,CA.t y8,CA.t y9,CA.t y10,CA.t y11,CA.t y12,CA.t y13,CA.t y14,CA.t y15,CA.t y16,CA.t y17,CA.t y18,CA.t y19,CA.t y20,CA.t y21]),some (BC.cells [CA.t y22,CA.t y23,CA.t y24,CA.t y25,CA.t y26]),some (BC.cells [CA.t y27,CA.t y28,CA.t y29,CA.t y30,CA.t y31,CA.t y32,CA.t y33]),some (BC.cells [CA.junk,CA.junk,CA.junk,CA.junk,CA.junk,CA.junk,CA.junk,CA.junk,CA.junk,CA.junk,CA.junk,CA.junk,CA.junk,CA.junk,CA.junk,CA.junk,CA.junk,CA.junk,CA.junk,CA.junk,CA.junk])]++Rz 155,[]⟩
def f67_1_S  (x0 y1 y2 y3 y4 y5 y6 y7 y8 y9 y10 y11 y12 y13 y14 y15 y16 y17 y18 y19 y20 y21 y22 y23 y24 y25 y26 y27 y28 y29 y30 y31 y32 w33:TV):ASt:=⟨Rj 5 ++ [Pt 0,Pt 1,Pt 2,Pt 3]++Rj 70 ++ [AV.tv x0]++Rj 55,[some (BC.cells [CA.t y1,CA.t y2,CA.t y3,CA.t y4,CA.t y5,CA.t y6,CA.t y7,CA.t y8,CA.t y9,CA.t y10,CA.t y11,CA.t y12,CA.t y13,CA.t y14,CA.t y15,CA.t y16,CA.t y17,CA.t y18,CA.t y19,CA.t y20,CA.t y21]),some (BC.cells [CA.t y22,CA.t y23,CA.t y24,CA.sref 4 0 [],CA.t y25]),some (BC.cells [CA.t y26,CA.t y27,CA.t y28,CA.t y29,CA.t y30,CA.t y31,CA.t y32]),some (BC.cells [CA.junk,CA.junk,CA.junk,CA.junk,CA.junk,CA.junk,CA.junk,CA.junk,CA.junk,CA.junk,CA.junk,CA.junk,CA.junk,CA.junk,CA.junk,CA.junk,CA.junk,CA.junk,CA.junk,CA.junk,CA.junk]),Tr w33]++Rz 154,[]⟩
def f67_2_S  (x0 y1 y2 y3 y4 y5 y6 y7 y8 y9 y10 y11 y12 y13 y14 y15 y16 y17 y18 y19 y20 y21 y22 y23 y24 y25 y26 y27 y28 y29 y30 y31 w32 w33:TV):ASt:=⟨Rj 5 ++ [Pt 0,Pt 1,Pt 2,Pt 3]++Rj 87 ++ [AV.tv x0]++Rj 38,[some (BC.cells [CA.t y1,CA.t y2,CA.t y3,CA.t y4,CA.t y5,CA.t y6,CA.t y7,CA.t y8,CA.t y9,CA.t y10,CA.t y11,CA.t y12,CA.t y13,CA.t y14,CA.t y15,CA.t y16,CA.t y17,CA.t y18,CA.sref 4 0 [],CA.t y19,CA.t y20]),some (BC.cells [CA.t y21,CA.t y22,CA.t y23,CA.sref 5 0 [],CA.t y24]),some (BC.cells [CA.t y25,CA.t y26,CA.t y27,CA.t y28,CA.t y29,CA.t y30,CA.t y31]),some (BC.cells [CA.junk,CA.junk,CA.junk,CA.junk,CA.junk,CA.junk,CA.junk,CA.junk,CA.junk,CA.junk,CA.junk,CA.junk,CA.junk,CA.junk,CA.junk,CA.junk,CA.junk,CA.junk,CA.junk,CA.junk,CA.junk]),Tr w32,Tr w33]++Rz 153,[]⟩
def f67_3_S  (y0 y1 y2 y3 y4 y5 y6 y7 y8 y9 y10 y11 y12 y13 y14 y15 y16 y17 y18 y19 y20 y21 y22 y23 w24 w25:TV):ASt:=⟨Rj 5 ++ [Pt 0,Pt 1,Jk,Pt 2]++Rj 126,[some (BC.cells [CA.t y0,CA.t y1,CA.t y2,CA.t y3,CA.t y4,CA.t y5,CA.t y6,CA.t y7,CA.t y8,CA.t y9,CA.t y10,CA.t y11,CA.t y12,CA.t y13,CA.t y14,CA.t y15,CA.t y16,CA.t y17,CA.sref 3 0 [],CA.t y18,CA.t y19]),some (BC.cells [CA.t y20,CA.t y21,CA.t y22,CA.sref 4 0 [],CA.t y23]),some (BC.cells [CA.junk,CA.junk,CA.junk,CA.junk,CA.junk,CA.junk,CA.junk,CA.junk,CA.junk,CA.junk,CA.junk,CA.junk,CA.junk,CA.junk,CA.junk,CA.junk,CA.junk,CA.junk,CA.junk,CA.junk,CA.junk]),Tr w24,Tr w25]++Rz 154,[]⟩
def f67_M (x0 x1 x2 x3:TV):Prg TV :=
 chk (TV.isAgg x0 1) (
 chk (TV.isAgg x1 21) (
 chk (TV.isAgg x2 5) (
 chk (TV.isAgg x3 7) (
 tv (pbin (.int .i64) .eql (cell x3 0) (I 11)) fun v0 =>
 Prg.ite (asBool v0) (
 call 69 [agg [cell x0 0],agg [cell x1 0,cell x1 1,cell x1 2,cell x1 3,cell x1 4,cell x1 5,cell x1 6,cell x1 7,cell x1 8,cell x1 9,cell x1 10,cell x1 11,cell x1 12,cell x1 13,cell x1 14,cell x1 15,cell x1 16,cell x1 17,cell x1 18,cell x1 19,cell x1 20],cell x3 5,cell x3 6] fun v1 =>
 chk (Bool.and (TV.isAgg v1 21) (ab z68 (cellsL true v1) 0)) (
 ret (agg [cell v1 0,cell v1 1,cell v1 2,cell v1 3,cell v1 4,cell v1 5,cell v1 6,cell v1 7,cell v1 8,cell v1 9,cell v1 10,cell v1 11,cell v1 12,cell v1 13,cell v1 14,cell v1 15,cell v1 16,cell v1 17,cell v1 18,cell v1 19,cell v1 20]))) (
 tv (pbin (.int .i64) .leq (cell x3 0) (I 8)) fun v2 =>
 Prg.ite (asBool v2) (
 call 79 [agg [cell x2 0,cell x2 1,cell x2 2,cell x2 3,cell x2 4],agg [cell x3 0,cell x3 1,cell x3 2,cell x3 3,cell x3 4,cell x3 5,cell x3 6]] fun v3 =>
 chk (isTup v3 2) (
 chk (Bool.and (TV.isAgg (comp v3 0) 5) (ab z96 (cellsL true (comp v3 0)) 0)) (
 chk (ab am [comp v3 1] 0) (
 tv (pun .not (comp v3 1)) fun v4 =>
 Prg.ite (asBool v4) (
 call 80 [agg [cell x1 0,cell x1 1,cell x1 2,cell x1 3,cell x1 4,cell x1 5,cell x1 6,cell x1 7,cell x1 8,cell x1 9,cell x1 10,cell x1 11,cell x1 12,cell x1 13,cell x1 14,cell x1 15,cell x1 16,cell x1 17,cell x1 18,cell x1 19,cell x1 20],I 3,W 0] fun v5 =>
 chk (Bool.and (TV.isAgg v5 21) (ab z68 (cellsL true v5) 0)) (
 ret (agg [cell v5 0,cell v5 1,cell v5 2,cell v5 3,cell v5 4,cell v5 5,cell v5 6,cell v5 7,cell v5 8,cell v5 9,cell v5 10,cell v5 11,cell v5 12,cell v5 13,cell v5 14,cell v5 15,cell v5 16,cell v5 17,cell v5 18,cell v5 19,cell v5 20]))) (
 call 71 [agg [cell x1 0,cell x1 1,cell x1 2,cell x1 3,cell x1 4,cell x1 5,cell x1 6,cell x1 7,cell x1 8,cell x1 9,cell x1 10,cell x1 11,cell x1 12,cell x1 13,cell x1 14,cell x1 15,cell x1 16,cell x1 17,cell x1 18,cell x1 19,cell x1 20],agg [cell (comp v3 0) 0,cell (comp v3 0) 1,cell (comp v3 0) 2,frz (cell (comp v3 0) 3),cell (comp v3 0) 4]] fun v6 =>
 chk (Bool.and (TV.isAgg v6 21) (ab z68 (cellsL true v6) 0)) (
 ret (agg [cell v6 0,cell v6 1,cell v6 2,cell v6 3,cell v6 4,cell v6 5,cell v6 6,cell v6 7,cell v6 8,cell v6 9,cell v6 10,cell v6 11,cell v6 12,cell v6 13,cell v6 14,cell v6 15,cell v6 16,cell v6 17,cell v6 18,cell v6 19,cell v6 20]))))))) (
 tv (pbin (.int .i64) .eql (cell x3 0) (I 9)) fun v7 =>
 Prg.ite (asBool v7) (
 jmp [1,0,1,1,1] (f67_0_S (B true) (cell x1 0) (cell x1 1) (cell x1 2) (cell x1 3) (cell x1 4) (cell x1 5) (cell x1 6) (cell x1 7) (cell x1 8) (cell x1 9) (cell x1 10) (cell x1 11) (cell x1 12) (cell x1 13) (cell x1 14) (cell x1 15) (cell x1 16) (cell x1 17) (cell x1 18) (cell x1 19) (cell x1 20) (cell x2 0) (cell x2 1) (cell x2 2) (cell x2 3) (cell x2 4) (cell x3 0) (cell x3 1) (cell x3 2) (cell x3 3) (cell x3 4) (cell x3 5) (cell x3 6))) (
 tv (pbin (.int .i64) .eql (cell x3 0) (I 10)) fun v8 =>
 jmp [1,0,1,1,1] (f67_0_S v8 (cell x1 0) (cell x1 1) (cell x1 2) (cell x1 3) (cell x1 4) (cell x1 5) (cell x1 6) (cell x1 7) (cell x1 8) (cell x1 9) (cell x1 10) (cell x1 11) (cell x1 12) (cell x1 13) (cell x1 14) (cell x1 15) (cell x1 16) (cell x1 17) (cell x1 18) (cell x1 19) (cell x1 20) (cell x2 0) (cell x2 1) (cell x2 2) (cell x2 3) (cell x2 4) (cell x3 0) (cell x3 1) (cell x3 2) (cell x3 3) (cell x3 4) (cell x3 5) (cell x3 6)))))))))
def f67_0  (x0 y1 y2 y3 y4 y5 y6 y7 y8 y9 y10 y11 y12 y13 y14 y15 y16 y17 y18 y19 y20 y21 y22 y23 y24 y25 y26 y27 y28 y29 y30 y31 y32 y33:TV):Prg TV :=
 Prg.ite (asBool x0) (
 tvs (pidx 1 y25 y29) fun e9 =>
 chk (Nat.blt 0 (List.length e9)) (
 tv (pconv (.int .i64) (nth hole e9 0)) fun v10 =>
 tv (pbin (.int .i64) .geq v10 (I 16)) fun v11 =>
 Prg.ite (asBool v11) (
 call 80 [agg [y1,y2,y3,y4,y5,y6,y7,y8,y9,y10,y11,y12,y13,y14,y15,y16,y17,y18,y19,y20,y21],I 4,W 0] fun v12 =>
 chk (Bool.and (TV.isAgg v12 21) (ab z68 (cellsL true v12) 0)) (
 ret (agg [cell v12 0,cell v12 1,cell v12 2,cell v12 3,cell v12 4,cell v12 5,cell v12 6,cell v12 7,cell v12 8,cell v12 9,cell v12 10,cell v12 11,cell v12 12,cell v12 13,cell v12 14,cell v12 15,cell v12 16,cell v12 17,cell v12 18,cell v12 19,cell v12 20]))) (
 tv (pbin (.int .i64) .eql y27 (I 9)) fun v13 =>
 Prg.ite (asBool v13) (
 nat (aJ v10) fun n14 =>
 chk (Nat.blt n14 16) (
 tv (pnth n14 [y2,y3,y4,y5,y6,y7,y8,y9,y10,y11,y12,y13,y14,y15,y16,y17]) fun v15 =>
 call 81 [agg [y22,y23,y24,y25,y26],y28,v15] fun v16 =>
 chk (Bool.and (TV.isAgg v16 5) (ab z96 (cellsL true v16) 0)) (
 tv (pbin (.int .i64) .eql y27 (I 12)) fun v17 =>
 jmp [1,0,1,1,1,1] (f67_1_S v17 y1 y2 y3 y4 y5 y6 y7 y8 y9 y10 y11 y12 y13 y14 y15 y16 y17 y18 y19 y20 y21 (cell v16 0) (cell v16 1) (cell v16 2) (cell v16 4) y27 y28 y29 y30 y31 y32 y33 (cell v16 3))))) (
 tvs (pidx 1 y25 y30) fun e18 =>
 chk (Nat.blt 0 (List.length e18)) (
 nat (aJ v10) fun n19 =>
 chk (Nat.blt n19 16) (
 tv (pbin (.int .i64) .eql y27 (I 12)) fun v20 =>
 chk (isSl y25) (
 jmp [1,0,1,1,1,1] (f67_1_S v20 y1 (dq n19 0 (nth hole e18 0) y2) (dq n19 1 (nth hole e18 0) y3) (dq n19 2 (nth hole e18 0) y4) (dq n19 3 (nth hole e18 0) y5) (dq n19 4 (nth hole e18 0) y6) (dq n19 5 (nth hole e18 0) y7) (dq n19 6 (nth hole e18 0) y8) (dq n19 7 (nth hole e18 0) y9) (dq n19 8 (nth hole e18 0) y10) (dq n19 9 (nth hole e18 0) y11) (dq n19 10 (nth hole e18 0) y12) (dq n19 11 (nth hole e18 0) y13) (dq n19 12 (nth hole e18 0) y14) (dq n19 13 (nth hole e18 0) y15) (dq n19 14 (nth hole e18 0) y16) (dq n19 15 (nth hole e18 0) y17) y18 y19 y20 y21 y22 y23 y24 y26 y27 y28 y29 y30 y31 y32 y33 y25)))))))) (
 tv (pbin (.int .i64) .eql y27 (I 12)) fun v21 =>
 chk (isSl y25) (
 jmp [1,0,1,1,1,1] (f67_1_S v21 y1 y2 y3 y4 y5 y6 y7 y8 y9 y10 y11 y12 y13 y14 y15 y16 y17 y18 y19 y20 y21 y22 y23 y24 y26 y27 y28 y29 y30 y31 y32 y33 y25)))
def f67_1  (x0 y1 y2 y3 y4 y5 y6 y7 y8 y9 y10 y11 y12 y13 y14 y15 y16 y17 y18 y19 y20 y21 y22 y23 y24 y25 y26 y27 y28 y29 y30 y31 y32 w33:TV):Prg TV :=
 Prg.ite (asBool x0) (
 rws (pelems 1 y19) fun r22 =>
 tv (papp 1 (TV.sl true 1 (chunks 1 0 [])) r22) fun v23 =>
 nat (slLen w33) fun n24 =>
 nat (aJ y28) fun n25 =>
 chk (Bool.and (slSize w33 1) (Nat.blt n25 n24)) (
 tvs (pel w33 n25) fun e26 =>
 chk (ab CZ e26 0) (
 tv (pconv (.int .i64) (nth hole e26 0)) fun v27 =>
 rws (pelems 1 (TV.sl true 1 (chunks 1 1 [v27]))) fun r28 =>
 tv (papp 1 v23 (qK r28)) fun v29 =>
 tv (pbin (.int .i64) .eql y26 (I 13)) fun v30 =>
 jmp [1,0,1,1,1,1,1] (f67_2_S v30 y1 y2 y3 y4 y5 y6 y7 y8 y9 y10 y11 y12 y13 y14 y15 y16 y17 y18 y20 y21 y22 y23 y24 y25 y26 y27 y28 y29 y30 y31 y32 v29 w33)))) (
 tv (pbin (.int .i64) .eql y26 (I 13)) fun v31 =>
 chk (isSl y19) (
 jmp [1,0,1,1,1,1,1] (f67_2_S v31 y1 y2 y3 y4 y5 y6 y7 y8 y9 y10 y11 y12 y13 y14 y15 y16 y17 y18 y20 y21 y22 y23 y24 y25 y26 y27 y28 y29 y30 y31 y32 y19 w33)))
def f67_2  (x0 y1 y2 y3 y4 y5 y6 y7 y8 y9 y10 y11 y12 y13 y14 y15 y16 y17 y18 y19 y20 y21 y22 y23 y24 y25 y26 y27 y28 y29 y30 y31 w32 w33:TV):Prg TV :=
 Prg.ite (asBool x0) (
 tv (plen (.slice 53) y18) fun v32 =>
 tv (pbin (.int .i64) .eql v32 (I 0)) fun v33 =>
 Prg.ite (asBool v33) (
 call 80 [agg [y1,y2,y3,y4,y5,y6,y7,y8,y9,y10,y11,y12,y13,y14,y15,y16,y17,y18,frz w32,y19,y20],I 6,W 0] fun v34 =>
 chk (Bool.and (TV.isAgg v34 21) (ab z68 (cellsL true v34) 0)) (
 ret (agg [cell v34 0,cell v34 1,cell v34 2,cell v34 3,cell v34 4,cell v34 5,cell v34 6,cell v34 7,cell v34 8,cell v34 9,cell v34 10,cell v34 11,cell v34 12,cell v34 13,cell v34 14,cell v34 15,cell v34 16,cell v34 17,cell v34 18,cell v34 19,cell v34 20]))) (
 tvs (pidx 1 y18 (I 0)) fun e35 =>
 chk (Nat.blt 0 (List.length e35)) (
 call 81 [agg [y21,y22,y23,frz w33,y24],y26,nth hole e35 0] fun v36 =>
 chk (Bool.and (TV.isAgg v36 5) (ab z96 (cellsL true v36) 0)) (
 rws (pelems 1 w32) fun r37 =>
 tv (papp 1 (TV.sl true 1 (chunks 1 0 [])) (qK r37)) fun v38 =>
 tvs (pidx 1 y18 (I 0)) fun e39 =>
 chk (Nat.blt 0 (List.length e39)) (
 tv (pconv (.int .i64) (nth hole e39 0)) fun v40 =>
 tv (pbin (.int .i64) .add v40 (I 65536)) fun v41 =>
 rws (pelems 1 (TV.sl true 1 (chunks 1 1 [v41]))) fun r42 =>
 tv (papp 1 v38 (qK r42)) fun v43 =>
 nat (aJ (I 1)) fun n44 =>
 tv (pslice (.slice 53) 1 y18 (some n44) none) fun v45 =>
 jmp [1,1,1,1,1,1] (f67_3_S y1 y2 y3 y4 y5 y6 y7 y8 y9 y10 y11 y12 y13 y14 y15 y16 y17 v45 y19 y20 (cell v36 0) (cell v36 1) (cell v36 2) (cell v36 4) v43 (cell v36 3))))))) (
 jmp [1,1,1,1,1,1] (f67_3_S y1 y2 y3 y4 y5 y6 y7 y8 y9 y10 y11 y12 y13 y14 y15 y16 y17 y18 y19 y20 y21 y22 y23 y24 w32 w33))
def f67_3  (y0 y1 y2 y3 y4 y5 y6 y7 y8 y9 y10 y11 y12 y13 y14 y15 y16 y17 y18 y19 y20 y21 y22 y23 w24 w25:TV):Prg TV :=
 tv (pbin (.int .i64) .add y22 (I 1)) fun v46 =>
 call 71 [agg [y0,y1,y2,y3,y4,y5,y6,y7,y8,y9,y10,y11,y12,y13,y14,y15,y16,y17,frz w24,y18,y19],agg [y20,y21,v46,frz w25,y23]] fun v47 =>
 chk (Bool.and (TV.isAgg v47 21) (ab z68 (cellsL true v47) 0)) (
 ret (agg [cell v47 0,cell v47 1,cell v47 2,cell v47 3,cell v47 4,cell v47 5,cell v47 6,cell v47 7,cell v47 8,cell v47 9,cell v47 10,cell v47 11,cell v47 12,cell v47 13,cell v47 14,cell v47 15,cell v47 16,cell v47 17,cell v47 18,cell v47 19,cell v47 20]))
theorem f67_MR (x0 x1 x2 x3:TV):ap prog 67 [x0,x1,x2,x3]=f67_M x0 x1 x2 x3:=by kernel_rfl
theorem f67_0_J  {x0 y1 y2 y3 y4 y5 y6 y7 y8 y9 y10 y11 y12 y13 y14 y15 y16 y17 y18 y19 y20 y21 y22 y23 y24 y25 y26 y27 y28 y29 y30 y31 y32 y33:TV} {r:TV} (h:aa prog 67 (f67_0 x0 y1 y2 y3 y4 y5 y6 y7 y8 y9 y10 y11 y12 y13 y14 y15 y16 y17 y18 y19 y20 y21 y22 y23 y24 y25 y26 y27 y28 y29 y30 y31 y32 y33) r):aa prog 67 (.jmp [1,0,1,1,1] (f67_0_S x0 y1 y2 y3 y4 y5 y6 y7 y8 y9 y10 y11 y12 y13 y14 y15 y16 y17 y18 y19 y20 y21 y22 y23 y24 y25 y26 y27 y28 y29 y30 y31 y32 y33)) r:=aa.jmp (by kernel_rfl) h
theorem f67_1_J  {x0 y1 y2 y3 y4 y5 y6 y7 y8 y9 y10 y11 y12 y13 y14 y15 y16 y17 y18 y19 y20 y21 y22 y23 y24 y25 y26 y27 y28 y29 y30 y31 y32 w33:TV} {r:TV} (h:aa prog 67 (f67_1 x0 y1 y2 y3 y4 y5 y6 y7 y8 y9 y10 y11 y12 y13 y14 y15 y16 y17 y18 y19 y20 y21 y22 y23 y24 y25 y26 y27 y28 y29 y30 y31 y32 w33) r):aa prog 67 (.jmp [1,0,1,1,1,1] (f67_1_S x0 y1 y2 y3 y4 y5 y6 y7 y8 y9 y10 y11 y12 y13 y14 y15 y16 y17 y18 y19 y20 y21 y22 y23 y24 y25 y26 y27 y28 y29 y30 y31 y32 w33)) r:=aa.jmp (by kernel_rfl) h
theorem f67_2_J  {x0 y1 y2 y3 y4 y5 y6 y7 y8 y9 y10 y11 y12 y13 y14 y15 y16 y17 y18 y19 y20 y21 y22 y23 y24 y25 y26 y27 y28 y29 y30 y31 w32 w33:TV} {r:TV} (h:aa prog 67 (f67_2 x0 y1 y2 y3 y4 y5 y6 y7 y8 y9 y10 y11 y12 y13 y14 y15 y16 y17 y18 y19 y20 y21 y22 y23 y24 y25 y26 y27 y28 y29 y30 y31 w32 w33) r):aa prog 67 (.jmp [1,0,1,1,1,1,1] (f67_2_S x0 y1 y2 y3 y4 y5 y6 y7 y8 y9 y10 y11 y12 y13 y14 y15 y16 y17 y18 y19 y20 y21 y22 y23 y24 y25 y26 y27 y28 y29 y30 y31 w32 w33)) r:=aa.jmp (by kernel_rfl) h
theorem f67_3_J  {y0 y1 y2 y3 y4 y5 y6 y7 y8 y9 y10 y11 y12 y13 y14 y15 y16 y17 y18 y19 y20 y21 y22 y23 w24 w25:TV} {r:TV} (h:aa prog 67 (f67_3 y0 y1 y2 y3 y4 y5 y6 y7 y8 y9 y10 y11 y12 y13 y14 y15 y16 y17 y18 y19 y20 y21 y22 y23 w24 w25) r):aa prog 67 (.jmp [1,1,1,1,1,1] (f67_3_S y0 y1 y2 y3 y4 y5 y6 y7 y8 y9 y10 y11 y12 y13 y14 y15 y16 y17 y18 y19 y20 y21 y22 y23 w24 w25)) r:=aa.jmp (by kernel_rfl) h
def f68_0_S  (y0 y1 y2 y3 y4 y5 y6 y7 y8 y9 y10 y11 y12 y13 y14 y15 y16 y17 y18 y19 y20 y21 y22 y23 y24 w25 w26 w27 w28 w29:TV):ASt:=⟨Rj 4 ++ [Pt 0,Jk,Pt 1,Pt 2]++Rj 60,[some (BC.cells [CA.t y0,CA.t y1,CA.t y2,CA.t y3,CA.t y4,CA.t y5,CA.t y6,CA.t y7,CA.t y8,CA.t y9,CA.t y10,CA.t y11,CA.t y12,CA.t y13,CA.t y14,CA.t y15,CA.t y16,CA.t y17,CA.t y18,CA.t y19,CA.t y20]),some (BC.cells [CA.junk,CA.junk,CA.junk,CA.junk,CA.junk,CA.junk,CA.junk,CA.junk,CA.junk,CA.junk,CA.junk,CA.junk,CA.junk,CA.junk,CA.junk,CA.junk,CA.junk,CA.junk,CA.junk,CA.junk,CA.junk]),some (BC.cells [CA.t y21,CA.t y22,CA.t y23,CA.sref 3 3 [],CA.t y24]),some (BC.tree [w25,w26,w27,w28,w29])]++Rz 88,[]⟩
def f68_M (x0 x1 x2:TV):Prg TV :=
 chk (TV.isAgg x0 1) (
 chk (TV.isAgg x1 21) (
 tv (plen (.slice 97) (cell x1 0)) fun v0 =>
 tv (pbin (.int .i64) .sub v0 (I 1)) fun v1 =>
 nat (aJ v1) fun n2 =>
 tv (pslice (.slice 97) 5 (cell x1 0) none (some n2)) fun v3 =>
 tv (plen (.slice 97) v3) fun v4 =>
 tv (pbin (.int .i64) .eql v4 (I 0)) fun v5 =>
 Prg.ite (asBool v5) (
 call 80 [agg [v3,cell x1 1,cell x1 2,cell x1 3,cell x1 4,cell x1 5,cell x1 6,cell x1 7,cell x1 8,cell x1 9,cell x1 10,cell x1 11,cell x1 12,cell x1 13,cell x1 14,cell x1 15,cell x1 16,cell x1 17,cell x1 18,cell x1 19,cell x1 20],I 1,x2] fun v6 =>
 chk (Bool.and (TV.isAgg v6 21) (ab z68 (cellsL true v6) 0)) (
 ret (agg [cell v6 0,cell v6 1,cell v6 2,cell v6 3,cell v6 4,cell v6 5,cell v6 6,cell v6 7,cell v6 8,cell v6 9,cell v6 10,cell v6 11,cell v6 12,cell v6 13,cell v6 14,cell v6 15,cell v6 16,cell v6 17,cell v6 18,cell v6 19,cell v6 20]))) (
 tv (plen (.slice 97) v3) fun v7 =>
 tv (pbin (.int .i64) .sub v7 (I 1)) fun v8 =>
 tvs (pidx 5 v3 v8) fun e9 =>
 chk (Nat.ble 5 (List.length e9)) (
 call 66 [agg [cell x0 0],agg [nth hole e9 0,nth hole e9 1,nth hole e9 2,nth hole e9 3,nth hole e9 4]] fun v10 =>
 chk (isTup v10 2) (
 chk (Bool.and (TV.isAgg (comp v10 0) 14) (ab dK (cellsL true (comp v10 0)) 0)) (
 chk (ab am [comp v10 1] 0) (
 Prg.ite (asBool (comp v10 1)) (
 call 81 [agg [nth hole e9 0,nth hole e9 1,nth hole e9 2,nth hole e9 3,nth hole e9 4],cell (comp v10 0) 8,x2] fun v11 =>
 chk (Bool.and (TV.isAgg v11 5) (ab z96 (cellsL true v11) 0)) (
 jmp [1,1,1,1,1,1] (f68_0_S v3 (cell x1 1) (cell x1 2) (cell x1 3) (cell x1 4) (cell x1 5) (cell x1 6) (cell x1 7) (cell x1 8) (cell x1 9) (cell x1 10) (cell x1 11) (cell x1 12) (cell x1 13) (cell x1 14) (cell x1 15) (cell x1 16) (cell x1 17) (cell x1 18) (cell x1 19) (cell x1 20) (cell v11 0) (cell (comp v10 0) 11) (I 0) (cell v11 4) hole hole hole (cell v11 3) hole))) (
 nat (slLen (cell (comp v10 0) 5)) fun n12 =>
 nat (aJ (nth hole e9 2)) fun n13 =>
 chk (Bool.and (slSize (cell (comp v10 0) 5) 7) (Nat.blt n13 n12)) (
 tvs (pel (cell (comp v10 0) 5) n13) fun e14 =>
 chk (ab wq e14 1) (
 call 81 [agg [nth hole e9 0,nth hole e9 1,nth hole e9 2,nth hole e9 3,nth hole e9 4],nth hole e14 1,x2] fun v15 =>
 chk (Bool.and (TV.isAgg v15 5) (ab z96 (cellsL true v15) 0)) (
 tv (pbin (.int .i64) .add (cell v15 2) (I 1)) fun v16 =>
 jmp [1,1,1,1,1,1] (f68_0_S v3 (cell x1 1) (cell x1 2) (cell x1 3) (cell x1 4) (cell x1 5) (cell x1 6) (cell x1 7) (cell x1 8) (cell x1 9) (cell x1 10) (cell x1 11) (cell x1 12) (cell x1 13) (cell x1 14) (cell x1 15) (cell x1 16) (cell x1 17) (cell x1 18) (cell x1 19) (cell x1 20) (cell v15 0) (cell v15 1) v16 (cell v15 4) hole hole hole (cell v15 3) hole))))))))))))
def f68_0  (y0 y1 y2 y3 y4 y5 y6 y7 y8 y9 y10 y11 y12 y13 y14 y15 y16 y17 y18 y19 y20 y21 y22 y23 y24 w25 w26 w27 w28 w29:TV):Prg TV :=
 call 71 [agg [y0,y1,y2,y3,y4,y5,y6,y7,y8,y9,y10,y11,y12,y13,y14,y15,y16,y17,y18,y19,y20],agg [y21,y22,y23,frz w28,y24]] fun v17 =>
 chk (Bool.and (TV.isAgg v17 21) (ab z68 (cellsL true v17) 0)) (
 ret (agg [cell v17 0,cell v17 1,cell v17 2,cell v17 3,cell v17 4,cell v17 5,cell v17 6,cell v17 7,cell v17 8,cell v17 9,cell v17 10,cell v17 11,cell v17 12,cell v17 13,cell v17 14,cell v17 15,cell v17 16,cell v17 17,cell v17 18,cell v17 19,cell v17 20]))
theorem f68_MR (x0 x1 x2:TV):ap prog 68 [x0,x1,x2]=f68_M x0 x1 x2:=by kernel_rfl
theorem f68_0_J  {y0 y1 y2 y3 y4 y5 y6 y7 y8 y9 y10 y11 y12 y13 y14 y15 y16 y17 y18 y19 y20 y21 y22 y23 y24 w25 w26 w27 w28 w29:TV} {r:TV} (h:aa prog 68 (f68_0 y0 y1 y2 y3 y4 y5 y6 y7 y8 y9 y10 y11 y12 y13 y14 y15 y16 y17 y18 y19 y20 y21 y22 y23 y24 w25 w26 w27 w28 w29) r):aa prog 68 (.jmp [1,1,1,1,1,1] (f68_0_S y0 y1 y2 y3 y4 y5 y6 y7 y8 y9 y10 y11 y12 y13 y14 y15 y16 y17 y18 y19 y20 y21 y22 y23 y24 w25 w26 w27 w28 w29)) r:=aa.jmp (by kernel_rfl) h
def f69_0_S  (x0 x1 x2 y3 y4 y5 y6 y7 y8 y9 y10 y11 y12 y13 y14 y15 y16 y17 y18 y19 y20 y21 y22 y23 y24 y25 y26 y27 y28 y29 w30:TV):ASt:=⟨[Jk,Jk,AV.tv x0,AV.tv x1,Pt 0,Pt 1,Jk,Jk,Pt 2,Pt 3,Sr 4,AV.tv x2]++Rj 49,[Ct y3,some (BC.cells [CA.t y4,CA.t y5,CA.t y6,CA.t y7,CA.t y8,CA.t y9,CA.t y10,CA.t y11,CA.t y12,CA.t y13,CA.t y14,CA.t y15,CA.t y16,CA.t y17,CA.t y18,CA.t y19,CA.t y20,CA.t y21,CA.t y22,CA.t y23,CA.t y24]),some (BC.cells [CA.junk,CA.junk,CA.junk,CA.junk,CA.junk,CA.junk,CA.junk,CA.junk,CA.junk,CA.junk,CA.junk,CA.junk,CA.junk,CA.junk,CA.junk,CA.junk,CA.junk,CA.junk,CA.junk,CA.junk,CA.junk]),some (BC.cells [CA.t y25,CA.t y26,CA.t y27,CA.t y28,CA.t y29]),Tr w30]++Rz 80,[]⟩
def f69_1_S  (x0 y1 y2 y3 y4 y5 y6 y7 y8 y9 y10 y11 y12 y13 y14 y15 y16 y17 y18 y19 y20 y21 y22 w23:TV):ASt:=⟨[Jk,Jk,AV.tv x0,Jk,Pt 0,Pt 1,Jk,Jk,Pt 2,Jk,Sr 3]++Rj 50,[Ct y1,some (BC.cells [CA.t y2,CA.t y3,CA.t y4,CA.t y5,CA.t y6,CA.t y7,CA.t y8,CA.t y9,CA.t y10,CA.t y11,CA.t y12,CA.t y13,CA.t y14,CA.t y15,CA.t y16,CA.t y17,CA.t y18,CA.t y19,CA.t y20,CA.t y21,CA.t y22]),some (BC.cells [CA.junk,CA.junk,CA.junk,CA.junk,CA.junk,CA.junk,CA.junk,CA.junk,CA.junk,CA.junk,CA.junk,CA.junk,CA.junk,CA.junk,CA.junk,CA.junk,CA.junk,CA.junk,CA.junk,CA.junk,CA.junk]),Tr w23]++Rz 81,[]⟩
def f69_2_S  (y0 y1 y2 y3 y4 y5 y6 y7 y8 y9 y10 y11 y12 y13 y14 y15 y16 y17 y18 y19 y20 y21 y22 y23 y24 y25:TV):ASt:=⟨Rj 5 ++ [Pt 0,Jk,Jk,Pt 1,Jk,Jk,Jk,Pt 2]++Rj 48,[some (BC.cells [CA.t y0,CA.t y1,CA.t y2,CA.t y3,CA.t y4,CA.t y5,CA.t y6,CA.t y7,CA.t y8,CA.t y9,CA.t y10,CA.t y11,CA.t y12,CA.t y13,CA.t y14,CA.t y15,CA.t y16,CA.t y17,CA.t y18,CA.t y19,CA.t y20]),some (BC.cells [CA.junk,CA.junk,CA.junk,CA.junk,CA.junk,CA.junk,CA.junk,CA.junk,CA.junk,CA.junk,CA.junk,CA.junk,CA.junk,CA.junk,CA.junk,CA.junk,CA.junk,CA.junk,CA.junk,CA.junk,CA.junk]),some (BC.cells [CA.t y21,CA.t y22,CA.t y23,CA.t y24,CA.t y25])]++Rz 82,[]⟩
def f69_M (x0 x1 x2 x3:TV):Prg TV :=
 chk (TV.isAgg x0 1) (
 chk (TV.isAgg x1 21) (
 tv (plen (.slice 97) (cell x1 0)) fun v0 =>
 tv (pbin (.int .i64) .geq v0 (I 32)) fun v1 =>
 Prg.ite (asBool v1) (
 call 80 [agg [cell x1 0,cell x1 1,cell x1 2,cell x1 3,cell x1 4,cell x1 5,cell x1 6,cell x1 7,cell x1 8,cell x1 9,cell x1 10,cell x1 11,cell x1 12,cell x1 13,cell x1 14,cell x1 15,cell x1 16,cell x1 17,cell x1 18,cell x1 19,cell x1 20],I 5,W 0] fun v2 =>
 chk (Bool.and (TV.isAgg v2 21) (ab z68 (cellsL true v2) 0)) (
 ret (agg [cell v2 0,cell v2 1,cell v2 2,cell v2 3,cell v2 4,cell v2 5,cell v2 6,cell v2 7,cell v2 8,cell v2 9,cell v2 10,cell v2 11,cell v2 12,cell v2 13,cell v2 14,cell v2 15,cell v2 16,cell v2 17,cell v2 18,cell v2 19,cell v2 20]))) (
 tv (plen (.slice 97) (cell x1 0)) fun v3 =>
 tv (pbin (.int .i64) .sub v3 (I 1)) fun v4 =>
 tvs (pidx 5 (cell x1 0) v4) fun e5 =>
 chk (Nat.ble 5 (List.length e5)) (
 chk true (
 jmp [0,0,1,0,1,1,1,1] (f69_0_S x2 x3 (I 0) (cell x0 0) (cell x1 0) (cell x1 1) (cell x1 2) (cell x1 3) (cell x1 4) (cell x1 5) (cell x1 6) (cell x1 7) (cell x1 8) (cell x1 9) (cell x1 10) (cell x1 11) (cell x1 12) (cell x1 13) (cell x1 14) (cell x1 15) (cell x1 16) (cell x1 17) (cell x1 18) (cell x1 19) (cell x1 20) (nth hole e5 0) (nth hole e5 1) (nth hole e5 2) (nth hole e5 3) (nth hole e5 4) (TV.lit bc)))))))
def f69_0  (x0 x1 x2 y3 y4 y5 y6 y7 y8 y9 y10 y11 y12 y13 y14 y15 y16 y17 y18 y19 y20 y21 y22 y23 y24 y25 y26 y27 y28 y29 w30:TV):Prg TV :=
 tv (plen (.slice 3) x1) fun v6 =>
 tv (pbin (.int .i64) .lss x2 v6) fun v7 =>
 Prg.ite (asBool v7) (
 tvs (pidx 1 x1 x2) fun e8 =>
 chk (Nat.blt 0 (List.length e8)) (
 tvs (pidx 1 y28 (nth hole e8 0)) fun e9 =>
 chk (Nat.blt 0 (List.length e9)) (
 rws (pelems 1 (TV.sl true 1 (chunks 1 1 [nth hole e9 0]))) fun r10 =>
 tv (papp 1 w30 (qK r10)) fun v11 =>
 tv (pbin (.int .i64) .add x2 (I 1)) fun v12 =>
 jmp [0,0,1,0,1,1,1,1] (f69_0_S x0 x1 v12 y3 y4 y5 y6 y7 y8 y9 y10 y11 y12 y13 y14 y15 y16 y17 y18 y19 y20 y21 y22 y23 y24 y25 y26 y27 y28 y29 v11)))) (
 jmp [1,1,1,1,1] (f69_1_S x0 y3 y4 y5 y6 y7 y8 y9 y10 y11 y12 y13 y14 y15 y16 y17 y18 y19 y20 y21 y22 y23 y24 w30))
def f69_1  (x0 y1 y2 y3 y4 y5 y6 y7 y8 y9 y10 y11 y12 y13 y14 y15 y16 y17 y18 y19 y20 y21 y22 w23:TV):Prg TV :=
 call 65 [agg [y1],x0,frz w23] fun v13 =>
 chk (isTup v13 2) (
 chk (Bool.and (TV.isAgg (comp v13 0) 5) (ab z96 (cellsL true (comp v13 0)) 0)) (
 chk (ab wq [comp v13 1] 0) (
 jmp [1,1,1,1,1,1] (f69_2_S y2 y3 y4 y5 y6 y7 y8 y9 y10 y11 y12 y13 y14 y15 y16 y17 y18 y19 y20 y21 y22 (cell (comp v13 0) 0) (cell (comp v13 0) 1) (cell (comp v13 0) 2) (frz (cell (comp v13 0) 3)) (cell (comp v13 0) 4)))))
def f69_2  (y0 y1 y2 y3 y4 y5 y6 y7 y8 y9 y10 y11 y12 y13 y14 y15 y16 y17 y18 y19 y20 y21 y22 y23 y24 y25:TV):Prg TV :=
 rws (pelems 5 y0) fun r14 =>
 tv (papp 5 (TV.sl true 5 (chunks 5 0 [])) r14) fun v15 =>
 rws (pelems 5 (TV.sl true 5 (chunks 5 1 [y21,y22,y23,y24,y25]))) fun r16 =>
 tv (papp 5 v15 r16) fun v17 =>
 ret (agg [v17,y1,y2,y3,y4,y5,y6,y7,y8,y9,y10,y11,y12,y13,y14,y15,y16,y17,y18,y19,y20])
theorem f69_MR (x0 x1 x2 x3:TV):ap prog 69 [x0,x1,x2,x3]=f69_M x0 x1 x2 x3:=by kernel_rfl
theorem f69_0_J  {x0 x1 x2 y3 y4 y5 y6 y7 y8 y9 y10 y11 y12 y13 y14 y15 y16 y17 y18 y19 y20 y21 y22 y23 y24 y25 y26 y27 y28 y29 w30:TV} {r:TV} (h:aa prog 69 (f69_0 x0 x1 x2 y3 y4 y5 y6 y7 y8 y9 y10 y11 y12 y13 y14 y15 y16 y17 y18 y19 y20 y21 y22 y23 y24 y25 y26 y27 y28 y29 w30) r):aa prog 69 (.jmp [0,0,1,0,1,1,1,1] (f69_0_S x0 x1 x2 y3 y4 y5 y6 y7 y8 y9 y10 y11 y12 y13 y14 y15 y16 y17 y18 y19 y20 y21 y22 y23 y24 y25 y26 y27 y28 y29 w30)) r:=aa.jmp (by kernel_rfl) h
theorem f69_1_J  {x0 y1 y2 y3 y4 y5 y6 y7 y8 y9 y10 y11 y12 y13 y14 y15 y16 y17 y18 y19 y20 y21 y22 w23:TV} {r:TV} (h:aa prog 69 (f69_1 x0 y1 y2 y3 y4 y5 y6 y7 y8 y9 y10 y11 y12 y13 y14 y15 y16 y17 y18 y19 y20 y21 y22 w23) r):aa prog 69 (.jmp [1,1,1,1,1] (f69_1_S x0 y1 y2 y3 y4 y5 y6 y7 y8 y9 y10 y11 y12 y13 y14 y15 y16 y17 y18 y19 y20 y21 y22 w23)) r:=aa.jmp (by kernel_rfl) h
theorem f69_2_J  {y0 y1 y2 y3 y4 y5 y6 y7 y8 y9 y10 y11 y12 y13 y14 y15 y16 y17 y18 y19 y20 y21 y22 y23 y24 y25:TV} {r:TV} (h:aa prog 69 (f69_2 y0 y1 y2 y3 y4 y5 y6 y7 y8 y9 y10 y11 y12 y13 y14 y15 y16 y17 y18 y19 y20 y21 y22 y23 y24 y25) r):aa prog 69 (.jmp [1,1,1,1,1,1] (f69_2_S y0 y1 y2 y3 y4 y5 y6 y7 y8 y9 y10 y11 y12 y13 y14 y15 y16 y17 y18 y19 y20 y21 y22 y23 y24 y25)) r:=aa.jmp (by kernel_rfl) h
end Go.Ab.C14

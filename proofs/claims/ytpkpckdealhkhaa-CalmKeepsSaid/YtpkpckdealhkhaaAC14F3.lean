import Derived.Test.YtpkpckdealhkhaaAC14T
import Derived.Test.YtpkpckdealhkhaaAC14Xa
import Derived.Test.YtpkpckdealhkhaaAC14Xb
import Derived.Test.YtpkpckdealhkhaaAC14Xc
set_option linter.all false
section
set_option maxRecDepth 100000
namespace Go.Ab.C14
open Go Go.Ab Go.Proofs
open Go.Ab.TV (hole cell comp isSl isSc isTup cellsL tup agg)
open Go.Ab.Prg (tv tvs rws nat chk call jmp ret)
def f70_0_S  (x0 x1 y2 y3 y4 y5 y6 y7 y8 y9 y10 y11 y12 y13 y14 y15 y16 y17 y18 y19 y20 y21 y22 y23:TV):ASt:=⟨[Jk,Jk,AV.tv x0,Pt 0,Pt 1,Jk,Pt 2,AV.tv x1]++Rj 77,[Ct y2,some (BC.cells [CA.t y3,CA.t y4,CA.t y5,CA.t y6,CA.t y7,CA.t y8,CA.t y9,CA.t y10,CA.t y11,CA.t y12,CA.t y13,CA.t y14,CA.t y15,CA.t y16,CA.t y17,CA.t y18,CA.t y19,CA.t y20,CA.t y21,CA.t y22,CA.t y23]),some (BC.cells [CA.junk,CA.junk,CA.junk,CA.junk,CA.junk,CA.junk,CA.junk,CA.junk,CA.junk,CA.junk,CA.junk,CA.junk,CA.junk,CA.junk,CA.junk,CA.junk,CA.junk,CA.junk,CA.junk,CA.junk,CA.junk])]++Rz 106,[]⟩
def f70_1_S  (x0 x1 y2 y3 y4 y5 y6 y7 y8 y9 y10 y11 y12 y13 y14 y15 y16 y17 y18 y19 y20 y21 y22 y23:TV):ASt:=⟨[Jk,Jk,AV.tv x0,Pt 0,Pt 1,Jk,Pt 2,Jk,AV.tv x1]++Rj 76,[Ct y2,some (BC.cells [CA.t y3,CA.t y4,CA.t y5,CA.t y6,CA.t y7,CA.t y8,CA.t y9,CA.t y10,CA.t y11,CA.t y12,CA.t y13,CA.t y14,CA.t y15,CA.t y16,CA.t y17,CA.t y18,CA.t y19,CA.t y20,CA.t y21,CA.t y22,CA.t y23]),some (BC.cells [CA.junk,CA.junk,CA.junk,CA.junk,CA.junk,CA.junk,CA.junk,CA.junk,CA.junk,CA.junk,CA.junk,CA.junk,CA.junk,CA.junk,CA.junk,CA.junk,CA.junk,CA.junk,CA.junk,CA.junk,CA.junk])]++Rz 106,[]⟩
def f70_2_S  (x0 y1 y2 y3 y4 y5 y6 y7 y8 y9 y10 y11 y12 y13 y14 y15 y16 y17 y18 y19 y20 y21:TV):ASt:=⟨[Jk,Jk,AV.tv x0,Jk,Pt 0,Jk,Pt 1]++Rj 78,[some (BC.cells [CA.t y1,CA.t y2,CA.t y3,CA.t y4,CA.t y5,CA.t y6,CA.t y7,CA.t y8,CA.t y9,CA.t y10,CA.t y11,CA.t y12,CA.t y13,CA.t y14,CA.t y15,CA.t y16,CA.t y17,CA.t y18,CA.t y19,CA.t y20,CA.t y21]),some (BC.cells [CA.junk,CA.junk,CA.junk,CA.junk,CA.junk,CA.junk,CA.junk,CA.junk,CA.junk,CA.junk,CA.junk,CA.junk,CA.junk,CA.junk,CA.junk,CA.junk,CA.junk,CA.junk,CA.junk,CA.junk,CA.junk])]++Rz 107,[]⟩
def f70_3_S  (x0 x1 y2 y3 y4 y5 y6 y7 y8 y9 y10 y11 y12 y13 y14 y15 y16 y17 y18 y19 y20 y21 y22 y23:TV):ASt:=⟨[Jk,Jk,AV.tv x0,Pt 0,Pt 1,Jk,Pt 2,Jk,AV.tv x1]++Rj 76,[Ct y2,some (BC.cells [CA.t y3,CA.t y4,CA.t y5,CA.t y6,CA.t y7,CA.t y8,CA.t y9,CA.t y10,CA.t y11,CA.t y12,CA.t y13,CA.t y14,CA.t y15,CA.t y16,CA.t y17,CA.t y18,CA.t y19,CA.t y20,CA.t y21,CA.t y22,CA.t y23]),some (BC.cells [CA.junk,CA.junk,CA.junk,CA.junk,CA.junk,CA.junk,CA.junk,CA.junk,CA.junk,CA.junk,CA.junk,CA.junk,CA.junk,CA.junk,CA.junk,CA.junk,CA.junk,CA.junk,CA.junk,CA.junk,CA.junk])]++Rz 106,[]⟩
def f70_M (x0 x1 x2:TV):Prg TV :=
 chk (TV.isAgg x0 1) (
 chk (TV.isAgg x1 21) (
 tv (plen (.slice 97) (cell x1 0)) fun v0 =>
 tv (pbin (.int .i64) .sub v0 (I 1)) fun v1 =>
 nat (aJ v1) fun n2 =>
 tv (pslice (.slice 97) 5 (cell x1 0) none (some n2)) fun v3 =>
 jmp [0,0,1,0,1,1] (f70_0_S x2 (I 0) (cell x0 0) v3 (cell x1 1) (cell x1 2) (cell x1 3) (cell x1 4) (cell x1 5) (cell x1 6) (cell x1 7) (cell x1 8) (cell x1 9) (cell x1 10) (cell x1 11) (cell x1 12) (cell x1 13) (cell x1 14) (cell x1 15) (cell x1 16) (cell x1 17) (cell x1 18) (cell x1 19) (cell x1 20))))
def f70_0  (x0 x1 y2 y3 y4 y5 y6 y7 y8 y9 y10 y11 y12 y13 y14 y15 y16 y17 y18 y19 y20 y21 y22 y23:TV):Prg TV :=
 tv (plen (.slice 97) y3) fun v4 =>
 tv (pbin (.int .i64) .lss x1 v4) fun v5 =>
 Prg.ite (asBool v5) (
 tvs (pidx 5 y3 x1) fun e6 =>
 chk (Nat.ble 5 (List.length e6)) (
 call 82 [agg [y2],agg [nth hole e6 0,nth hole e6 1,nth hole e6 2,nth hole e6 3,nth hole e6 4],x0,B false] fun v7 =>
 chk (ab am [v7] 0) (
 Prg.ite (asBool v7) (
 tv (plen (.slice 97) y3) fun v8 =>
 tv (pbin (.int .i64) .sub v8 (I 1)) fun v9 =>
 jmp [0,0,0,1,0,1,0,0,1,0,0,1,0,1,1] (f70_1_S x0 v9 y2 y3 y4 y5 y6 y7 y8 y9 y10 y11 y12 y13 y14 y15 y16 y17 y18 y19 y20 y21 y22 y23)) (
 tv (pbin (.int .i64) .add x1 (I 1)) fun v10 =>
 jmp [0,0,1,0,1,1] (f70_0_S x0 v10 y2 y3 y4 y5 y6 y7 y8 y9 y10 y11 y12 y13 y14 y15 y16 y17 y18 y19 y20 y21 y22 y23))))) (
 jmp [1,1,1] (f70_2_S x0 y3 y4 y5 y6 y7 y8 y9 y10 y11 y12 y13 y14 y15 y16 y17 y18 y19 y20 y21 y22 y23))
def f70_1  (x0 x1 y2 y3 y4 y5 y6 y7 y8 y9 y10 y11 y12 y13 y14 y15 y16 y17 y18 y19 y20 y21 y22 y23:TV):Prg TV :=
 tvs (pidx 5 y3 x1) fun e11 =>
 chk (Nat.ble 5 (List.length e11)) (
 call 82 [agg [y2],agg [nth hole e11 0,nth hole e11 1,nth hole e11 2,nth hole e11 3,nth hole e11 4],x0,B true] fun v12 =>
 chk (ab am [v12] 0) (
 tv (pun .not v12) fun v13 =>
 Prg.ite (asBool v13) (
 tv (pbin (.int .i64) .sub x1 (I 1)) fun v14 =>
 jmp [0,0,0,1,0,1,0,0,1,0,0,1,0,1,1] (f70_1_S x0 v14 y2 y3 y4 y5 y6 y7 y8 y9 y10 y11 y12 y13 y14 y15 y16 y17 y18 y19 y20 y21 y22 y23)) (
 jmp [1,1,0,1,0,0,1,0,0,1,0,1,1] (f70_3_S x0 x1 y2 y3 y4 y5 y6 y7 y8 y9 y10 y11 y12 y13 y14 y15 y16 y17 y18 y19 y20 y21 y22 y23))))
def f70_2  (x0 y1 y2 y3 y4 y5 y6 y7 y8 y9 y10 y11 y12 y13 y14 y15 y16 y17 y18 y19 y20 y21:TV):Prg TV :=
 call 80 [agg [y1,y2,y3,y4,y5,y6,y7,y8,y9,y10,y11,y12,y13,y14,y15,y16,y17,y18,y19,y20,y21],I 2,x0] fun v15 =>
 chk (Bool.and (TV.isAgg v15 21) (ab z68 (cellsL true v15) 0)) (
 ret (agg [cell v15 0,cell v15 1,cell v15 2,cell v15 3,cell v15 4,cell v15 5,cell v15 6,cell v15 7,cell v15 8,cell v15 9,cell v15 10,cell v15 11,cell v15 12,cell v15 13,cell v15 14,cell v15 15,cell v15 16,cell v15 17,cell v15 18,cell v15 19,cell v15 20]))
def f70_3  (x0 x1 y2 y3 y4 y5 y6 y7 y8 y9 y10 y11 y12 y13 y14 y15 y16 y17 y18 y19 y20 y21 y22 y23:TV):Prg TV :=
 tv (pbin (.int .i64) .add x1 (I 1)) fun v16 =>
 nat (aJ v16) fun n17 =>
 tv (pslice (.slice 97) 5 y3 none (some n17)) fun v18 =>
 tvs (pidx 5 v18 x1) fun e19 =>
 chk (Nat.ble 5 (List.length e19)) (
 tvs (pidx 3 y2 (nth hole e19 0)) fun e20 =>
 chk (Nat.blt 2 (List.length e20)) (
 tvs (pidx 14 (nth hole e20 2) (nth hole e19 1)) fun e21 =>
 chk (Nat.blt 13 (List.length e21)) (
 call 83 [agg [y2],agg [nth hole e19 0,nth hole e19 1,nth hole e19 2,nth hole e19 3,nth hole e19 4],nth hole e21 13,x0] fun v22 =>
 chk (isTup v22 2) (
 chk (Bool.and (TV.isAgg (comp v22 0) 5) (ab z96 (cellsL true (comp v22 0)) 0)) (
 chk (ab wq [comp v22 1] 0) (
 call 71 [agg [v18,y4,y5,y6,y7,y8,y9,y10,y11,y12,y13,y14,y15,y16,y17,y18,y19,y20,y21,y22,y23],agg [cell (comp v22 0) 0,cell (comp v22 0) 1,cell (comp v22 0) 2,frz (cell (comp v22 0) 3),cell (comp v22 0) 4]] fun v23 =>
 chk (Bool.and (TV.isAgg v23 21) (ab z68 (cellsL true v23) 0)) (
 ret (agg [cell v23 0,cell v23 1,cell v23 2,cell v23 3,cell v23 4,cell v23 5,cell v23 6,cell v23 7,cell v23 8,cell v23 9,cell v23 10,cell v23 11,cell v23 12,cell v23 13,cell v23 14,cell v23 15,cell v23 16,cell v23 17,cell v23 18,cell v23 19,cell v23 20]))))))))
theorem f70_MR (x0 x1 x2:TV):ap prog 70 [x0,x1,x2]=f70_M x0 x1 x2:=by kernel_rfl
theorem f70_0_J  {x0 x1 y2 y3 y4 y5 y6 y7 y8 y9 y10 y11 y12 y13 y14 y15 y16 y17 y18 y19 y20 y21 y22 y23:TV} {r:TV} (h:aa prog 70 (f70_0 x0 x1 y2 y3 y4 y5 y6 y7 y8 y9 y10 y11 y12 y13 y14 y15 y16 y17 y18 y19 y20 y21 y22 y23) r):aa prog 70 (.jmp [0,0,1,0,1,1] (f70_0_S x0 x1 y2 y3 y4 y5 y6 y7 y8 y9 y10 y11 y12 y13 y14 y15 y16 y17 y18 y19 y20 y21 y22 y23)) r:=aa.jmp (by kernel_rfl) h
theorem f70_1_J  {x0 x1 y2 y3 y4 y5 y6 y7 y8 y9 y10 y11 y12 y13 y14 y15 y16 y17 y18 y19 y20 y21 y22 y23:TV} {r:TV} (h:aa prog 70 (f70_1 x0 x1 y2 y3 y4 y5 y6 y7 y8 y9 y10 y11 y12 y13 y14 y15 y16 y17 y18 y19 y20 y21 y22 y23) r):aa prog 70 (.jmp [0,0,0,1,0,1,0,0,1,0,0,1,0,1,1] (f70_1_S x0 x1 y2 y3 y4 y5 y6 y7 y8 y9 y10 y11 y12 y13 y14 y15 y16 y17 y18 y19 y20 y21 y22 y23)) r:=aa.jmp (by kernel_rfl) h
theorem f70_2_J  {x0 y1 y2 y3 y4 y5 y6 y7 y8 y9 y10 y11 y12 y13 y14 y15 y16 y17 y18 y19 y20 y21:TV} {r:TV} (h:aa prog 70 (f70_2 x0 y1 y2 y3 y4 y5 y6 y7 y8 y9 y10 y11 y12 y13 y14 y15 y16 y17 y18 y19 y20 y21) r):aa prog 70 (.jmp [1,1,1] (f70_2_S x0 y1 y2 y3 y4 y5 y6 y7 y8 y9 y10 y11 y12 y13 y14 y15 y16 y17 y18 y19 y20 y21)) r:=aa.jmp (by kernel_rfl) h
theorem f70_3_J  {x0 x1 y2 y3 y4 y5 y6 y7 y8 y9 y10 y11 y12 y13 y14 y15 y16 y17 y18 y19 y20 y21 y22 y23:TV} {r:TV} (h:aa prog 70 (f70_3 x0 x1 y2 y3 y4 y5 y6 y7 y8 y9 y10 y11 y12 y13 y14 y15 y16 y17 y18 y19 y20 y21 y22 y23) r):aa prog 70 (.jmp [1,1,0,1,0,0,1,0,0,1,0,1,1] (f70_3_S x0 x1 y2 y3 y4 y5 y6 y7 y8 y9 y10 y11 y12 y13 y14 y15 y16 y17 y18 y19 y20 y21 y22 y23)) r:=aa.jmp (by kernel_rfl) h
def f71_M (x0 x1:TV):Prg TV :=
 chk (TV.isAgg x0 21) (
 chk (TV.isAgg x1 5) (
 tv (plen (.slice 97) (cell x0 0)) fun v0 =>
 tv (pbin (.int .i64) .sub v0 (I 1)) fun v1 =>
 nat (aJ v1) fun n2 =>
 tv (pslice (.slice 97) 5 (cell x0 0) none (some n2)) fun v3 =>
 rws (pelems 5 v3) fun r4 =>
 tv (papp 5 (TV.sl true 5 (chunks 5 0 [])) r4) fun v5 =>
 rws (pelems 5 (TV.sl true 5 (chunks 5 1 [cell x1 0,cell x1 1,cell x1 2,cell x1 3,cell x1 4]))) fun r6 =>
 tv (papp 5 v5 r6) fun v7 =>
 ret (agg [v7,cell x0 1,cell x0 2,cell x0 3,cell x0 4,cell x0 5,cell x0 6,cell x0 7,cell x0 8,cell x0 9,cell x0 10,cell x0 11,cell x0 12,cell x0 13,cell x0 14,cell x0 15,cell x0 16,cell x0 17,cell x0 18,cell x0 19,cell x0 20])))
theorem f71_MR (x0 x1:TV):ap prog 71 [x0,x1]=f71_M x0 x1:=by kernel_rfl
def f72_M (x0 x1 x2:TV):Prg TV :=
 chk (TV.isAgg x0 4) (
 tv (pun .not x1) fun v0 =>
 Prg.ite (asBool v0) (
 tv (pbin (.int .i64) .eql x2 (I 0)) fun v1 =>
 ret v1) (
 tv (pbin (.int .i64) .leq (I 0) x2) fun v2 =>
 Prg.ite (asBool v2) (
 tv (pbin (.int .i64) .lss x2 (cell x0 2)) fun v3 =>
 ret v3) (
 ret (B false))))
theorem f72_MR (x0 x1 x2:TV):ap prog 72 [x0,x1,x2]=f72_M x0 x1 x2:=by kernel_rfl
def f73_0_S  (x0 x1 x2 x3:TV):ASt:=⟨[AV.tv x0]++Rj 4 ++ [AV.tv x1,AV.tv x2,AV.tv x3]++Rj 10,Rz 42,[]⟩
def f73_M (x0:TV):Prg TV :=
 tv (plen (.slice 53) x0) fun v0 =>
 jmp [0,0,1,0,1] (f73_0_S x0 x0 v0 (I 0))
def f73_0  (x0 x1 x2 x3:TV):Prg TV :=
 tv (pbin (.int .i64) .lss x3 x2) fun v1 =>
 Prg.ite (asBool v1) (
 tvs (pidx 1 x1 x3) fun e2 =>
 chk (Nat.blt 0 (List.length e2)) (
 nat (aJ x3) fun n3 =>
 tv (pslice (.slice 53) 1 x0 none (some n3)) fun v4 =>
 call 84 [v4,nth hole e2 0] fun v5 =>
 chk (ab am [v5] 0) (
 Prg.ite (asBool v5) (
 ret (B false)) (
 tv (pbin (.int .i64) .add x3 (I 1)) fun v6 =>
 jmp [0,0,1,0,1] (f73_0_S x0 x1 x2 v6))))) (
 ret (B true))
theorem f73_MR (x0:TV):ap prog 73 [x0]=f73_M x0:=by kernel_rfl
theorem f73_0_J  {x0 x1 x2 x3:TV} {r:TV} (h:aa prog 73 (f73_0 x0 x1 x2 x3) r):aa prog 73 (.jmp [0,0,1,0,1] (f73_0_S x0 x1 x2 x3)) r:=aa.jmp (by kernel_rfl) h
def f74_M (x0:TV):Prg TV :=
 tv (pbin (.int .i64) .eql x0 (I 1)) fun v0 =>
 Prg.ite (asBool v0) (
 ret (I 19)) (
 tv (pbin (.int .i64) .eql x0 (I 2)) fun v1 =>
 Prg.ite (asBool v1) (
 Prg.ite (asBool v1) (
 ret (I 7)) (
 tv (pbin (.int .i64) .eql x0 (I 3)) fun v2 =>
 Prg.ite (asBool v2) (
 Prg.ite (asBool v2) (
 ret (I 15)) (
 tv (pbin (.int .i64) .eql x0 (I 10)) fun v3 =>
 Prg.ite (asBool v3) (
 ret (I 13)) (
 tv (pbin (.int .i64) .eql x0 (I 11)) fun v4 =>
 Prg.ite (asBool v4) (
 ret (I 35)) (
 tv (pbin (.int .i64) .eql x0 (I 12)) fun v5 =>
 Prg.ite (asBool v5) (
 ret (I 5)) (
 tv (pbin (.int .i64) .eql x0 (I 13)) fun v6 =>
 Prg.ite (asBool v6) (
 ret (I 3)) (
 ret (I 0))))))) (
 tv (pbin (.int .i64) .eql x0 (I 4)) fun v7 =>
 Prg.ite (asBool v7) (
 Prg.ite (asBool v7) (
 ret (I 15)) (
 tv (pbin (.int .i64) .eql x0 (I 10)) fun v8 =>
 Prg.ite (asBool v8) (
 ret (I 13)) (
 tv (pbin (.int .i64) .eql x0 (I 11)) fun v9 =>
 Prg.ite (asBool v9) (
 ret (I 35)) (
 tv (pbin (.int .i64) .eql x0 (I 12)) fun v10 =>
 Prg.ite (asBool v10) (
 ret (I 5)) (
 tv (pbin (.int .i64) .eql x0 (I 13)) fun v11 =>
 Prg.ite (asBool v11) (
 ret (I 3)) (
 ret (I 0))))))) (
 tv (pbin (.int .i64) .eql x0 (I 5)) fun v12 =>
 Prg.ite (asBool v12) (
 Prg.ite (asBool v12) (
 ret (I 15)) (
 tv (pbin (.int .i64) .eql x0 (I 10)) fun v13 =>
 Prg.ite (asBool v13) (
 ret (I 13)) (
 tv (pbin (.int .i64) .eql x0 (I 11)) fun v14 =>
 Prg.ite (asBool v14) (
 ret (I 35)) (
 tv (pbin (.int .i64) .eql x0 (I 12)) fun v15 =>
 Prg.ite (asBool v15) (
 ret (I 5)) (
 tv (pbin (.int .i64) .eql x0 (I 13)) fun v16 =>
 Prg.ite (asBool v16) (
 ret (I 3)) (
 ret (I 0))))))) (
 tv (pbin (.int .i64) .eql x0 (I 6)) fun v17 =>
 Prg.ite (asBool v17) (
 Prg.ite (asBool v17) (
 ret (I 15)) (
 tv (pbin (.int .i64) .eql x0 (I 10)) fun v18 =>
 Prg.ite (asBool v18) (
 ret (I 13)) (
 tv (pbin (.int .i64) .eql x0 (I 11)) fun v19 =>
 Prg.ite (asBool v19) (
 ret (I 35)) (
 tv (pbin (.int .i64) .eql x0 (I 12)) fun v20 =>
 Prg.ite (asBool v20) (
 ret (I 5)) (
 tv (pbin (.int .i64) .eql x0 (I 13)) fun v21 =>
 Prg.ite (asBool v21) (
 ret (I 3)) (
 ret (I 0))))))) (
 tv (pbin (.int .i64) .eql x0 (I 7)) fun v22 =>
 Prg.ite (asBool v22) (
 Prg.ite (asBool v22) (
 ret (I 15)) (
 tv (pbin (.int .i64) .eql x0 (I 10)) fun v23 =>
 Prg.ite (asBool v23) (
 ret (I 13)) (
 tv (pbin (.int .i64) .eql x0 (I 11)) fun v24 =>
 Prg.ite (asBool v24) (
 ret (I 35)) (
 tv (pbin (.int .i64) .eql x0 (I 12)) fun v25 =>
 Prg.ite (asBool v25) (
 ret (I 5)) (
 tv (pbin (.int .i64) .eql x0 (I 13)) fun v26 =>
 Prg.ite (asBool v26) (
 ret (I 3)) (
 ret (I 0))))))) (
 tv (pbin (.int .i64) .eql x0 (I 8)) fun v27 =>
 Prg.ite (asBool v27) (
 ret (I 15)) (
 tv (pbin (.int .i64) .eql x0 (I 10)) fun v28 =>
 Prg.ite (asBool v28) (
 ret (I 13)) (
 tv (pbin (.int .i64) .eql x0 (I 11)) fun v29 =>
 Prg.ite (asBool v29) (
 ret (I 35)) (
 tv (pbin (.int .i64) .eql x0 (I 12)) fun v30 =>
 Prg.ite (asBool v30) (
 ret (I 5)) (
 tv (pbin (.int .i64) .eql x0 (I 13)) fun v31 =>
 Prg.ite (asBool v31) (
 ret (I 3)) (
 ret (I 0))))))))))))) (
 tv (pbin (.int .i64) .eql x0 (I 9)) fun v32 =>
 Prg.ite (asBool v32) (
 ret (I 7)) (
 tv (pbin (.int .i64) .eql x0 (I 3)) fun v33 =>
 Prg.ite (asBool v33) (
 Prg.ite (asBool v33) (
 ret (I 15)) (
 tv (pbin (.int .i64) .eql x0 (I 10)) fun v34 =>
 Prg.ite (asBool v34) (
 ret (I 13)) (
 tv (pbin (.int .i64) .eql x0 (I 11)) fun v35 =>
 Prg.ite (asBool v35) (
 ret (I 35)) (
 tv (pbin (.int .i64) .eql x0 (I 12)) fun v36 =>
 Prg.ite (asBool v36) (
 ret (I 5)) (
 tv (pbin (.int .i64) .eql x0 (I 13)) fun v37 =>
 Prg.ite (asBool v37) (
 ret (I 3)) (
 ret (I 0))))))) (
 tv (pbin (.int .i64) .eql x0 (I 4)) fun v38 =>
 Prg.ite (asBool v38) (
 Prg.ite (asBool v38) (
 ret (I 15)) (
 tv (pbin (.int .i64) .eql x0 (I 10)) fun v39 =>
 Prg.ite (asBool v39) (
 ret (I 13)) (
 tv (pbin (.int .i64) .eql x0 (I 11)) fun v40 =>
 Prg.ite (asBool v40) (
 ret (I 35)) (
 tv (pbin (.int .i64) .eql x0 (I 12)) fun v41 =>
 Prg.ite (asBool v41) (
 ret (I 5)) (
 tv (pbin (.int .i64) .eql x0 (I 13)) fun v42 =>
 Prg.ite (asBool v42) (
 ret (I 3)) (
 ret (I 0))))))) (
 tv (pbin (.int .i64) .eql x0 (I 5)) fun v43 =>
 Prg.ite (asBool v43) (
 Prg.ite (asBool v43) (
 ret (I 15)) (
 tv (pbin (.int .i64) .eql x0 (I 10)) fun v44 =>
 Prg.ite (asBool v44) (
 ret (I 13)) (
 tv (pbin (.int .i64) .eql x0 (I 11)) fun v45 =>
 Prg.ite (asBool v45) (
 ret (I 35)) (
 tv (pbin (.int .i64) .eql x0 (I 12)) fun v46 =>
 Prg.ite (asBool v46) (
 ret (I 5)) (
 tv (pbin (.int .i64) .eql x0 (I 13)) fun v47 =>
 Prg.ite (asBool v47) (
 ret (I 3)) (
 ret (I 0))))))) (
 tv (pbin (.int .i64) .eql x0 (I 6)) fun v48 =>
 Prg.ite (asBool v48) (
 Prg.ite (asBool v48) (
 ret (I 15)) (
 tv (pbin (.int .i64) .eql x0 (I 10)) fun v49 =>
 Prg.ite (asBool v49) (
 ret (I 13)) (
 tv (pbin (.int .i64) .eql x0 (I 11)) fun v50 =>
 Prg.ite (asBool v50) (
 ret (I 35)) (
 tv (pbin (.int .i64) .eql x0 (I 12)) fun v51 =>
 Prg.ite (asBool v51) (
 ret (I 5)) (
 tv (pbin (.int .i64) .eql x0 (I 13)) fun v52 =>
 Prg.ite (asBool v52) (
 ret (I 3)) (
 ret (I 0))))))) (
 tv (pbin (.int .i64) .eql x0 (I 7)) fun v53 =>
 Prg.ite (asBool v53) (
 Prg.ite (asBool v53) (
 ret (I 15)) (
 tv (pbin (.int .i64) .eql x0 (I 10)) fun v54 =>
 Prg.ite (asBool v54) (
 ret (I 13)) (
 tv (pbin (.int .i64) .eql x0 (I 11)) fun v55 =>
 Prg.ite (asBool v55) (
 ret (I 35)) (
 tv (pbin (.int .i64) .eql x0 (I 12)) fun v56 =>
 Prg.ite (asBool v56) (
 ret (I 5)) (
 tv (pbin (.int .i64) .eql x0 (I 13)) fun v57 =>
 Prg.ite (asBool v57) (
 ret (I 3)) (
 ret (I 0))))))) (
 tv (pbin (.int .i64) .eql x0 (I 8)) fun v58 =>
 Prg.ite (asBool v58) (
 ret (I 15)) (
 tv (pbin (.int .i64) .eql x0 (I 10)) fun v59 =>
 Prg.ite (asBool v59) (
 ret (I 13)) (
 tv (pbin (.int .i64) .eql x0 (I 11)) fun v60 =>
 Prg.ite (asBool v60) (
 ret (I 35)) (
 tv (pbin (.int .i64) .eql x0 (I 12)) fun v61 =>
 Prg.ite (asBool v61) (
 ret (I 5)) (
 tv (pbin (.int .i64) .eql x0 (I 13)) fun v62 =>
 Prg.ite (asBool v62) (
 ret (I 3)) (
 ret (I 0))))))))))))))
theorem f74_MR (x0:TV):ap prog 74 [x0]=f74_M x0:=by kernel_rfl
def f75_M (x0 x1:TV):Prg TV :=
 tv (pbin (.int .i64) .and x0 x1) fun v0 =>
 tv (pbin (.int .i64) .neq v0 (I 0)) fun v1 =>
 ret v1
theorem f75_MR (x0 x1:TV):ap prog 75 [x0,x1]=f75_M x0 x1:=by kernel_rfl
def f76_0_S  (x0 x1 x2 y3 y4 y5 y6:TV):ASt:=⟨Rj 4 ++ [Pt 0]++Rj 35 ++ [AV.tv x0,AV.tv x1,AV.tv x2]++Rj 8,[some (BC.cells [CA.t y3,CA.t y4,CA.t y5,CA.t y6])]++Rz 74,[]⟩
def f76_M (x0 x1 x2 x3:TV):Prg TV :=
 chk (TV.isAgg x0 4) (
 tv (pun .not x1) fun v0 =>
 Prg.ite (asBool v0) (
 tv (pbin (.int .i64) .eql x2 (I 0)) fun v1 =>
 Prg.ite (asBool v1) (
 tv (plen (.slice 3) x3) fun v2 =>
 tv (pbin (.int .i64) .eql v2 (I 0)) fun v3 =>
 ret v3) (
 ret (B false))) (
 tv (pbin (.int .i64) .lss x2 (I 0)) fun v4 =>
 Prg.ite (asBool v4) (
 ret (B false)) (
 tv (plen (.slice 40) (cell x0 0)) fun v5 =>
 tv (pbin (.int .i64) .geq x2 v5) fun v6 =>
 Prg.ite (asBool v6) (
 ret (B false)) (
 tv (plen (.slice 3) x3) fun v7 =>
 tvs (pidx 3 (cell x0 0) x2) fun e8 =>
 chk (Nat.blt 0 (List.length e8)) (
 tv (pbin (.int .i64) .neq v7 (nth hole e8 0)) fun v9 =>
 Prg.ite (asBool v9) (
 ret (B false)) (
 tv (plen (.slice 3) x3) fun v10 =>
 jmp [0,0,1,0,1,1,1] (f76_0_S x3 v10 (I 0) (cell x0 0) (cell x0 1) (cell x0 2) (cell x0 3))))))))
def f76_0  (x0 x1 x2 y3 y4 y5 y6:TV):Prg TV :=
 tv (pbin (.int .i64) .lss x2 x1) fun v11 =>
 Prg.ite (asBool v11) (
 tvs (pidx 1 x0 x2) fun e12 =>
 chk (Nat.blt 0 (List.length e12)) (
 call 72 [agg [y3,y4,y5,y6],B true,nth hole e12 0] fun v13 =>
 chk (ab am [v13] 0) (
 tv (pun .not v13) fun v14 =>
 Prg.ite (asBool v14) (
 ret (B false)) (
 tv (pbin (.int .i64) .add x2 (I 1)) fun v15 =>
 jmp [0,0,1,0,1,1,1] (f76_0_S x0 x1 v15 y3 y4 y5 y6))))) (
 ret (B true))
theorem f76_MR (x0 x1 x2 x3:TV):ap prog 76 [x0,x1,x2,x3]=f76_M x0 x1 x2 x3:=by kernel_rfl
theorem f76_0_J  {x0 x1 x2 y3 y4 y5 y6:TV} {r:TV} (h:aa prog 76 (f76_0 x0 x1 x2 y3 y4 y5 y6) r):aa prog 76 (.jmp [0,0,1,0,1,1,1] (f76_0_S x0 x1 x2 y3 y4 y5 y6)) r:=aa.jmp (by kernel_rfl) h
def f77_M (x0:TV):Prg TV :=
 tv (pbin (.int .i64) .eql x0 (I 1)) fun v0 =>
 Prg.ite (asBool v0) (
 Prg.ite (asBool v0) (
 ret (I 5)) (
 tv (pbin (.int .i64) .eql x0 (I 2)) fun v1 =>
 Prg.ite (asBool v1) (
 ret (I 65)) (
 tv (pbin (.int .i64) .eql x0 (I 3)) fun v2 =>
 Prg.ite (asBool v2) (
 ret (I 197)) (
 tv (pbin (.int .i64) .eql x0 (I 4)) fun v3 =>
 Prg.ite (asBool v3) (
 ret (I 355)) (
 tv (pbin (.int .i64) .eql x0 (I 6)) fun v4 =>
 Prg.ite (asBool v4) (
 ret (I 1)) (
 ret (I 0))))))) (
 tv (pbin (.int .i64) .eql x0 (I 5)) fun v5 =>
 Prg.ite (asBool v5) (
 ret (I 5)) (
 tv (pbin (.int .i64) .eql x0 (I 2)) fun v6 =>
 Prg.ite (asBool v6) (
 ret (I 65)) (
 tv (pbin (.int .i64) .eql x0 (I 3)) fun v7 =>
 Prg.ite (asBool v7) (
 ret (I 197)) (
 tv (pbin (.int .i64) .eql x0 (I 4)) fun v8 =>
 Prg.ite (asBool v8) (
 ret (I 355)) (
 tv (pbin (.int .i64) .eql x0 (I 6)) fun v9 =>
 Prg.ite (asBool v9) (
 ret (I 1)) (
 ret (I 0)))))))
theorem f77_MR (x0:TV):ap prog 77 [x0]=f77_M x0:=by kernel_rfl
def f78_M (x0 x1 x2 x3:TV):Prg TV :=
 chk (TV.isAgg x0 4) (
 tv (pun .not x1) fun v0 =>
 Prg.ite (asBool v0) (
 tv (pbin (.int .i64) .eql x2 (I 0)) fun v1 =>
 ret v1) (
 tv (pbin (.int .i64) .leq (I 0) x2) fun v2 =>
 Prg.ite (asBool v2) (
 tv (plen (.slice 48) (cell x0 3)) fun v3 =>
 tv (pbin (.int .i64) .lss x2 v3) fun v4 =>
 Prg.ite (asBool v4) (
 tvs (pidx 14 (cell x0 3) x2) fun e5 =>
 chk (Nat.blt 0 (List.length e5)) (
 tv (pbin Kd.bool .eql (nth hole e5 0) x3) fun v6 =>
 ret v6)) (
 ret (B false))) (
 ret (B false))))
theorem f78_MR (x0 x1 x2 x3:TV):ap prog 78 [x0,x1,x2,x3]=f78_M x0 x1 x2 x3:=by kernel_rfl
def f79_0_S  (x0 x1 y2 y3 y4 y5 y6 y7 y8 y9 y10 y11 y12 y13:TV):ASt:=⟨[Jk,Jk,Pt 0,Pt 1,Pt 2,Jk,Jk,AV.tv x0]++Rj 43 ++ [AV.tv x1]++Rj 33,[some (BC.cells [CA.t y2,CA.t y3,CA.t y4,CA.t y5,CA.t y6]),some (BC.cells [CA.t y7,CA.t y8,CA.t y9,CA.t y10,CA.t y11,CA.t y12,CA.t y13]),some (BC.cells [CA.junk,CA.junk,CA.junk,CA.junk,CA.junk])]++Rz 106,[]⟩
def f79_1_S  (x0 y1 y2 y3 y4 y5 y6 y7 y8 y9 y10 y11 y12:TV):ASt:=⟨[Jk,Jk,Pt 0,Pt 1,Pt 2,Jk,AV.tv x0]++Rj 78,[some (BC.cells [CA.t y1,CA.t y2,CA.t y3,CA.t y4,CA.t y5]),some (BC.cells [CA.t y6,CA.t y7,CA.t y8,CA.t y9,CA.t y10,CA.t y11,CA.t y12]),some (BC.cells [CA.junk,CA.junk,CA.junk,CA.junk,CA.junk])]++Rz 106,[]⟩
def f79_2_S  (x0 y1 y2 y3 y4 y5 y6 y7 y8 y9 y10 y11 y12:TV):ASt:=⟨[Jk,Jk,Pt 0,Pt 1,Pt 2,Jk,Jk,AV.tv x0]++Rj 77,[some (BC.cells [CA.t y1,CA.t y2,CA.t y3,CA.t y4,CA.t y5]),some (BC.cells [CA.t y6,CA.t y7,CA.t y8,CA.t y9,CA.t y10,CA.t y11,CA.t y12]),some (BC.cells [CA.junk,CA.junk,CA.junk,CA.junk,CA.junk])]++Rz 106,[]⟩
def f79_M (x0 x1:TV):Prg TV :=
 chk (TV.isAgg x0 5) (
 chk (TV.isAgg x1 7) (
 call 85 [agg [cell x0 0,cell x0 1,cell x0 2,cell x0 3,cell x0 4],cell x1 1] fun v0 =>
 chk (ab am [v0] 0) (
 tv (pun .not v0) fun v1 =>
 Prg.ite (asBool v1) (
 ret (tup [agg [cell x0 0,cell x0 1,cell x0 2,cell x0 3,cell x0 4],B false])) (
 tv (pbin (.int .i64) .lss (cell x1 0) (I 1)) fun v2 =>
 Prg.ite (asBool v2) (
 ret (tup [agg [cell x0 0,cell x0 1,cell x0 2,cell x0 3,cell x0 4],B false])) (
 tv (pbin (.int .i64) .gtr (cell x1 0) (I 8)) fun v3 =>
 Prg.ite (asBool v3) (
 ret (tup [agg [cell x0 0,cell x0 1,cell x0 2,cell x0 3,cell x0 4],B false])) (
 tv (pbin (.int .i64) .gtr (cell x1 0) (I 1)) fun v4 =>
 Prg.ite (asBool v4) (
 call 85 [agg [cell x0 0,cell x0 1,cell x0 2,cell x0 3,cell x0 4],cell x1 2] fun v5 =>
 chk (ab am [v5] 0) (
 tv (pun .not v5) fun v6 =>
 Prg.ite (asBool v6) (
 ret (tup [agg [cell x0 0,cell x0 1,cell x0 2,cell x0 3,cell x0 4],B false])) (
 tv (pbin (.int .i64) .gtr (cell x1 0) (I 2)) fun v7 =>
 Prg.ite (asBool v7) (
 call 85 [agg [cell x0 0,cell x0 1,cell x0 2,cell x0 3,cell x0 4],cell x1 3] fun v8 =>
 chk (ab am [v8] 0) (
 tv (pun .not v8) fun v9 =>
 Prg.ite (asBool v9) (
 ret (tup [agg [cell x0 0,cell x0 1,cell x0 2,cell x0 3,cell x0 4],B false])) (
 tv (pbin (.int .i64) .gtr (cell x1 0) (I 2)) fun v10 =>
 jmp [1,0,1,1,0,1,0,1,1,1] (f79_0_S (W 0) v10 (cell x0 0) (cell x0 1) (cell x0 2) (cell x0 3) (cell x0 4) (cell x1 0) (cell x1 1) (cell x1 2) (cell x1 3) (cell x1 4) (cell x1 5) (cell x1 6))))) (
 tv (pbin (.int .i64) .gtr (cell x1 0) (I 2)) fun v11 =>
 jmp [1,0,1,1,0,1,0,1,1,1] (f79_0_S (W 0) v11 (cell x0 0) (cell x0 1) (cell x0 2) (cell x0 3) (cell x0 4) (cell x1 0) (cell x1 1) (cell x1 2) (cell x1 3) (cell x1 4) (cell x1 5) (cell x1 6)))))) (
 jmp [1,1,1,1] (f79_1_S (cell x1 4) (cell x0 0) (cell x0 1) (cell x0 2) (cell x0 3) (cell x0 4) (cell x1 0) (cell x1 1) (cell x1 2) (cell x1 3) (cell x1 4) (cell x1 5) (cell x1 6)))))))))
def f79_0  (x0 x1 y2 y3 y4 y5 y6 y7 y8 y9 y10 y11 y12 y13:TV):Prg TV :=
 Prg.ite (asBool x1) (
 tvs (pidx 1 y5 y10) fun e12 =>
 chk (Nat.blt 0 (List.length e12)) (
 jmp [1,1,1,0,1,0,1,1,1] (f79_2_S (nth hole e12 0) y2 y3 y4 y5 y6 y7 y8 y9 y10 y11 y12 y13))) (
 jmp [1,1,1,0,1,0,1,1,1] (f79_2_S x0 y2 y3 y4 y5 y6 y7 y8 y9 y10 y11 y12 y13))
def f79_1  (x0 y1 y2 y3 y4 y5 y6 y7 y8 y9 y10 y11 y12:TV):Prg TV :=
 call 81 [agg [y1,y2,y3,y4,y5],y7,x0] fun v13 =>
 chk (Bool.and (TV.isAgg v13 5) (ab z96 (cellsL true v13) 0)) (
 tv (pbin (.int .i64) .add (cell v13 2) (I 1)) fun v14 =>
 ret (tup [agg [cell v13 0,cell v13 1,v14,cell v13 3,cell v13 4],B true]))
def f79_2  (x0 y1 y2 y3 y4 y5 y6 y7 y8 y9 y10 y11 y12:TV):Prg TV :=
 tvs (pidx 1 y4 y8) fun e15 =>
 chk (Nat.blt 0 (List.length e15)) (
 call 86 [y6,nth hole e15 0,x0] fun v16 =>
 chk (isTup v16 2) (
 chk (ab CZ [comp v16 0] 0) (
 chk (ab am [comp v16 1] 0) (
 tv (pun .not (comp v16 1)) fun v17 =>
 Prg.ite (asBool v17) (
 ret (tup [agg [y1,y2,y3,y4,y5],B false])) (
 jmp [1,1,1,1] (f79_1_S (comp v16 0) y1 y2 y3 y4 y5 y6 y7 y8 y9 y10 y11 y12))))))
theorem f79_MR (x0 x1:TV):ap prog 79 [x0,x1]=f79_M x0 x1:=by kernel_rfl
theorem f79_0_J  {x0 x1 y2 y3 y4 y5 y6 y7 y8 y9 y10 y11 y12 y13:TV} {r:TV} (h:aa prog 79 (f79_0 x0 x1 y2 y3 y4 y5 y6 y7 y8 y9 y10 y11 y12 y13) r):aa prog 79 (.jmp [1,0,1,1,0,1,0,1,1,1] (f79_0_S x0 x1 y2 y3 y4 y5 y6 y7 y8 y9 y10 y11 y12 y13)) r:=aa.jmp (by kernel_rfl) h
theorem f79_1_J  {x0 y1 y2 y3 y4 y5 y6 y7 y8 y9 y10 y11 y12:TV} {r:TV} (h:aa prog 79 (f79_1 x0 y1 y2 y3 y4 y5 y6 y7 y8 y9 y10 y11 y12) r):aa prog 79 (.jmp [1,1,1,1] (f79_1_S x0 y1 y2 y3 y4 y5 y6 y7 y8 y9 y10 y11 y12)) r:=aa.jmp (by kernel_rfl) h
theorem f79_2_J  {x0 y1 y2 y3 y4 y5 y6 y7 y8 y9 y10 y11 y12:TV} {r:TV} (h:aa prog 79 (f79_2 x0 y1 y2 y3 y4 y5 y6 y7 y8 y9 y10 y11 y12) r):aa prog 79 (.jmp [1,1,1,0,1,0,1,1,1] (f79_2_S x0 y1 y2 y3 y4 y5 y6 y7 y8 y9 y10 y11 y12)) r:=aa.jmp (by kernel_rfl) h
def f80_M (x0 x1 x2:TV):Prg TV :=
 chk (TV.isAgg x0 21) (
 chk (TV.eS x1) (
 chk (TV.eS x2) (
 ret (agg [cell x0 0,cell x0 1,cell x0 2,cell x0 3,cell x0 4,cell x0 5,cell x0 6,cell x0 7,cell x0 8,cell x0 9,cell x0 10,cell x0 11,cell x0 12,cell x0 13,cell x0 14,cell x0 15,cell x0 16,cell x0 17,cell x0 18,x1,x2]))))
theorem f80_MR (x0 x1 x2:TV):ap prog 80 [x0,x1,x2]=f80_M x0 x1 x2:=by kernel_rfl
def f81_M (x0 x1 x2:TV):Prg TV :=
 chk (TV.isAgg x0 5) (
 rws (pelems 1 (cell x0 3)) fun r0 =>
 tv (papp 1 (TV.sl true 1 (chunks 1 0 [])) r0) fun v1 =>
 nat (slLen v1) fun n2 =>
 nat (aJ x1) fun n3 =>
 chk (Bool.and (slSize v1 1) (Nat.blt n3 n2)) (
 chk (TV.eS x2) (
 tvs (pel v1 n3) fun e4 =>
 chk (ab CZ e4 0) (
 tv (ja [] v1 n3 0 [x2]) fun v5 =>
 chk (isOwn (agg [cell x0 0,cell x0 1,cell x0 2,v5,cell x0 4])) (
 ret (agg [cell x0 0,cell x0 1,cell x0 2,v5,cell x0 4]))))))
theorem f81_MR (x0 x1 x2:TV):ap prog 81 [x0,x1,x2]=f81_M x0 x1 x2:=by kernel_rfl
def f82_M (x0 x1 x2 x3:TV):Prg TV :=
 chk (TV.isAgg x0 1) (
 chk (TV.isAgg x1 5) (
 call 66 [agg [cell x0 0],agg [cell x1 0,cell x1 1,cell x1 2,cell x1 3,cell x1 4]] fun v0 =>
 chk (isTup v0 2) (
 chk (Bool.and (TV.isAgg (comp v0 0) 14) (ab dK (cellsL true (comp v0 0)) 0)) (
 chk (ab am [comp v0 1] 0) (
 tv (pun .not (comp v0 1)) fun v1 =>
 Prg.ite (asBool v1) (
 ret (B false)) (
 tv (pbin (.int .i64) .neq (cell (comp v0 0) 6) (I 4)) fun v2 =>
 Prg.ite (asBool v2) (
 ret (B false)) (
 tvs (pidx 3 (cell x0 0) (cell x1 0)) fun e3 =>
 chk (Nat.blt 2 (List.length e3)) (
 tvs (pidx 14 (nth hole e3 2) (cell (comp v0 0) 13)) fun e4 =>
 chk (Nat.ble 5 (List.length e4)) (
 call 87 [agg [nth hole e4 1,nth hole e4 2,nth hole e4 3,nth hole e4 4],x2] fun v5 =>
 chk (ab am [v5] 0) (
 Prg.ite (asBool v5) (
 ret (B true)) (
 Prg.ite (asBool x3) (
 ret (nth hole e4 4)) (
 ret (B false)))))))))))))
theorem f82_MR (x0 x1 x2 x3:TV):ap prog 82 [x0,x1,x2,x3]=f82_M x0 x1 x2 x3:=by kernel_rfl
def f83_M (x0 x1 x2 x3:TV):Prg TV :=
 chk (TV.isAgg x0 1) (
 chk (TV.isAgg x1 5) (
 tvs (pidx 3 (cell x0 0) (cell x1 0)) fun e0 =>
 chk (Nat.ble 3 (List.length e0)) (
 tv (pbin (.int .i64) .lss x2 (I 0)) fun v1 =>
 Prg.ite (asBool v1) (
 ret (tup [agg [cell x1 0,cell x1 1,cell x1 2,cell x1 3,cell x1 4],I 1])) (
 tv (plen (.slice 48) (nth hole e0 2)) fun v2 =>
 tv (pbin (.int .i64) .geq x2 v2) fun v3 =>
 Prg.ite (asBool v3) (
 ret (tup [agg [cell x1 0,cell x1 1,cell x1 2,cell x1 3,cell x1 4],I 1])) (
 tvs (pidx 14 (nth hole e0 2) x2) fun e4 =>
 chk (Nat.blt 0 (List.length e4)) (
 tv (pun .not (nth hole e4 0)) fun v5 =>
 Prg.ite (asBool v5) (
 ret (tup [agg [cell x1 0,cell x1 1,cell x1 2,cell x1 3,cell x1 4],I 1])) (
 chk (TV.eS x2) (
 chk (TV.eS x3) (
 tvs (pidx 14 (nth hole e0 2) x2) fun e6 =>
 chk (Nat.blt 1 (List.length e6)) (
 call 81 [agg [cell x1 0,x2,I 0,cell x1 3,x3],nth hole e6 1,x3] fun v7 =>
 chk (Bool.and (TV.isAgg v7 5) (ab z96 (cellsL true v7) 0)) (
 ret (tup [agg [cell v7 0,cell v7 1,cell v7 2,cell v7 3,cell v7 4],I 0]))))))))))))
theorem f83_MR (x0 x1 x2 x3:TV):ap prog 83 [x0,x1,x2,x3]=f83_M x0 x1 x2 x3:=by kernel_rfl
def f84_M (x0 x1:TV):Prg TV :=
 call 88 [x0,x1] fun v0 =>
 chk (ab wq [v0] 0) (
 tv (pbin (.int .i64) .geq v0 (I 0)) fun v1 =>
 ret v1)
theorem f84_MR (x0 x1:TV):ap prog 84 [x0,x1]=f84_M x0 x1:=by kernel_rfl
def f85_M (x0 x1:TV):Prg TV :=
 chk (TV.isAgg x0 5) (
 tv (pbin (.int .i64) .geq x1 (I 0)) fun v0 =>
 Prg.ite (asBool v0) (
 tv (plen (.slice 53) (cell x0 3)) fun v1 =>
 tv (pbin (.int .i64) .lss x1 v1) fun v2 =>
 ret v2) (
 ret (B false)))
theorem f85_MR (x0 x1:TV):ap prog 85 [x0,x1]=f85_M x0 x1:=by kernel_rfl
def f86_0_S  (x0 x1 x2:TV):ASt:=⟨[AV.tv x0]++Rj 7 ++ [AV.tv x1,AV.tv x2]++Rj 61,Rz 95,[]⟩
def f86_1_S  (x0:TV):ASt:=⟨[AV.tv x0]++Rj 70,Rz 95,[]⟩
def f86_M (x0 x1 x2:TV):Prg TV :=
 tv (pconv (.int .u64) x1) fun v0 =>
 tv (pconv (.int .u64) x2) fun v1 =>
 tv (pbin (.int .i64) .eql x0 (I 2)) fun v2 =>
 Prg.ite (asBool v2) (
 ret (tup [x1,B true])) (
 tv (pbin (.int .i64) .eql x0 (I 3)) fun v3 =>
 Prg.ite (asBool v3) (
 tv (pbin (.int .u64) .add v0 v1) fun v4 =>
 tv (pbin (.int .u64) .rem v4 (TV.lit (Value.int IntKind.u64 (65536:Int)))) fun v5 =>
 tv (pconv (.int .u16) v5) fun v6 =>
 ret (tup [v6,B true])) (
 tv (pbin (.int .i64) .eql x0 (I 4)) fun v7 =>
 Prg.ite (asBool v7) (
 tv (pbin (.int .u64) .add v0 (TV.lit (Value.int IntKind.u64 (65536:Int)))) fun v8 =>
 tv (pbin (.int .u64) .sub v8 v1) fun v9 =>
 tv (pbin (.int .u64) .rem v9 (TV.lit (Value.int IntKind.u64 (65536:Int)))) fun v10 =>
 tv (pconv (.int .u16) v10) fun v11 =>
 ret (tup [v11,B true])) (
 tv (pbin (.int .i64) .eql x0 (I 5)) fun v12 =>
 Prg.ite (asBool v12) (
 tv (pbin (.int .u64) .mul v0 v1) fun v13 =>
 tv (pbin (.int .u64) .rem v13 (TV.lit (Value.int IntKind.u64 (65536:Int)))) fun v14 =>
 tv (pconv (.int .u16) v14) fun v15 =>
 ret (tup [v15,B true])) (
 tv (pbin (.int .i64) .eql x0 (I 6)) fun v16 =>
 Prg.ite (asBool v16) (
 tv (pbin (.int .u64) .gtr v1 (TV.lit (Value.int IntKind.u64 (0:Int)))) fun v17 =>
 Prg.ite (asBool v17) (
 tv (pbin (.int .u64) .quo v0 v1) fun v18 =>
 tv (pconv (.int .u16) v18) fun v19 =>
 ret (tup [v19,B true])) (
 jmp [1,1,1,1,1,1,1] (f86_0_S x0 v0 v1))) (
 jmp [1,1,1,1,1,1,1] (f86_0_S x0 v0 v1))))))
def f86_0  (x0 x1 x2:TV):Prg TV :=
 tv (pbin (.int .i64) .eql x0 (I 7)) fun v20 =>
 Prg.ite (asBool v20) (
 tv (pbin (.int .u64) .eql x1 x2) fun v21 =>
 Prg.ite (asBool v21) (
 ret (tup [W 1,B true])) (
 tv (pbin (.int .i64) .eql x0 (I 8)) fun v22 =>
 Prg.ite (asBool v22) (
 tv (pbin (.int .u64) .lss x1 x2) fun v23 =>
 Prg.ite (asBool v23) (
 ret (tup [W 1,B true])) (
 jmp [1,1,1,1,1,1,1,1] (f86_1_S x0))) (
 jmp [1,1,1,1,1,1,1,1] (f86_1_S x0)))) (
 tv (pbin (.int .i64) .eql x0 (I 8)) fun v24 =>
 Prg.ite (asBool v24) (
 tv (pbin (.int .u64) .lss x1 x2) fun v25 =>
 Prg.ite (asBool v25) (
 ret (tup [W 1,B true])) (
 jmp [1,1,1,1,1,1,1,1] (f86_1_S x0))) (
 jmp [1,1,1,1,1,1,1,1] (f86_1_S x0)))
def f86_1  (x0:TV):Prg TV :=
 tv (pbin (.int .i64) .eql x0 (I 7)) fun v26 =>
 Prg.ite (asBool v26) (
 ret (tup [W 0,B true])) (
 tv (pbin (.int .i64) .eql x0 (I 8)) fun v27 =>
 ret (tup [W 0,v27]))
theorem f86_MR (x0 x1 x2:TV):ap prog 86 [x0,x1,x2]=f86_M x0 x1 x2:=by kernel_rfl
theorem f86_0_J  {x0 x1 x2:TV} {r:TV} (h:aa prog 86 (f86_0 x0 x1 x2) r):aa prog 86 (.jmp [1,1,1,1,1,1,1] (f86_0_S x0 x1 x2)) r:=aa.jmp (by kernel_rfl) h
theorem f86_1_J  {x0:TV} {r:TV} (h:aa prog 86 (f86_1 x0) r):aa prog 86 (.jmp [1,1,1,1,1,1,1,1] (f86_1_S x0)) r:=aa.jmp (by kernel_rfl) h
def f87_0_S  (x0 x1 y2 y3 y4 y5:TV):ASt:=⟨[Jk,AV.tv x0,Pt 0,Jk,Jk,AV.tv x1]++Rj 16,[some (BC.cells [CA.t y2,CA.t y3,CA.t y4,CA.t y5])]++Rz 45,[]⟩
def f87_M (x0 x1:TV):Prg TV :=
 chk (TV.isAgg x0 4) (
 jmp [0,0,1,0,1] (f87_0_S x1 (I 0) (cell x0 0) (cell x0 1) (cell x0 2) (cell x0 3)))
def f87_0  (x0 x1 y2 y3 y4 y5:TV):Prg TV :=
 tv (plen (.slice 53) y3) fun v0 =>
 tv (pbin (.int .i64) .lss x1 v0) fun v1 =>
 Prg.ite (asBool v1) (
 tvs (pidx 1 y3 x1) fun e2 =>
 chk (Nat.blt 0 (List.length e2)) (
 tv (pbin (.int .u16) .eql (nth hole e2 0) x0) fun v3 =>
 Prg.ite (asBool v3) (
 ret (B true)) (
 tv (pbin (.int .i64) .add x1 (I 1)) fun v4 =>
 jmp [0,0,1,0,1] (f87_0_S x0 v4 y2 y3 y4 y5)))) (
 ret y4)
theorem f87_MR (x0 x1:TV):ap prog 87 [x0,x1]=f87_M x0 x1:=by kernel_rfl
theorem f87_0_J  {x0 x1 y2 y3 y4 y5:TV} {r:TV} (h:aa prog 87 (f87_0 x0 x1 y2 y3 y4 y5) r):aa prog 87 (.jmp [0,0,1,0,1] (f87_0_S x0 x1 y2 y3 y4 y5)) r:=aa.jmp (by kernel_rfl) h
def f88_0_S  (x0 x1 x2 x3:TV):ASt:=⟨[AV.tv x0,AV.tv x1]++Rj 5 ++ [AV.tv x2,AV.tv x3]++Rj 10,Rz 43,[]⟩
def f88_M (x0 x1:TV):Prg TV :=
 tv (plen (.slice 53) x0) fun v0 =>
 jmp [0,0,1,0,1] (f88_0_S x0 x1 v0 (I 0))
def f88_0  (x0 x1 x2 x3:TV):Prg TV :=
 tv (pbin (.int .i64) .lss x3 x2) fun v1 =>
 Prg.ite (asBool v1) (
 tvs (pidx 1 x0 x3) fun e2 =>
 chk (Nat.blt 0 (List.length e2)) (
 tv (pbin (.int .u16) .eql x1 (nth hole e2 0)) fun v3 =>
 Prg.ite (asBool v3) (
 ret x3) (
 tv (pbin (.int .i64) .add x3 (I 1)) fun v4 =>
 jmp [0,0,1,0,1] (f88_0_S x0 x1 x2 v4)))) (
 ret (TV.lit (Value.int IntKind.i64 (-1))))
theorem f88_MR (x0 x1:TV):ap prog 88 [x0,x1]=f88_M x0 x1:=by kernel_rfl
theorem f88_0_J  {x0 x1 x2 x3:TV} {r:TV} (h:aa prog 88 (f88_0 x0 x1 x2 x3) r):aa prog 88 (.jmp [0,0,1,0,1] (f88_0_S x0 x1 x2 x3)) r:=aa.jmp (by kernel_rfl) h
end Go.Ab.C14
end
section
set_option maxRecDepth 10000
namespace Go.Ab.C14
open Go Go.Ab Go.Proofs
theorem Dr {a b:DIns}:a=b ↔ a.op=b.op/\a.dst=b.dst/\a.a=b.a/\a.b=b.b/\a.k=b.k/\a.f=b.f/\a.args=b.args:=by
 cases a;cases b;simp
theorem Ej {a b:DEnd}:a=b ↔ a.kind=b.kind/\a.a=b.a/\a.dst=b.dst/\a.f=b.f/\a.args=b.args/\a.to=b.to/\a.els=b.els/\a.pad=b.pad:=by
 cases a;cases b;simp
theorem rt {a b:DPad}:a=b ↔ a.dst=b.dst/\a.catches=b.catches/\a.all=b.all/\a.cleanup=b.cleanup:=by
 cases a;cases b;simp
theorem D7 {a b:DBlock}:a=b ↔ a.landing=b.landing/\a.pad=b.pad/\a.ins=b.ins/\a.fin=b.fin:=by
 cases a;cases b;simp
theorem qZ {a b:DFunc}:a=b ↔ a.params=b.params/\a.regs=b.regs/\a.blocks=b.blocks:=by
 cases a;cases b;simp
theorem CX {a b:DMod}:a=b ↔ a.funcs=b.funcs:=by
 cases a;cases b;simp
theorem r14 {q q':Option Bool} {x y:TV} {l m:List Int} (hx:RInts q x l) (hy:RInts q' y m):aj prog 40 [x,y] (B (tt (l=m))):=by
 refine aj.of (f40_MR _ _) ?_
 unfold f40_M
 repeat' (first
  | refine aa.chk rfl ?_
  | refine aa.tv rfl ?_
  | refine aa.tv (RL.len (by assumption)) ?_
  | refine aa.nat rfl ?_
  | refine aa.ite rfl (fun _=>?_) (fun _=>?_)
  | refine aa.call (by assumption) ?_
  | refine aa.tvs (by assumption) ?_)
 ·rename_i h
  have h:¬l=m:=by rintro rfl;simp at h
  exact aB h
 ·rename_i h
  have hlen:l.length=m.length:=by simp at h;omega
  refine f40_0_J ?_
  rw[aX (dH hlen)]
  refine dM (g:=fun k=>f40_0 x y (I k)) ?_ ?_
  ·unfold f40_0
   refine aa.tv hx.len (aa.tv rfl (aa.ite aM nofun fun _=>aa.ret))
  ·intro k hk r h1 h2
   have hk':k<m.length:=by omega
   have ha:l[k]? = some l[k]:=FQ hk
   have hb:m[k]? = some m[k]:=FQ hk'
   obtain⟨e,he,rfl,_⟩:=hx.idx (k:=.i64) ha
   obtain⟨e',he',rfl,_⟩:=hy.idx (k:=.i64) hb
   unfold f40_0
   refine aa.tv hx.len (aa.tv rfl (aa.ite (aQ hk) (fun _=>?_) nofun))
   refine aa.tvs he (aa.chk rfl (aa.tvs he' (aa.chk rfl (aa.tv rfl (aa.ite rfl (fun h=>?_) fun h=>?_)))))
   ·rw[h1 (by rw[ha,hb];simpa using h)];exact aa.ret
   ·refine aa.tv (inc hk hx.bnd) (f40_0_J (h2 ?_))
    rw[ha,hb];simpa using h
theorem r46 {q q':Option Bool} {e e':List TV} {a b:DIns} (ha:RIns q e a) (hb:RIns q' e' b):aj prog 21 [.agg e,.agg e'] (B (tt (a=b))):=by
 obtain⟨g,rfl,hg,_⟩:=ha
 obtain⟨g',rfl,hg',_⟩:=hb
 have h14:=r14 hg hg'
 refine aj.of (f21_MR _ _) ?_
 unfold f21_M
 repeat' (first
  | refine aa.chk rfl ?_
  | refine aa.tv rfl ?_
  | refine aa.tv (RL.len (by assumption)) ?_
  | refine aa.nat rfl ?_
  | refine aa.ite rfl (fun _=>?_) (fun _=>?_)
  | refine aa.call (by assumption) ?_
  | refine aa.tvs (by assumption) ?_)
 ·apply aH;rw[Dr];simp_all[tt]
 all_goals (apply aB;rw[Dr];simp_all[tt])
theorem r45 {q q':Option Bool} {e e':List TV} {a b:DEnd} (ha:REnd q e a) (hb:REnd q' e' b):aj prog 20 [.agg e,.agg e'] (B (tt (a=b))):=by
 obtain⟨g,rfl,hg,_⟩:=ha
 obtain⟨g',rfl,hg',_⟩:=hb
 have h14:=r14 hg hg'
 refine aj.of (f20_MR _ _) ?_
 unfold f20_M
 repeat' (first
  | refine aa.chk rfl ?_
  | refine aa.tv rfl ?_
  | refine aa.tv (RL.len (by assumption)) ?_
  | refine aa.nat rfl ?_
  | refine aa.ite rfl (fun _=>?_) (fun _=>?_)
  | refine aa.call (by assumption) ?_
  | refine aa.tvs (by assumption) ?_)
 ·apply aH;rw[Ej];simp_all[tt]
 all_goals (apply aB;rw[Ej];simp_all[tt])
theorem r44 {q q':Option Bool} {e e':List TV} {a b:DPad} (ha:RPad q e a) (hb:RPad q' e' b):aj prog 44 [.agg e,.agg e'] (B (tt (a=b))):=by
 obtain⟨x,rfl,hx,_⟩:=ha
 obtain⟨y,rfl,hy,_⟩:=hb
 refine aj.of (f44_MR _ _) ?_
 unfold f44_M
 repeat' (first
  | refine aa.chk rfl ?_
  | refine aa.tv rfl ?_
  | refine aa.tv (RL.len (by assumption)) ?_
  | refine aa.nat rfl ?_
  | refine aa.ite rfl (fun _=>?_) (fun _=>?_)
  | refine aa.call (by assumption) ?_
  | refine aa.tvs (by assumption) ?_)
 ·apply aB;rw[rt];simp_all
 ·apply aB;rw[rt];simp_all
 ·apply aB;rw[rt];simp_all
 ·rename_i h
  apply aB;rw[rt]
  intro h'
  rw[h'.2.1]at h
  simp at h
 ·rename_i h1 h2 h3 h
  have hlen:a.catches.length=b.catches.length:=by simp at h;omega
  refine f44_0_J ?_
  have hp:a=b ↔ ∀i,i<a.catches.length->a.catches[i]? = b.catches[i]? := by
   rw[rt,dH hlen]
   simp at h1 h2 h3
   exact⟨fun h=>h.2.1,fun h=>⟨h1,h,h2,h3⟩⟩
  rw[aX hp]
  refine dM (g:=fun k=>f44_0 (I k) (I a.dst) x (B a.all) (B a.cleanup) (I b.dst) y (B b.all) (B b.cleanup)) ?_ ?_
  ·unfold f44_0
   refine aa.tv hx.len (aa.tv rfl (aa.ite aM nofun fun _=>aa.ret))
  ·intro k hk r h1 h2
   have hk':k<b.catches.length:=by omega
   have ha:a.catches[k]? = some a.catches[k]:=FQ hk
   have hb:b.catches[k]? = some b.catches[k]:=FQ hk'
   obtain⟨e,he,rfl,_⟩:=hx.idx (k:=.i64) ha
   obtain⟨e',he',rfl,_⟩:=hy.idx (k:=.i64) hb
   unfold f44_0
   refine aa.tv hx.len (aa.tv rfl (aa.ite (aQ hk) (fun _=>?_) nofun))
   refine aa.tvs he (aa.chk rfl (aa.tvs he' (aa.chk rfl (aa.tv rfl (aa.ite rfl (fun h=>?_) fun h=>?_)))))
   ·rw[h1 (by rw[ha,hb];simpa using h)];exact aa.ret
   ·refine aa.tv (inc hk hx.bnd) (f44_0_J (h2 ?_))
    rw[ha,hb];simpa using h
theorem r31 {q q' : Option Bool} {e e' : List TV} {a b : DFunc} (ha : RFunc q e a) (hb : RFunc q' e' b) : aj prog 28 [.agg e, .agg e'] (B (tt (a = b))) := by
 obtain⟨x,rfl,hx,_⟩:=ha
 obtain⟨y,rfl,hy,_⟩:=hb
 refine aj.of (f28_MR _ _) ?_
 unfold f28_M
 repeat' (first
  | refine aa.chk rfl ?_
  | refine aa.tv rfl ?_
  | refine aa.tv (RL.len (by assumption)) ?_
  | refine aa.nat rfl ?_
  | refine aa.ite rfl (fun _=>?_) (fun _=>?_)
  | refine aa.call (by assumption) ?_
  | refine aa.tvs (by assumption) ?_)
 ·apply aB;rw[qZ];simp_all
 ·apply aB;rw[qZ];simp_all
 ·rename_i h
  apply aB;rw[qZ]
  intro h'
  rw[h'.2.2]at h
  simp at h
 ·rename_i h1 h2 h
  have hlen:a.blocks.length=b.blocks.length:=by simp at h;omega
  refine f28_0_J ?_
  have hp:a=b ↔ ∀i,i<a.blocks.length->a.blocks[i]? = b.blocks[i]? := by
   rw[qZ,dH hlen]
   simp at h1 h2
   exact⟨fun h=>h.2.2,fun h=>⟨h1,h2,h⟩⟩
  rw[aX hp]
  refine dM (g:=fun k=>f28_0 (I k) (I a.params) (I a.regs) x (I b.params) (I b.regs) y) ?_ ?_
  ·unfold f28_0
   refine aa.tv hx.len (aa.tv rfl (aa.ite aM nofun fun _=>aa.ret))
  ·intro k hk r h1 h2
   have hk':k<b.blocks.length:=by omega
   have hak:a.blocks[k]? = some a.blocks[k]:=FQ hk
   have hbk:b.blocks[k]? = some b.blocks[k]:=FQ hk'
   obtain⟨e,he,hea⟩:=hx.idx (k:=.i64) hak
   obtain⟨e',he',heb⟩:=hy.idx (k:=.i64) hbk
   rw[hak,hbk,Option.some_inj,D7]at h1 h2
   generalize a.blocks[k]=u at *
   generalize b.blocks[k]=v at *
   obtain⟨c,i,g,rfl,hc,hd,hi,hg,ho⟩:=hea
   obtain⟨c',i',g',rfl,hc',hd',hi',hg',ho'⟩:=heb
   have h44:=r44 (q:=q) (q':=q') (a:=u.pad) (b:=v.pad) ⟨c,rfl,hc,hd⟩ ⟨c',rfl,hc',hd'⟩
   have h45:=r45 (q:=q) (q':=q') (a:=u.fin) (b:=v.fin) ⟨g,rfl,hg,ho⟩ ⟨g',rfl,hg',ho'⟩
   unfold f28_0
   refine aa.tv hx.len (aa.tv rfl (aa.ite (aQ hk) (fun _=>?_) nofun))
   refine aa.tvs he (aa.chk rfl (aa.tvs he' (aa.chk rfl (aa.tv rfl (aa.ite rfl (fun h=>?_) fun h3=>?_)))))
   ·rw[h1 (by simp at h;simp[h])];exact aa.ret
   ·refine aa.call h44 (aa.chk rfl (aa.tv rfl (aa.ite rfl (fun h=>?_) fun h4=>?_)))
    ·rw[h1 (by simp[tt]at h;simp[h])];exact aa.ret
    ·refine aa.call h45 (aa.chk rfl (aa.tv rfl (aa.ite rfl (fun h=>?_) fun h5=>?_)))
     ·rw[h1 (by simp[tt]at h;simp[h])];exact aa.ret
     ·refine aa.tv hi.len (aa.tv hi'.len (aa.tv rfl (aa.ite rfl (fun h=>?_) fun h6=>?_)))
      ·rw[h1 (by intro h';rw[h'.2.2.1]at h;simp at h)];exact aa.ret
      ·refine f28_1_J ?_
       have hil:u.ins.length=v.ins.length:=by simp at h6;omega
       simp[tt]at h3 h4 h5
       refine nF (n:=u.ins.length) (P:=fun j=>u.ins[j]? = v.ins[j]?) (g:=fun j=>f28_1 (I k) (I j) (I a.params) (I a.regs) x (I b.params) (I b.regs) y (B u.landing) (I u.pad.dst) c (B u.pad.all) (B u.pad.cleanup) i (I u.fin.kind) (I u.fin.a) (I u.fin.dst) (I u.fin.f) g (I u.fin.to) (I u.fin.els) (I u.fin.pad) (B v.landing) (I v.pad.dst) c' (B v.pad.all) (B v.pad.cleanup) i' (I v.fin.kind) (I v.fin.a) (I v.fin.dst) (I v.fin.f) g' (I v.fin.to) (I v.fin.els) (I v.fin.pad)) ?_ ?_ ?_
       ·intro hn;exact h1 fun h'=>hn ((dH hil).1 h'.2.2.1)
       ·intro hn
        unfold f28_1
        refine aa.tv hi.len (aa.tv rfl (aa.ite aM nofun fun _=>?_))
        refine aa.tv (inc hk hx.bnd) (f28_0_J (h2 ?_))
        exact⟨h3,h4,(dH hil).2 hn,h5⟩
       ·intro j hj r g1 g2
        have hj':j<v.ins.length:=by omega
        have hau:u.ins[j]? = some u.ins[j]:=FQ hj
        have hbu:v.ins[j]? = some v.ins[j]:=FQ hj'
        obtain⟨e,he,hea⟩:=hi.idx (k:=.i64) hau
        obtain⟨e',he',heb⟩:=hi'.idx (k:=.i64) hbu
        have h46:=r46 hea heb
        obtain⟨_,rfl,_⟩:=hea
        obtain⟨_,rfl,_⟩:=heb
        unfold f28_1
        refine aa.tv hi.len (aa.tv rfl (aa.ite (aQ hj) (fun _=>?_) nofun))
        refine aa.tvs he (aa.chk rfl (aa.tvs he' (aa.chk rfl (aa.call h46 (aa.chk rfl (aa.tv rfl (aa.ite rfl (fun h=>?_) fun h=>?_)))))))
        ·rw[g1 (by rw[hau,hbu];simpa[tt]using h)];exact aa.ret
        ·refine aa.tv (inc hj hi.bnd) (f28_1_J (g2 ?_))
         rw[hau,hbu];simpa[tt]using h
theorem r18 {q q':Option Bool} {e e':List TV} {a b:DMod} (ha:RMod q e a) (hb:RMod q' e' b):aj prog 12 [.agg e,.agg e'] (B (tt (a=b))):=by
 obtain⟨x,rfl,hx⟩:=ha
 obtain⟨y,rfl,hy⟩:=hb
 refine aj.of (f12_MR _ _) ?_
 unfold f12_M
 repeat' (first
  | refine aa.chk rfl ?_
  | refine aa.tv rfl ?_
  | refine aa.tv (RL.len (by assumption)) ?_
  | refine aa.nat rfl ?_
  | refine aa.ite rfl (fun _=>?_) (fun _=>?_)
  | refine aa.call (by assumption) ?_
  | refine aa.tvs (by assumption) ?_)
 ·rename_i h
  apply aB;rw[CX]
  intro h'
  rw[h']at h
  simp at h
 ·rename_i h
  have hlen:a.funcs.length=b.funcs.length:=by simp at h;omega
  refine f12_0_J ?_
  rw[aX (CX.trans (dH hlen))]
  refine dM (g:=fun k=>f12_0 (I k) x y) ?_ ?_
  ·unfold f12_0
   refine aa.tv hx.len (aa.tv rfl (aa.ite aM nofun fun _=>aa.ret))
  ·intro k hk r h1 h2
   have hk':k<b.funcs.length:=by omega
   have hak:a.funcs[k]? = some a.funcs[k]:=FQ hk
   have hbk:b.funcs[k]? = some b.funcs[k]:=FQ hk'
   obtain⟨e,he,hea⟩:=hx.idx (k:=.i64) hak
   obtain⟨e',he',heb⟩:=hy.idx (k:=.i64) hbk
   have hc:=r31 hea heb
   obtain⟨_,rfl,_⟩:=hea
   obtain⟨_,rfl,_⟩:=heb
   unfold f12_0
   refine aa.tv hx.len (aa.tv rfl (aa.ite (aQ hk) (fun _=>?_) nofun))
   refine aa.tvs he (aa.chk rfl (aa.tvs he' (aa.chk rfl (aa.call hc (aa.chk rfl (aa.tv rfl (aa.ite rfl (fun h=>?_) fun h=>?_)))))))
   ·rw[h1 (by rw[hak,hbk];simpa[tt]using h)];exact aa.ret
   ·refine aa.tv (inc hk hx.bnd) (f12_0_J (h2 ?_))
    rw[hak,hbk];simpa[tt]using h
end Go.Ab.C14
end

import Derived.Test.YtfnpejmlcbkepaaAQ12T
import Derived.OpenShut
set_option linter.all false
section
set_option maxRecDepth 100000
namespace Go.Ab.Q12
open Go Go.Ab Go.Proofs
open Go.Ab.TV (hole cell comp isSl isSc isTup cellsL tup agg)
open Go.Ab.Prg (tv tvs rws nat chk call jmp ret)
def f3_M (x0 x1:TV):Prg TV :=
 chk (TV.isAgg x0 3) (
 call 15 [] fun v0 =>
 chk (ah ck [v0] 0) (
 tv (pun .not v0) fun v1 =>
 Prg.ite (asBool v1) (
 ret (B false)) (
 tv (plen (.slice 59) (cell x0 2)) fun v2 =>
 tv (pbin (.int .i64) .gtr v2 (I 70)) fun v3 =>
 Prg.ite (asBool v3) (
 ret (B true)) (
 call 17 [agg [cell x0 0,cell x0 1,cell x0 2],x1] fun v4 =>
 chk (ah zSl [v4] 0) (
 call 18 [agg [cell x0 0,cell x0 1,cell x0 2],x1] fun v5 =>
 chk (ah zSl [v5] 0) (
 call 16 [frz v4,frz v5] fun v6 =>
 chk (ah ck [v6] 0) (
 Prg.ite (asBool v6) (
 call 19 [agg [cell x0 0,cell x0 1,cell x0 2],x1] fun v7 =>
 chk (ah zSl [v7] 0) (
 call 20 [agg [cell x0 0,cell x0 1,cell x0 2],x1] fun v8 =>
 chk (ah zSl [v8] 0) (
 call 16 [frz v7,frz v8] fun v9 =>
 chk (ah ck [v9] 0) (
 Prg.ite (asBool v9) (
 call 22 [agg [cell x0 0,cell x0 1,cell x0 2]] fun v10 =>
 chk (ah zSl [v10] 0) (
 call 23 [agg [cell x0 0,cell x0 1,cell x0 2]] fun v11 =>
 chk (ah zSl [v11] 0) (
 call 21 [frz v10,frz v11] fun v12 =>
 chk (ah ck [v12] 0) (
 Prg.ite (asBool v12) (
 call 24 [agg [cell x0 0,cell x0 1,cell x0 2]] fun v13 =>
 chk (ah zSl [v13] 0) (
 call 25 [agg [cell x0 0,cell x0 1,cell x0 2]] fun v14 =>
 chk (ah zSl [v14] 0) (
 call 16 [frz v13,frz v14] fun v15 =>
 chk (ah ck [v15] 0) (
 ret v15)))) (
 ret (B false)))))) (
 ret (B false)))))) (
 ret (B false)))))))))
theorem f3_MR (x0 x1:TV):bS prog 3 [x0,x1]=f3_M x0 x1:=by kernel_rfl
def f16_0_S  (x0 x1 x2:TV):ASt:=⟨[AV.tv x0,AV.tv x1,Jk,Jk,Jk,AV.tv x2] ++ Rj 20,Rz 50,[]⟩
def f16_M (x0 x1:TV):Prg TV :=
 tv (plen (.slice 3) x0) fun v0 =>
 tv (plen (.slice 3) x1) fun v1 =>
 tv (pbin (.int .i64) .neq v0 v1) fun v2 =>
 Prg.ite (asBool v2) (
 ret (B false)) (
 jmp [0,0,1,0,1,1] (f16_0_S x0 x1 (I 0)))
def f16_0  (x0 x1 x2:TV):Prg TV :=
 tv (plen (.slice 3) x0) fun v3 =>
 tv (pbin (.int .i64) .lss x2 v3) fun v4 =>
 Prg.ite (asBool v4) (
 tvs (pidx 1 x0 x2) fun e5 =>
 chk (Nat.blt 0 (List.length e5)) (
 tvs (pidx 1 x1 x2) fun e6 =>
 chk (Nat.blt 0 (List.length e6)) (
 tv (pbin (.int .i64) .neq (nth hole e5 0) (nth hole e6 0)) fun v7 =>
 Prg.ite (asBool v7) (
 ret (B false)) (
 tv (pbin (.int .i64) .add x2 (I 1)) fun v8 =>
 jmp [0,0,1,0,1,1] (f16_0_S x0 x1 v8))))) (
 ret (B true))
theorem f16_MR (x0 x1:TV):bS prog 16 [x0,x1]=f16_M x0 x1:=by kernel_rfl
theorem f16_0_J  {x0 x1 x2:TV} {r:TV} (h:aa prog 16 (f16_0 x0 x1 x2) r):aa prog 16 (.jmp [0,0,1,0,1,1] (f16_0_S x0 x1 x2)) r:=aa.jmp (by kernel_rfl) h
def f17_0_S  (y0 y1 y2 w3:TV):ASt:=⟨[Jk,Jk,Pt 0,Jk,Jk,Jk,Sr 1] ++ Rj 24,[some (BC.cells [CA.t y0,CA.t y1,CA.t y2]),Tr w3] ++ Rz 53,[]⟩
def f17_1_S  (x0 x1 w2 y3 y4 y5:TV):ASt:=⟨[Sr 0,AV.clo 44 [CA.ptr 1 0]] ++ Rj 5 ++ [AV.tv x0,AV.tv x1] ++ Rj 10,[Tr w2,some (BC.cells [CA.t y3,CA.t y4,CA.t y5])] ++ Rz 114,(Rj 31 ++ [Sr 0,AV.clo 44 [CA.ptr 1 0]] ++ Rj 40)⟩
def f17_2_S  (x0 x1 w2 y3 y4 y5:TV):ASt:=⟨[Sr 0,AV.clo 44 [CA.ptr 1 0],Jk,Jk,Jk,AV.tv x0,AV.tv x1] ++ Rj 35,[Tr w2,some (BC.cells [CA.t y3,CA.t y4,CA.t y5])] ++ Rz 95,Rj 31⟩
def f17_3_S  (x0 w1:TV):ASt:=⟨[Sr 0] ++ Rj 4 ++ [AV.tv x0] ++ Rj 36,[Tr w1] ++ Rz 96,Rj 31⟩
def f17_M (x0 x1:TV):Prg TV :=
 chk (TV.isAgg x0 3) (
 call 41 [agg [cell x0 0,cell x0 1,cell x0 2],x1] fun v0 =>
 chk (ah ck [v0] 0) (
 tv (pun .not v0) fun v1 =>
 Prg.ite (asBool v1) (
 chk true (
 ret (TV.lit aJ))) (
 tvs (pidx 14 (cell x0 2) x1) fun e2 =>
 chk (Nat.ble 14 (List.length e2)) (
 call 42 [agg [nth hole e2 0,nth hole e2 1,nth hole e2 2,nth hole e2 3,nth hole e2 4,nth hole e2 5,nth hole e2 6,nth hole e2 7,nth hole e2 8,nth hole e2 9,nth hole e2 10,nth hole e2 11,nth hole e2 12,nth hole e2 13]] fun v3 =>
 chk (ah zSl [v3] 0) (
 tv (pbin (.int .i64) .eql (nth hole e2 6) (I 4)) fun v4 =>
 Prg.ite (asBool v4) (
 rws (pelems 1 (TV.sl true 1 (chunks 1 1 [nth hole e2 13]))) fun r5 =>
 tv (papp 1 v3 (ft r5)) fun v6 =>
 jmp [1,1,1,1,1] (f17_0_S (cell x0 0) (cell x0 1) (cell x0 2) v6)) (
 jmp [1,1,1,1,1] (f17_0_S (cell x0 0) (cell x0 1) (cell x0 2) v3)))))))
def f17_0  (y0 y1 y2 w3:TV):Prg TV :=
 tv (plen (.slice 3) w3) fun v7 =>
 jmp [0,0,1,0,1,6,0,1,6,0,1,1,1,1,1] (f17_1_S v7 (I 0) w3 y0 y1 y2)
def f17_1  (x0 x1 w2 y3 y4 y5:TV):Prg TV :=
 tv (pbin (.int .i64) .lss x1 x0) fun v8 =>
 Prg.ite (asBool v8) (
 nat (slLen w2) fun n9 =>
 nat (al x1) fun n10 =>
 chk (Bool.and (slSize w2 1) (Nat.blt n10 n9)) (
 tvs (pel w2 n10) fun e11 =>
 chk (ah ei e11 0) (
 call 41 [agg [y3,y4,y5],nth hole e11 0] fun v12 =>
 chk (ah ck [v12] 0) (
 tv (pun .not v12) fun v13 =>
 Prg.ite (asBool v13) (
 tv (pbin (.int .i64) .eql x1 (TV.lit (Value.int IntKind.i64 (-1)))) fun v14 =>
 Prg.ite (asBool v14) (
 chk (cC w2) (
 ret w2)) (
 tv (pbin (.int .i64) .add x1 (I 1)) fun v15 =>
 jmp [0,0,1,0,1,1,1,6,0,1,1,1,1,1] (f17_2_S x1 v15 w2 y3 y4 y5))) (
 tv (pbin (.int .i64) .add x1 (I 1)) fun v16 =>
 jmp [0,0,1,0,1,6,0,1,6,0,1,1,1,1,1] (f17_1_S x0 v16 w2 y3 y4 y5)))))) (
 tv (pbin (.int .i64) .eql (TV.lit (Value.int IntKind.i64 (-1))) (TV.lit (Value.int IntKind.i64 (-1)))) fun v17 =>
 Prg.ite (asBool v17) (
 chk (cC w2) (
 ret w2)) (
 tv (pbin (.int .i64) .add (TV.lit (Value.int IntKind.i64 (-1))) (I 1)) fun v18 =>
 jmp [0,0,1,0,1,1,1,6,0,1,1,1,1,1] (f17_2_S (TV.lit (Value.int IntKind.i64 (-1))) v18 w2 y3 y4 y5)))
def f17_2  (x0 x1 w2 y3 y4 y5:TV):Prg TV :=
 tv (plen (.slice 3) w2) fun v19 =>
 tv (pbin (.int .i64) .lss x1 v19) fun v20 =>
 Prg.ite (asBool v20) (
 nat (slLen w2) fun n21 =>
 nat (al x1) fun n22 =>
 chk (Bool.and (slSize w2 1) (Nat.blt n22 n21)) (
 tvs (pel w2 n22) fun e23 =>
 chk (ah ei e23 0) (
 call 41 [agg [y3,y4,y5],nth hole e23 0] fun v24 =>
 chk (ah ck [v24] 0) (
 tv (pun .not v24) fun v25 =>
 tv (pun .not v25) fun v26 =>
 Prg.ite (asBool v26) (
 nat (slLen w2) fun n27 =>
 nat (al x0) fun n28 =>
 chk (Bool.and (slSize w2 1) (Nat.blt n28 n27)) (
 tvs (pel w2 n28) fun e29 =>
 chk (ah ei e29 0) (
 tv (gY [] w2 n28 0 [nth hole e23 0]) fun v30 =>
 tv (pbin (.int .i64) .add x0 (I 1)) fun v31 =>
 tv (pbin (.int .i64) .add x1 (I 1)) fun v32 =>
 jmp [0,0,1,0,1,1,1,6,0,1,1,1,1,1] (f17_2_S v31 v32 v30 y3 y4 y5)))) (
 tv (pbin (.int .i64) .add x1 (I 1)) fun v33 =>
 jmp [0,0,1,0,1,1,1,6,0,1,1,1,1,1] (f17_2_S x0 v33 w2 y3 y4 y5)))))) (
 jmp [1,1,1,1,6,0,1,1,1,1,1] (f17_3_S x0 w2))
def f17_3  (x0 w1:TV):Prg TV :=
 nat (slLen w1) fun n34 =>
 nat (al x0) fun n35 =>
 chk (Bool.and (Bool.and (slSize w1 1) (Nat.ble (Option.getD (some n35) 0) (Option.getD none n34))) (Nat.ble (Option.getD none n34) n34)) (
 tv (pclear 1 [I 0] (Option.getD (some n35) 0) ((Option.getD none n34) - (Option.getD (some n35) 0)) w1) fun v36 =>
 nat (slLen v36) fun n37 =>
 nat (al x0) fun n38 =>
 chk (Bool.and (Bool.and (slSize v36 1) (Nat.ble 0 (Option.getD (some n38) n37))) (Nat.ble (Option.getD (some n38) n37) n37)) (
 tv (d7 0 ((Option.getD (some n38) n37) - 0) v36) fun v39 =>
 chk (cC v39) (
 ret v39)))
theorem f17_MR (x0 x1:TV):bS prog 17 [x0,x1]=f17_M x0 x1:=by kernel_rfl
theorem f17_0_J  {y0 y1 y2 w3:TV} {r:TV} (h:aa prog 17 (f17_0 y0 y1 y2 w3) r):aa prog 17 (.jmp [1,1,1,1,1] (f17_0_S y0 y1 y2 w3)) r:=aa.jmp (by kernel_rfl) h
theorem f17_1_J  {x0 x1 w2 y3 y4 y5:TV} {r:TV} (h:aa prog 17 (f17_1 x0 x1 w2 y3 y4 y5) r):aa prog 17 (.jmp [0,0,1,0,1,6,0,1,6,0,1,1,1,1,1] (f17_1_S x0 x1 w2 y3 y4 y5)) r:=aa.jmp (by kernel_rfl) h
theorem f17_2_J  {x0 x1 w2 y3 y4 y5:TV} {r:TV} (h:aa prog 17 (f17_2 x0 x1 w2 y3 y4 y5) r):aa prog 17 (.jmp [0,0,1,0,1,1,1,6,0,1,1,1,1,1] (f17_2_S x0 x1 w2 y3 y4 y5)) r:=aa.jmp (by kernel_rfl) h
theorem f17_3_J  {x0 w1:TV} {r:TV} (h:aa prog 17 (f17_3 x0 w1) r):aa prog 17 (.jmp [1,1,1,1,6,0,1,1,1,1,1] (f17_3_S x0 w1)) r:=aa.jmp (by kernel_rfl) h
def f18_0_S  (x0 y1 y2 y3 y4 y5 y6 y7 y8 y9 y10 y11 w12:TV):ASt:=⟨[Jk,Jk,Pt 0,Jk,Jk,Pt 1,Sr 2] ++ Rj 29 ++ [AV.tv x0] ++ Rj 50,[some (BC.cells [CA.t y1,CA.t y2,CA.t y3]),some (BC.cells [CA.t y4,CA.t y5,CA.t y6,CA.t y7,CA.t y8,CA.t y9,CA.t y10,CA.t y11]),Tr w12] ++ Rz 108,[]⟩
def f18_1_S  (x0 y1 y2 y3 y4 y5 y6 y7 y8 y9 y10 y11 w12:TV):ASt:=⟨[Jk,Jk,Pt 0,Jk,Jk,Pt 1,Sr 2] ++ Rj 37 ++ [AV.tv x0] ++ Rj 42,[some (BC.cells [CA.t y1,CA.t y2,CA.t y3]),some (BC.cells [CA.t y4,CA.t y5,CA.t y6,CA.t y7,CA.t y8,CA.t y9,CA.t y10,CA.t y11]),Tr w12] ++ Rz 108,[]⟩
def f18_2_S  (x0 y1 y2 y3 y4 y5 y6 y7 y8 y9 y10 y11 w12:TV):ASt:=⟨[Jk,Jk,Pt 0,Jk,Jk,Pt 1,Sr 2] ++ Rj 45 ++ [AV.tv x0] ++ Rj 34,[some (BC.cells [CA.t y1,CA.t y2,CA.t y3]),some (BC.cells [CA.t y4,CA.t y5,CA.t y6,CA.t y7,CA.t y8,CA.t y9,CA.t y10,CA.t y11]),Tr w12] ++ Rz 108,[]⟩
def f18_3_S  (x0 y1 y2 y3 w4 w5:TV):ASt:=⟨[Jk,Jk,Pt 0,Jk,Jk,Jk,Sr 1,Sr 2,AV.tv x0] ++ Rj 78,[some (BC.cells [CA.t y1,CA.t y2,CA.t y3]),Tr w4,Tr w5] ++ Rz 108,[]⟩
def f18_4_S  (x0 y1 y2 y3 w4 w5:TV):ASt:=⟨[Jk,Jk,Pt 0,Jk,Jk,Jk,Sr 1,Sr 2,AV.tv x0] ++ Rj 78,[some (BC.cells [CA.t y1,CA.t y2,CA.t y3]),Tr w4,Tr w5] ++ Rz 108,[]⟩
def f18_M (x0 x1:TV):Prg TV :=
 chk (TV.isAgg x0 3) (
 tv (pbin (.int .i64) .lss x1 (I 0)) fun v0 =>
 Prg.ite (asBool v0) (
 ret (TV.lit aJ)) (
 tv (plen (.slice 59) (cell x0 2)) fun v1 =>
 tv (pbin (.int .i64) .geq x1 v1) fun v2 =>
 Prg.ite (asBool v2) (
 ret (TV.lit aJ)) (
 tvs (pidx 14 (cell x0 2) x1) fun e3 =>
 chk (Nat.ble 14 (List.length e3)) (
 tv (pbin (.int .i64) .eql (nth hole e3 6) (I 2)) fun v4 =>
 Prg.ite (asBool v4) (
 chk true (
 jmp [1,0,1,1,1,1] (f18_0_S (B true) (cell x0 0) (cell x0 1) (cell x0 2) (nth hole e3 6) (nth hole e3 7) (nth hole e3 8) (nth hole e3 9) (nth hole e3 10) (nth hole e3 11) (nth hole e3 12) (nth hole e3 13) (TV.lit aJ)))) (
 tv (pbin (.int .i64) .eql (nth hole e3 6) (I 3)) fun v5 =>
 Prg.ite (asBool v5) (
 chk true (
 jmp [1,0,1,1,1,1] (f18_0_S (B true) (cell x0 0) (cell x0 1) (cell x0 2) (nth hole e3 6) (nth hole e3 7) (nth hole e3 8) (nth hole e3 9) (nth hole e3 10) (nth hole e3 11) (nth hole e3 12) (nth hole e3 13) (TV.lit aJ)))) (
 tv (pbin (.int .i64) .eql (nth hole e3 6) (I 4)) fun v6 =>
 chk true (
 jmp [1,0,1,1,1,1] (f18_0_S v6 (cell x0 0) (cell x0 1) (cell x0 2) (nth hole e3 6) (nth hole e3 7) (nth hole e3 8) (nth hole e3 9) (nth hole e3 10) (nth hole e3 11) (nth hole e3 12) (nth hole e3 13) (TV.lit aJ)))))))))
def f18_0  (x0 y1 y2 y3 y4 y5 y6 y7 y8 y9 y10 y11 w12:TV):Prg TV :=
 Prg.ite (asBool x0) (
 rws (pelems 1 (TV.sl true 1 (chunks 1 1 [y9]))) fun r7 =>
 tv (papp 1 w12 (ft r7)) fun v8 =>
 tv (pbin (.int .i64) .eql y4 (I 3)) fun v9 =>
 jmp [1,0,1,1,1,1,1] (f18_1_S v9 y1 y2 y3 y4 y5 y6 y7 y8 y9 y10 y11 v8)) (
 tv (pbin (.int .i64) .eql y4 (I 3)) fun v10 =>
 jmp [1,0,1,1,1,1,1] (f18_1_S v10 y1 y2 y3 y4 y5 y6 y7 y8 y9 y10 y11 w12))
def f18_1  (x0 y1 y2 y3 y4 y5 y6 y7 y8 y9 y10 y11 w12:TV):Prg TV :=
 Prg.ite (asBool x0) (
 rws (pelems 1 (TV.sl true 1 (chunks 1 1 [y10]))) fun r11 =>
 tv (papp 1 w12 (ft r11)) fun v12 =>
 tv (pbin (.int .i64) .eql y4 (I 4)) fun v13 =>
 jmp [1,0,1,1,1,1,1,1] (f18_2_S v13 y1 y2 y3 y4 y5 y6 y7 y8 y9 y10 y11 v12)) (
 tv (pbin (.int .i64) .eql y4 (I 4)) fun v14 =>
 jmp [1,0,1,1,1,1,1,1] (f18_2_S v14 y1 y2 y3 y4 y5 y6 y7 y8 y9 y10 y11 w12))
def f18_2  (x0 y1 y2 y3 y4 y5 y6 y7 y8 y9 y10 y11 w12:TV):Prg TV :=
 Prg.ite (asBool x0) (
 rws (pelems 1 (TV.sl true 1 (chunks 1 1 [y11]))) fun r15 =>
 tv (papp 1 w12 (ft r15)) fun v16 =>
 chk true (
 jmp [1,0,1,1,1,1,1,1,1,1] (f18_3_S (I 0) y1 y2 y3 v16 (TV.lit aJ)))) (
 chk true (
 jmp [1,0,1,1,1,1,1,1,1,1] (f18_3_S (I 0) y1 y2 y3 w12 (TV.lit aJ))))
def f18_3  (x0 y1 y2 y3 w4 w5:TV):Prg TV :=
 jmp [0,0,1,0,1,1,1,1,1,1,1,1] (f18_4_S x0 y1 y2 y3 w4 w5)
def f18_4  (x0 y1 y2 y3 w4 w5:TV):Prg TV :=
 tv (plen (.slice 3) w4) fun v17 =>
 tv (pbin (.int .i64) .lss x0 v17) fun v18 =>
 Prg.ite (asBool v18) (
 nat (slLen w4) fun n19 =>
 nat (al x0) fun n20 =>
 chk (Bool.and (slSize w4 1) (Nat.blt n20 n19)) (
 tvs (pel w4 n20) fun e21 =>
 chk (ah ei e21 0) (
 tv (pbin (.int .i64) .geq (nth hole e21 0) (I 0)) fun v22 =>
 Prg.ite (asBool v22) (
 nat (slLen w4) fun n23 =>
 nat (al x0) fun n24 =>
 chk (Bool.and (slSize w4 1) (Nat.blt n24 n23)) (
 tvs (pel w4 n24) fun e25 =>
 chk (ah ei e25 0) (
 tv (plen (.slice 59) y3) fun v26 =>
 tv (pbin (.int .i64) .lss (nth hole e25 0) v26) fun v27 =>
 Prg.ite (asBool v27) (
 nat (slLen w4) fun n28 =>
 nat (al x0) fun n29 =>
 chk (Bool.and (slSize w4 1) (Nat.blt n29 n28)) (
 tvs (pel w4 n29) fun e30 =>
 chk (ah ei e30 0) (
 rws (pelems 1 (TV.sl true 1 (chunks 1 1 [nth hole e30 0]))) fun r31 =>
 tv (papp 1 w5 (ft r31)) fun v32 =>
 tv (pbin (.int .i64) .add x0 (I 1)) fun v33 =>
 jmp [0,0,1,0,1,1,1,1,1,1,1,1] (f18_4_S v33 y1 y2 y3 w4 v32)))) (
 tv (pbin (.int .i64) .add x0 (I 1)) fun v34 =>
 jmp [0,0,1,0,1,1,1,1,1,1,1,1] (f18_4_S v34 y1 y2 y3 w4 w5))))) (
 tv (pbin (.int .i64) .add x0 (I 1)) fun v35 =>
 jmp [0,0,1,0,1,1,1,1,1,1,1,1] (f18_4_S v35 y1 y2 y3 w4 w5))))) (
 ret w5)
theorem f18_MR (x0 x1:TV):bS prog 18 [x0,x1]=f18_M x0 x1:=by kernel_rfl
theorem f18_0_J  {x0 y1 y2 y3 y4 y5 y6 y7 y8 y9 y10 y11 w12:TV} {r:TV} (h:aa prog 18 (f18_0 x0 y1 y2 y3 y4 y5 y6 y7 y8 y9 y10 y11 w12) r):aa prog 18 (.jmp [1,0,1,1,1,1] (f18_0_S x0 y1 y2 y3 y4 y5 y6 y7 y8 y9 y10 y11 w12)) r:=aa.jmp (by kernel_rfl) h
theorem f18_1_J  {x0 y1 y2 y3 y4 y5 y6 y7 y8 y9 y10 y11 w12:TV} {r:TV} (h:aa prog 18 (f18_1 x0 y1 y2 y3 y4 y5 y6 y7 y8 y9 y10 y11 w12) r):aa prog 18 (.jmp [1,0,1,1,1,1,1] (f18_1_S x0 y1 y2 y3 y4 y5 y6 y7 y8 y9 y10 y11 w12)) r:=aa.jmp (by kernel_rfl) h
theorem f18_2_J  {x0 y1 y2 y3 y4 y5 y6 y7 y8 y9 y10 y11 w12:TV} {r:TV} (h:aa prog 18 (f18_2 x0 y1 y2 y3 y4 y5 y6 y7 y8 y9 y10 y11 w12) r):aa prog 18 (.jmp [1,0,1,1,1,1,1,1] (f18_2_S x0 y1 y2 y3 y4 y5 y6 y7 y8 y9 y10 y11 w12)) r:=aa.jmp (by kernel_rfl) h
theorem f18_3_J  {x0 y1 y2 y3 w4 w5:TV} {r:TV} (h:aa prog 18 (f18_3 x0 y1 y2 y3 w4 w5) r):aa prog 18 (.jmp [1,0,1,1,1,1,1,1,1,1] (f18_3_S x0 y1 y2 y3 w4 w5)) r:=aa.jmp (by kernel_rfl) h
theorem f18_4_J  {x0 y1 y2 y3 w4 w5:TV} {r:TV} (h:aa prog 18 (f18_4 x0 y1 y2 y3 w4 w5) r):aa prog 18 (.jmp [0,0,1,0,1,1,1,1,1,1,1,1] (f18_4_S x0 y1 y2 y3 w4 w5)) r:=aa.jmp (by kernel_rfl) h
end Go.Ab.Q12
end
section
set_option maxRecDepth 100000
namespace Go.Ab.Q12
open Go Go.Ab Go.Proofs
open Go.Ab.TV (hole cell comp isSl isSc isTup cellsL tup agg)
open Go.Ab.Prg (tv tvs rws nat chk call jmp ret)
def f19_0_S  (x0 x1 x2 y3 y4 y5 w6:TV):ASt:=⟨[Jk,AV.tv x0,Pt 0,Jk,Jk,Sr 1,Jk,Jk,Jk,AV.tv x1,AV.tv x2] ++ Rj 13,[some (BC.cells [CA.t y3,CA.t y4,CA.t y5]),Tr w6] ++ Rz 46,[]⟩
def f19_M (x0 x1:TV):Prg TV :=
 chk (TV.isAgg x0 3) (
 tv (plen (.slice 59) (cell x0 2)) fun v0 =>
 chk true (
 jmp [0,0,1,0,1,1] (f19_0_S x1 v0 (I 0) (cell x0 0) (cell x0 1) (cell x0 2) (TV.lit aJ))))
def f19_0  (x0 x1 x2 y3 y4 y5 w6:TV):Prg TV :=
 tv (pbin (.int .i64) .lss x2 x1) fun v1 =>
 Prg.ite (asBool v1) (
 call 17 [agg [y3,y4,y5],x2] fun v2 =>
 chk (ah zSl [v2] 0) (
 call 45 [frz v2,x0] fun v3 =>
 chk (ah ck [v3] 0) (
 Prg.ite (asBool v3) (
 chk (TV.ir x2) (
 rws (pelems 1 (TV.sl true 1 (chunks 1 1 [x2]))) fun r4 =>
 tv (papp 1 w6 (ft r4)) fun v5 =>
 tv (pbin (.int .i64) .add x2 (I 1)) fun v6 =>
 jmp [0,0,1,0,1,1] (f19_0_S x0 x1 v6 y3 y4 y5 v5))) (
 tv (pbin (.int .i64) .add x2 (I 1)) fun v7 =>
 jmp [0,0,1,0,1,1] (f19_0_S x0 x1 v7 y3 y4 y5 w6))))) (
 chk (cC w6) (
 ret w6))
theorem f19_MR (x0 x1:TV):bS prog 19 [x0,x1]=f19_M x0 x1:=by kernel_rfl
theorem f19_0_J  {x0 x1 x2 y3 y4 y5 w6:TV} {r:TV} (h:aa prog 19 (f19_0 x0 x1 x2 y3 y4 y5 w6) r):aa prog 19 (.jmp [0,0,1,0,1,1] (f19_0_S x0 x1 x2 y3 y4 y5 w6)) r:=aa.jmp (by kernel_rfl) h
def f20_0_S  (x0 x1 y2 y3 y4 w5:TV):ASt:=⟨[Jk,AV.tv x0,Pt 0,Jk,Jk,Sr 1,AV.tv x1] ++ Rj 17,[some (BC.cells [CA.t y2,CA.t y3,CA.t y4]),Tr w5] ++ Rz 46,[]⟩
def f20_M (x0 x1:TV):Prg TV :=
 chk (TV.isAgg x0 3) (
 chk true (
 jmp [0,0,1,0,1,1] (f20_0_S x1 (I 0) (cell x0 0) (cell x0 1) (cell x0 2) (TV.lit aJ))))
def f20_0  (x0 x1 y2 y3 y4 w5:TV):Prg TV :=
 tv (plen (.slice 59) y4) fun v0 =>
 tv (pbin (.int .i64) .lss x1 v0) fun v1 =>
 Prg.ite (asBool v1) (
 call 18 [agg [y2,y3,y4],x1] fun v2 =>
 chk (ah zSl [v2] 0) (
 call 26 [frz v2,x0] fun v3 =>
 chk (ah ck [v3] 0) (
 Prg.ite (asBool v3) (
 chk (TV.ir x1) (
 rws (pelems 1 (TV.sl true 1 (chunks 1 1 [x1]))) fun r4 =>
 tv (papp 1 w5 (ft r4)) fun v5 =>
 tv (pbin (.int .i64) .add x1 (I 1)) fun v6 =>
 jmp [0,0,1,0,1,1] (f20_0_S x0 v6 y2 y3 y4 v5))) (
 tv (pbin (.int .i64) .add x1 (I 1)) fun v7 =>
 jmp [0,0,1,0,1,1] (f20_0_S x0 v7 y2 y3 y4 w5))))) (
 ret w5)
theorem f20_MR (x0 x1:TV):bS prog 20 [x0,x1]=f20_M x0 x1:=by kernel_rfl
theorem f20_0_J  {x0 x1 y2 y3 y4 w5:TV} {r:TV} (h:aa prog 20 (f20_0 x0 x1 y2 y3 y4 w5) r):aa prog 20 (.jmp [0,0,1,0,1,1] (f20_0_S x0 x1 y2 y3 y4 w5)) r:=aa.jmp (by kernel_rfl) h
def f21_0_S  (x0 x1 x2:TV):ASt:=⟨[AV.tv x0,AV.tv x1,Jk,Jk,Jk,AV.tv x2] ++ Rj 20,Rz 50,[]⟩
def f21_M (x0 x1:TV):Prg TV :=
 tv (plen (.slice 4) x0) fun v0 =>
 tv (plen (.slice 4) x1) fun v1 =>
 tv (pbin (.int .i64) .neq v0 v1) fun v2 =>
 Prg.ite (asBool v2) (
 ret (B false)) (
 jmp [0,0,1,0,1,1] (f21_0_S x0 x1 (I 0)))
def f21_0  (x0 x1 x2:TV):Prg TV :=
 tv (plen (.slice 4) x0) fun v3 =>
 tv (pbin (.int .i64) .lss x2 v3) fun v4 =>
 Prg.ite (asBool v4) (
 tvs (pidx 1 x0 x2) fun e5 =>
 chk (Nat.blt 0 (List.length e5)) (
 tvs (pidx 1 x1 x2) fun e6 =>
 chk (Nat.blt 0 (List.length e6)) (
 tv (pbin Kd.bool .neq (nth hole e5 0) (nth hole e6 0)) fun v7 =>
 Prg.ite (asBool v7) (
 ret (B false)) (
 tv (pbin (.int .i64) .add x2 (I 1)) fun v8 =>
 jmp [0,0,1,0,1,1] (f21_0_S x0 x1 v8))))) (
 ret (B true))
theorem f21_MR (x0 x1:TV):bS prog 21 [x0,x1]=f21_M x0 x1:=by kernel_rfl
theorem f21_0_J  {x0 x1 x2:TV} {r:TV} (h:aa prog 21 (f21_0 x0 x1 x2) r):aa prog 21 (.jmp [0,0,1,0,1,1] (f21_0_S x0 x1 x2)) r:=aa.jmp (by kernel_rfl) h
def f22_0_S  (x0 x1 w2 w3:TV):ASt:=⟨[Jk,Jk,Jk,Sr 0] ++ Rj 7 ++ [Sr 1,AV.tv x0,AV.tv x1] ++ Rj 8,[Tr w2,Tr w3] ++ Rz 44,[]⟩
def f22_M (x0:TV):Prg TV :=
 chk (TV.isAgg x0 3) (
 tv (plen (.slice 59) (cell x0 2)) fun v0 =>
 nat (al v0) fun n1 =>
 nat (al v0) fun n2 =>
 chk (Bool.and (Nat.ble n1 n2) (Nat.ble n2 4294967296)) (
 call 24 [agg [cell x0 0,cell x0 1,cell x0 2]] fun v3 =>
 chk (ah zSl [v3] 0) (
 tv (plen (.slice 3) v3) fun v4 =>
 jmp [0,0,1,0,1,1] (f22_0_S v4 (I 0) (TV.sl true 1 (List.replicate n1 [B false])) v3))))
def f22_0  (x0 x1 w2 w3:TV):Prg TV :=
 tv (pbin (.int .i64) .lss x1 x0) fun v5 =>
 Prg.ite (asBool v5) (
 nat (slLen w3) fun n6 =>
 nat (al x1) fun n7 =>
 chk (Bool.and (slSize w3 1) (Nat.blt n7 n6)) (
 tvs (pel w3 n7) fun e8 =>
 chk (ah ei e8 0) (
 nat (slLen w2) fun n9 =>
 nat (al (nth hole e8 0)) fun n10 =>
 chk (Bool.and (slSize w2 1) (Nat.blt n10 n9)) (
 tvs (pel w2 n10) fun e11 =>
 chk (ah ck e11 0) (
 tv (gY [] w2 n10 0 [B true]) fun v12 =>
 tv (pbin (.int .i64) .add x1 (I 1)) fun v13 =>
 jmp [0,0,1,0,1,1] (f22_0_S x0 v13 v12 w3)))))) (
 ret w2)
theorem f22_MR (x0:TV):bS prog 22 [x0]=f22_M x0:=by kernel_rfl
theorem f22_0_J  {x0 x1 w2 w3:TV} {r:TV} (h:aa prog 22 (f22_0 x0 x1 w2 w3) r):aa prog 22 (.jmp [0,0,1,0,1,1] (f22_0_S x0 x1 w2 w3)) r:=aa.jmp (by kernel_rfl) h
def f23_M (x0:TV):Prg TV :=
 chk (TV.isAgg x0 3) (
 call 46 [agg [cell x0 0,cell x0 1,cell x0 2],TV.lit (Value.int IntKind.i64 (-1))] fun v0 =>
 chk (ah zSl [v0] 0) (
 ret v0))
theorem f23_MR (x0:TV):bS prog 23 [x0]=f23_M x0:=by kernel_rfl
def f24_0_S  (w0 y1 y2 y3 w4 w5 w6:TV):ASt:=⟨[Jk,Sr 0] ++ Rj 5 ++ [Pt 1] ++ Rj 22,[Tr w0,some (BC.cells [CA.fn1 48 2,CA.sref 3 0 [],CA.sref 4 0 [],CA.sref 5 0 []]),some (BC.cells [CA.t y1,CA.t y2,CA.t y3]),Tr w4,Tr w5,Tr w6] ++ Rz 65,Rj 17⟩
def f24_1_S  (x0 x1 w2 y3 y4 y5 w6 w7 w8:TV):ASt:=⟨Rj 7 ++ [Pt 0] ++ Rj 6 ++ [Sr 1,AV.tv x0,AV.tv x1] ++ Rj 13,[some (BC.cells [CA.fn1 48 2,CA.sref 3 0 [],CA.sref 4 0 [],CA.sref 5 0 []]),Tr w2,some (BC.cells [CA.t y3,CA.t y4,CA.t y5]),Tr w6,Tr w7,Tr w8] ++ Rz 65,Rj 17⟩
def f24_2_S  (x0 x1 w2 y3 y4 y5 w6 w7 w8:TV):ASt:=⟨Rj 7 ++ [Pt 0] ++ Rj 6 ++ [Sr 1,AV.tv x0,AV.tv x1] ++ Rj 13,[some (BC.cells [CA.fn1 48 2,CA.sref 3 0 [],CA.sref 4 0 [],CA.sref 5 0 []]),Tr w2,some (BC.cells [CA.t y3,CA.t y4,CA.t y5]),Tr w6,Tr w7,Tr w8] ++ Rz 65,Rj 17⟩
def f24_3_S  (x0 x1 w2:TV):ASt:=⟨[Sr 0,Jk,AV.tv x0,AV.tv x1] ++ Rj 24,[Tr w2] ++ Rz 68,([Jk,Jk,Jk,Sr 0] ++ Rj 13)⟩
def f24_M (x0:TV):Prg TV :=
 chk (TV.isAgg x0 3) (
 tv (plen (.slice 59) (cell x0 2)) fun v0 =>
 tv (pbin (.int .i64) .eql v0 (I 0)) fun v1 =>
 Prg.ite (asBool v1) (
 chk true (
 ret (TV.lit aJ))) (
 tv (plen (.slice 59) (cell x0 2)) fun v2 =>
 nat (al v2) fun n3 =>
 nat (al v2) fun n4 =>
 chk (Bool.and (Nat.ble n3 n4) (Nat.ble n4 4294967296)) (
 chk true (
 chk true (
 jmp [1,1,12,0,1,1] (f24_0_S (TV.sl true 1 (chunks 1 1 [I 0])) (cell x0 0) (cell x0 1) (cell x0 2) (TV.sl true 1 (List.replicate n3 [B false])) (TV.lit aJ) (TV.lit aJ)))))))
def f24_0  (w0 y1 y2 y3 w4 w5 w6:TV):Prg TV :=
 tv (plen (.slice 3) w0) fun v5 =>
 jmp [0,0,1,0,1,1,12,0,1,1] (f24_1_S v5 (I 0) w0 y1 y2 y3 w4 (di w5) w6)
def f24_1  (x0 x1 w2 y3 y4 y5 w6 w7 w8:TV):Prg TV :=
 tv (pbin (.int .i64) .lss x1 x0) fun v6 =>
 Prg.ite (asBool v6) (
 nat (slLen w2) fun n7 =>
 nat (al x1) fun n8 =>
 chk (Bool.and (slSize w2 1) (Nat.blt n8 n7)) (
 tvs (pel w2 n8) fun e9 =>
 chk (ah ei e9 0) (
 nat (slLen w6) fun n10 =>
 nat (al (nth hole e9 0)) fun n11 =>
 chk (Bool.and (slSize w6 1) (Nat.blt n11 n10)) (
 tvs (pel w6 n11) fun e12 =>
 chk (ah ck e12 0) (
 tv (pun .not (nth hole e12 0)) fun v13 =>
 Prg.ite (asBool v13) (
 nat (slLen w6) fun n14 =>
 nat (al (nth hole e9 0)) fun n15 =>
 chk (Bool.and (slSize w6 1) (Nat.blt n15 n14)) (
 tvs (pel w6 n15) fun e16 =>
 chk (ah ck e16 0) (
 tv (gY [] w6 n15 0 [B true]) fun v17 =>
 call 48 [sU (nth hole e9 0),agg [y3,y4,y5]] fun v18 =>
 chk (ah zSl [v18] 0) (
 rws (pelems 2 (TV.sl true 2 (chunks 2 1 [nth hole e9 0,v18]))) fun r19 =>
 tv (papp 2 w7 r19) fun v20 =>
 jmp [0,0,1,1,0,0,1,1,0,0,1,0,1,1,12,0,1,1] (f24_2_S x0 x1 w2 y3 y4 y5 v17 (di v20) w8))))) (
 jmp [0,0,1,1,0,0,1,1,0,0,1,0,1,1,12,0,1,1] (f24_2_S x0 x1 w2 y3 y4 y5 w6 (di w7) w8))))))) (
 tv (plen (.slice 3) w8) fun v21 =>
 tv (pbin (.int .i64) .sub v21 (I 1)) fun v22 =>
 jmp [0,0,1,4,0,1,1,1] (f24_3_S (I 0) v22 w8))
def f24_2  (x0 x1 w2 y3 y4 y5 w6 w7 w8:TV):Prg TV :=
 tv (plen (.slice 126) w7) fun v23 =>
 tv (pbin (.int .i64) .gtr v23 (I 0)) fun v24 =>
 Prg.ite (asBool v24) (
 tv (plen (.slice 126) w7) fun v25 =>
 tv (pbin (.int .i64) .sub v25 (I 1)) fun v26 =>
 nat (slLen w7) fun n27 =>
 nat (al v26) fun n28 =>
 chk (Bool.and (slSize w7 2) (Nat.blt n28 n27)) (
 tvs (pel w7 n28) fun e29 =>
 chk (ah zSl e29 1) (
 tv (cD [(n28,1)] w7) fun v30 =>
 tv (plen (.slice 3) v30) fun v31 =>
 tv (pbin (.int .i64) .eql v31 (I 0)) fun v32 =>
 Prg.ite (asBool v32) (
 tv (plen (.slice 126) w7) fun v33 =>
 tv (pbin (.int .i64) .sub v33 (I 1)) fun v34 =>
 nat (slLen w7) fun n35 =>
 nat (al v34) fun n36 =>
 chk (Bool.and (slSize w7 2) (Nat.blt n36 n35)) (
 tvs (pel w7 n36) fun e37 =>
 chk (ah ei e37 0) (
 rws (pelems 1 (TV.sl true 1 (chunks 1 1 [nth hole e37 0]))) fun r38 =>
 tv (papp 1 w8 (ft r38)) fun v39 =>
 nat (slLen w7) fun n40 =>
 nat (al v34) fun n41 =>
 chk (Bool.and (Bool.and (slSize w7 2) (Nat.ble 0 (Option.getD (some n41) n40))) (Nat.ble (Option.getD (some n41) n40) n40)) (
 tv (d7 0 ((Option.getD (some n41) n40) - 0) w7) fun v42 =>
 jmp [0,0,1,1,0,0,1,1,0,0,1,0,1,1,12,0,1,1] (f24_2_S x0 x1 w2 y3 y4 y5 w6 (di v42) v39))))) (
 tvs (pel w7 n28) fun e43 =>
 chk (ah zSl e43 1) (
 tv (cD [(n28,1)] w7) fun v44 =>
 nat (slLen v44) fun n45 =>
 nat (al (I 0)) fun n46 =>
 chk (Bool.and (slSize v44 1) (Nat.blt n46 n45)) (
 tv (cD [(n28,1)] w7) fun v47 =>
 tvs (pel v47 n46) fun e48 =>
 chk (ah ei e48 0) (
 tvs (pel w7 n28) fun e49 =>
 chk (ah zSl e49 1) (
 tv (cD [(n28,1)] w7) fun v50 =>
 nat (slLen v50) fun n51 =>
 nat (al (I 1)) fun n52 =>
 chk (Bool.and (Bool.and (slSize v50 1) (Nat.ble (Option.getD (some n52) 0) (Option.getD none n51))) (Nat.ble (Option.getD none n51) n51)) (
 tv (cD [(n28,1)] w7) fun v53 =>
 tv (d7 (Option.getD (some n52) 0) ((Option.getD none n51) - (Option.getD (some n52) 0)) v53) fun v54 =>
 chk (TV.gB v54) (
 tvs (pel w7 n28) fun e55 =>
 chk (Bool.and (gI zSl e55 1) (ah zSl [v54] 0)) (
 tv (gY [] w7 n28 1 [v54]) fun v56 =>
 nat (slLen w6) fun n57 =>
 nat (al (nth hole e48 0)) fun n58 =>
 chk (Bool.and (slSize w6 1) (Nat.blt n58 n57)) (
 tvs (pel w6 n58) fun e59 =>
 chk (ah ck e59 0) (
 tv (pun .not (nth hole e59 0)) fun v60 =>
 Prg.ite (asBool v60) (
 nat (slLen w6) fun n61 =>
 nat (al (nth hole e48 0)) fun n62 =>
 chk (Bool.and (slSize w6 1) (Nat.blt n62 n61)) (
 tvs (pel w6 n62) fun e63 =>
 chk (ah ck e63 0) (
 tv (gY [] w6 n62 0 [B true]) fun v64 =>
 call 48 [sU (nth hole e48 0),agg [y3,y4,y5]] fun v65 =>
 chk (ah zSl [v65] 0) (
 rws (pelems 2 (TV.sl true 2 (chunks 2 1 [nth hole e48 0,v65]))) fun r66 =>
 tv (papp 2 v56 r66) fun v67 =>
 jmp [0,0,1,1,0,0,1,1,0,0,1,0,1,1,12,0,1,1] (f24_2_S x0 x1 w2 y3 y4 y5 v64 (di v67) w8))))) (
 jmp [0,0,1,1,0,0,1,1,0,0,1,0,1,1,12,0,1,1] (f24_2_S x0 x1 w2 y3 y4 y5 w6 (di v56) w8))))))))))))))) (
 tv (pbin (.int .i64) .add x1 (I 1)) fun v68 =>
 jmp [0,0,1,0,1,1,12,0,1,1] (f24_1_S x0 v68 w2 y3 y4 y5 w6 (di w7) w8))
def f24_3  (x0 x1 w2:TV):Prg TV :=
 tv (pbin (.int .i64) .lss x0 x1) fun v69 =>
 Prg.ite (asBool v69) (
 nat (slLen w2) fun n70 =>
 nat (al x1) fun n71 =>
 chk (Bool.and (slSize w2 1) (Nat.blt n71 n70)) (
 tvs (pel w2 n71) fun e72 =>
 chk (ah ei e72 0) (
 nat (slLen w2) fun n73 =>
 nat (al x0) fun n74 =>
 chk (Bool.and (slSize w2 1) (Nat.blt n74 n73)) (
 tvs (pel w2 n74) fun e75 =>
 chk (ah ei e75 0) (
 nat (slLen w2) fun n76 =>
 nat (al x0) fun n77 =>
 chk (Bool.and (slSize w2 1) (Nat.blt n77 n76)) (
 tvs (pel w2 n77) fun e78 =>
 chk (ah ei e78 0) (
 tv (gY [] w2 n77 0 [nth hole e72 0]) fun v79 =>
 nat (slLen v79) fun n80 =>
 nat (al x1) fun n81 =>
 chk (Bool.and (slSize v79 1) (Nat.blt n81 n80)) (
 tvs (pel v79 n81) fun e82 =>
 chk (ah ei e82 0) (
 tv (gY [] v79 n81 0 [nth hole e75 0]) fun v83 =>
 tv (pbin (.int .i64) .add x0 (I 1)) fun v84 =>
 tv (pbin (.int .i64) .sub x1 (I 1)) fun v85 =>
 jmp [0,0,1,4,0,1,1,1] (f24_3_S v84 v85 v83)))))))))) (
 chk (cC w2) (
 ret w2))
theorem f24_MR (x0:TV):bS prog 24 [x0]=f24_M x0:=by kernel_rfl
theorem f24_0_J  {w0 y1 y2 y3 w4 w5 w6:TV} {r:TV} (h:aa prog 24 (f24_0 w0 y1 y2 y3 w4 w5 w6) r):aa prog 24 (.jmp [1,1,12,0,1,1] (f24_0_S w0 y1 y2 y3 w4 w5 w6)) r:=aa.jmp (by kernel_rfl) h
theorem f24_1_J  {x0 x1 w2 y3 y4 y5 w6 w7 w8:TV} {r:TV} (h:aa prog 24 (f24_1 x0 x1 w2 y3 y4 y5 w6 w7 w8) r):aa prog 24 (.jmp [0,0,1,0,1,1,12,0,1,1] (f24_1_S x0 x1 w2 y3 y4 y5 w6 w7 w8)) r:=aa.jmp (by kernel_rfl) h
theorem f24_2_J  {x0 x1 w2 y3 y4 y5 w6 w7 w8:TV} {r:TV} (h:aa prog 24 (f24_2 x0 x1 w2 y3 y4 y5 w6 w7 w8) r):aa prog 24 (.jmp [0,0,1,1,0,0,1,1,0,0,1,0,1,1,12,0,1,1] (f24_2_S x0 x1 w2 y3 y4 y5 w6 w7 w8)) r:=aa.jmp (by kernel_rfl) h
theorem f24_3_J  {x0 x1 w2:TV} {r:TV} (h:aa prog 24 (f24_3 x0 x1 w2) r):aa prog 24 (.jmp [0,0,1,4,0,1,1,1] (f24_3_S x0 x1 w2)) r:=aa.jmp (by kernel_rfl) h
def f25_0_S  (y0 y1 y2 w3 w4 w5 w6:TV):ASt:=⟨[Jk,Pt 0,Jk,Sr 1,Sr 2,Sr 3,Sr 4] ++ Rj 80,[some (BC.cells [CA.t y0,CA.t y1,CA.t y2]),Tr w3,Tr w4,Tr w5,Tr w6] ++ Rz 106,[]⟩
def f25_1_S  (y0 y1 y2 w3 w4 w5 w6:TV):ASt:=⟨[Jk,Pt 0,Jk,Sr 1,Sr 2,Sr 3,Sr 4] ++ Rj 80,[some (BC.cells [CA.t y0,CA.t y1,CA.t y2]),Tr w3,Tr w4,Tr w5,Tr w6] ++ Rz 106,[]⟩
def f25_M (x0:TV):Prg TV :=
 chk (TV.isAgg x0 3) (
 tv (plen (.slice 59) (cell x0 2)) fun v0 =>
 nat (al v0) fun n1 =>
 nat (al v0) fun n2 =>
 chk (Bool.and (Nat.ble n1 n2) (Nat.ble n2 4294967296)) (
 tv (plen (.slice 59) (cell x0 2)) fun v3 =>
 tv (pbin (.int .i64) .gtr v3 (I 0)) fun v4 =>
 Prg.ite (asBool v4) (
 rws (pelems 1 (TV.sl true 1 (chunks 1 1 [I 0]))) fun r5 =>
 tv (papp 1 (TV.lit aJ) (ft r5)) fun v6 =>
 rws (pelems 1 (TV.sl true 1 (chunks 1 1 [I 0]))) fun r7 =>
 tv (papp 1 (TV.lit aJ) (ft r7)) fun v8 =>
 nat (slLen (TV.sl true 1 (List.replicate n1 [B false]))) fun n9 =>
 nat (al (I 0)) fun n10 =>
 chk (Bool.and (slSize (TV.sl true 1 (List.replicate n1 [B false])) 1) (Nat.blt n10 n9)) (
 tvs (pel (TV.sl true 1 (List.replicate n1 [B false])) n10) fun e11 =>
 chk (ah ck e11 0) (
 tv (gY [] (TV.sl true 1 (List.replicate n1 [B false])) n10 0 [B true]) fun v12 =>
 chk true (
 jmp [1,1,1,1] (f25_0_S (cell x0 0) (cell x0 1) (cell x0 2) v12 v6 v8 (TV.lit aJ)))))) (
 chk true (
 chk true (
 chk true (
 jmp [1,1,1,1] (f25_0_S (cell x0 0) (cell x0 1) (cell x0 2) (TV.sl true 1 (List.replicate n1 [B false])) (TV.lit aJ) (TV.lit aJ) (TV.lit aJ))))))))
def f25_0  (y0 y1 y2 w3 w4 w5 w6:TV):Prg TV :=
 jmp [0,0,0,1,1,1,1] (f25_1_S y0 y1 y2 w3 w4 w5 w6)
def f25_1  (y0 y1 y2 w3 w4 w5 w6:TV):Prg TV :=
 tv (plen (.slice 3) w4) fun v13 =>
 tv (pbin (.int .i64) .gtr v13 (I 0)) fun v14 =>
 Prg.ite (asBool v14) (
 tv (plen (.slice 3) w4) fun v15 =>
 tv (pbin (.int .i64) .sub v15 (I 1)) fun v16 =>
 nat (slLen w4) fun n17 =>
 nat (al v16) fun n18 =>
 chk (Bool.and (slSize w4 1) (Nat.blt n18 n17)) (
 tvs (pel w4 n18) fun e19 =>
 chk (ah ei e19 0) (
 call 18 [agg [y0,y1,y2],nth hole e19 0] fun v20 =>
 chk (ah zSl [v20] 0) (
 nat (slLen w5) fun n21 =>
 nat (al v16) fun n22 =>
 chk (Bool.and (slSize w5 1) (Nat.blt n22 n21)) (
 tvs (pel w5 n22) fun e23 =>
 chk (ah ei e23 0) (
 tv (plen (.slice 3) v20) fun v24 =>
 tv (pbin (.int .i64) .eql (nth hole e23 0) v24) fun v25 =>
 Prg.ite (asBool v25) (
 nat (slLen w4) fun n26 =>
 nat (al v16) fun n27 =>
 chk (Bool.and (slSize w4 1) (Nat.blt n27 n26)) (
 tvs (pel w4 n27) fun e28 =>
 chk (ah ei e28 0) (
 rws (pelems 1 w6) fun r29 =>
 tv (papp 1 (TV.sl true 1 (chunks 1 1 [nth hole e28 0])) (ft r29)) fun v30 =>
 nat (slLen w4) fun n31 =>
 nat (al v16) fun n32 =>
 chk (Bool.and (Bool.and (slSize w4 1) (Nat.ble 0 (Option.getD (some n32) n31))) (Nat.ble (Option.getD (some n32) n31) n31)) (
 nat (slLen w5) fun n33 =>
 nat (al v16) fun n34 =>
 chk (Bool.and (Bool.and (slSize w5 1) (Nat.ble 0 (Option.getD (some n34) n33))) (Nat.ble (Option.getD (some n34) n33) n33)) (
 tv (d7 0 ((Option.getD (some n32) n31) - 0) w4) fun v35 =>
 tv (d7 0 ((Option.getD (some n34) n33) - 0) w5) fun v36 =>
 jmp [0,0,0,1,1,1,1] (f25_1_S y0 y1 y2 w3 v35 v36 v30)))))) (
 nat (slLen w5) fun n37 =>
 nat (al v16) fun n38 =>
 chk (Bool.and (slSize w5 1) (Nat.blt n38 n37)) (
 tvs (pel w5 n38) fun e39 =>
 chk (ah ei e39 0) (
 nat (slLen v20) fun n40 =>
 nat (al (nth hole e39 0)) fun n41 =>
 chk (Bool.and (slSize v20 1) (Nat.blt n41 n40)) (
 tvs (pel v20 n41) fun e42 =>
 chk (ah ei e42 0) (
 nat (slLen w5) fun n43 =>
 nat (al v16) fun n44 =>
 chk (Bool.and (slSize w5 1) (Nat.blt n44 n43)) (
 tvs (pel w5 n44) fun e45 =>
 chk (ah ei e45 0) (
 tv (pbin (.int .i64) .add (nth hole e45 0) (I 1)) fun v46 =>
 nat (slLen w5) fun n47 =>
 nat (al v16) fun n48 =>
 chk (Bool.and (slSize w5 1) (Nat.blt n48 n47)) (
 tvs (pel w5 n48) fun e49 =>
 chk (ah ei e49 0) (
 tv (gY [] w5 n48 0 [v46]) fun v50 =>
 nat (slLen w3) fun n51 =>
 nat (al (nth hole e42 0)) fun n52 =>
 chk (Bool.and (slSize w3 1) (Nat.blt n52 n51)) (
 tvs (pel w3 n52) fun e53 =>
 chk (ah ck e53 0) (
 tv (pun .not (nth hole e53 0)) fun v54 =>
 Prg.ite (asBool v54) (
 nat (slLen w3) fun n55 =>
 nat (al (nth hole e42 0)) fun n56 =>
 chk (Bool.and (slSize w3 1) (Nat.blt n56 n55)) (
 tvs (pel w3 n56) fun e57 =>
 chk (ah ck e57 0) (
 tv (gY [] w3 n56 0 [B true]) fun v58 =>
 rws (pelems 1 (TV.sl true 1 (chunks 1 1 [nth hole e42 0]))) fun r59 =>
 tv (papp 1 w4 (ft r59)) fun v60 =>
 rws (pelems 1 (TV.sl true 1 (chunks 1 1 [I 0]))) fun r61 =>
 tv (papp 1 v50 (ft r61)) fun v62 =>
 jmp [0,0,0,1,1,1,1] (f25_1_S y0 y1 y2 v58 v60 v62 w6)))) (
 jmp [0,0,0,1,1,1,1] (f25_1_S y0 y1 y2 w3 w4 v50 w6))))))))))))))))))) (
 ret w6)
theorem f25_MR (x0:TV):bS prog 25 [x0]=f25_M x0:=by kernel_rfl
theorem f25_0_J  {y0 y1 y2 w3 w4 w5 w6:TV} {r:TV} (h:aa prog 25 (f25_0 y0 y1 y2 w3 w4 w5 w6) r):aa prog 25 (.jmp [1,1,1,1] (f25_0_S y0 y1 y2 w3 w4 w5 w6)) r:=aa.jmp (by kernel_rfl) h
theorem f25_1_J  {y0 y1 y2 w3 w4 w5 w6:TV} {r:TV} (h:aa prog 25 (f25_1 y0 y1 y2 w3 w4 w5 w6) r):aa prog 25 (.jmp [0,0,0,1,1,1,1] (f25_1_S y0 y1 y2 w3 w4 w5 w6)) r:=aa.jmp (by kernel_rfl) h
def f26_0_S  (x0 x1 x2:TV):ASt:=⟨[AV.tv x0,AV.tv x1,Jk,Jk,Jk,AV.tv x2] ++ Rj 12,Rz 42,[]⟩
def f26_M (x0 x1:TV):Prg TV :=
 jmp [0,0,1,0,1] (f26_0_S x0 x1 (I 0))
def f26_0  (x0 x1 x2:TV):Prg TV :=
 tv (plen (.slice 3) x0) fun v0 =>
 tv (pbin (.int .i64) .lss x2 v0) fun v1 =>
 Prg.ite (asBool v1) (
 tvs (pidx 1 x0 x2) fun e2 =>
 chk (Nat.blt 0 (List.length e2)) (
 tv (pbin (.int .i64) .eql (nth hole e2 0) x1) fun v3 =>
 Prg.ite (asBool v3) (
 ret (B true)) (
 tv (pbin (.int .i64) .add x2 (I 1)) fun v4 =>
 jmp [0,0,1,0,1] (f26_0_S x0 x1 v4)))) (
 ret (B false))
theorem f26_MR (x0 x1:TV):bS prog 26 [x0,x1]=f26_M x0 x1:=by kernel_rfl
theorem f26_0_J  {x0 x1 x2:TV} {r:TV} (h:aa prog 26 (f26_0 x0 x1 x2) r):aa prog 26 (.jmp [0,0,1,0,1] (f26_0_S x0 x1 x2)) r:=aa.jmp (by kernel_rfl) h
def f41_M (x0 x1:TV):Prg TV :=
 chk (TV.isAgg x0 3) (
 tv (pbin (.int .i64) .leq (I 0) x1) fun v0 =>
 Prg.ite (asBool v0) (
 tv (plen (.slice 59) (cell x0 2)) fun v1 =>
 tv (pbin (.int .i64) .lss x1 v1) fun v2 =>
 ret v2) (
 ret (B false)))
theorem f41_MR (x0 x1:TV):bS prog 41 [x0,x1]=f41_M x0 x1:=by kernel_rfl
def f42_0_S  (x0 y1 y2 y3 y4 y5 y6 y7 y8 y9 y10 y11 y12 y13 y14 w15:TV):ASt:=⟨[Jk,Pt 0,Jk,Jk,Sr 1] ++ Rj 13 ++ [AV.tv x0] ++ Rj 7,[some (BC.cells [CA.t y1,CA.t y2,CA.t y3,CA.t y4,CA.t y5,CA.t y6,CA.t y7,CA.t y8,CA.t y9,CA.t y10,CA.t y11,CA.t y12,CA.t y13,CA.t y14]),Tr w15] ++ Rz 48,[]⟩
def f42_M (x0:TV):Prg TV :=
 chk (TV.isAgg x0 14) (
 call 62 [cell x0 6] fun v0 =>
 chk (ah ei [v0] 0) (
 call 63 [v0,I 64] fun v1 =>
 chk (ah ck [v1] 0) (
 Prg.ite (asBool v1) (
 rws (pelems 1 (TV.sl true 1 (chunks 1 1 [cell x0 11]))) fun r2 =>
 tv (papp 1 (TV.lit aJ) (ft r2)) fun v3 =>
 call 63 [v0,I 128] fun v4 =>
 chk (ah ck [v4] 0) (
 jmp [1,0,1,1,1,1] (f42_0_S v4 (cell x0 0) (cell x0 1) (cell x0 2) (cell x0 3) (cell x0 4) (cell x0 5) (cell x0 6) (cell x0 7) (cell x0 8) (cell x0 9) (cell x0 10) (cell x0 11) (cell x0 12) (cell x0 13) v3))) (
 call 63 [v0,I 128] fun v5 =>
 chk (ah ck [v5] 0) (
 chk true (
 jmp [1,0,1,1,1,1] (f42_0_S v5 (cell x0 0) (cell x0 1) (cell x0 2) (cell x0 3) (cell x0 4) (cell x0 5) (cell x0 6) (cell x0 7) (cell x0 8) (cell x0 9) (cell x0 10) (cell x0 11) (cell x0 12) (cell x0 13) (TV.lit aJ))))))))
def f42_0  (x0 y1 y2 y3 y4 y5 y6 y7 y8 y9 y10 y11 y12 y13 y14 w15:TV):Prg TV :=
 Prg.ite (asBool x0) (
 rws (pelems 1 (TV.sl true 1 (chunks 1 1 [y13]))) fun r6 =>
 tv (papp 1 w15 (ft r6)) fun v7 =>
 chk (cC v7) (
 ret v7)) (
 chk (cC w15) (
 ret w15))
theorem f42_MR (x0:TV):bS prog 42 [x0]=f42_M x0:=by kernel_rfl
theorem f42_0_J  {x0 y1 y2 y3 y4 y5 y6 y7 y8 y9 y10 y11 y12 y13 y14 w15:TV} {r:TV} (h:aa prog 42 (f42_0 x0 y1 y2 y3 y4 y5 y6 y7 y8 y9 y10 y11 y12 y13 y14 w15) r):aa prog 42 (.jmp [1,0,1,1,1,1] (f42_0_S x0 y1 y2 y3 y4 y5 y6 y7 y8 y9 y10 y11 y12 y13 y14 w15)) r:=aa.jmp (by kernel_rfl) h
end Go.Ab.Q12
end
section
set_option maxRecDepth 100000
namespace Go.Ab.Q12
open Go Go.Ab Go.Proofs
open Go.Ab.TV (hole cell comp isSl isSc isTup cellsL tup agg)
open Go.Ab.Prg (tv tvs rws nat chk call jmp ret)
def f45_M (x0 x1:TV):Prg TV :=
 call 65 [x0,x1] fun v0 =>
 chk (ah ei [v0] 0) (
 tv (pbin (.int .i64) .geq v0 (I 0)) fun v1 =>
 ret v1)
theorem f45_MR (x0 x1:TV):bS prog 45 [x0,x1]=f45_M x0 x1:=by kernel_rfl
def f46_0_S  (x0 x1 y2 y3 y4 w5:TV):ASt:=⟨[Jk,AV.tv x0,Pt 0,Jk,Jk,Sr 1,AV.tv x1] ++ Rj 62,[some (BC.cells [CA.t y2,CA.t y3,CA.t y4]),Tr w5] ++ Rz 91,[]⟩
def f46_1_S  (x0 x1 x2 y3 y4 y5 w6:TV):ASt:=⟨[Jk,AV.tv x0,Pt 0,Jk,Jk,Sr 1,AV.tv x1,AV.tv x2] ++ Rj 61,[some (BC.cells [CA.t y3,CA.t y4,CA.t y5]),Tr w6] ++ Rz 91,[]⟩
def f46_2_S  (x0 x1 x2 x3 y4 y5 y6 w7 w8:TV):ASt:=⟨[Jk,AV.tv x0,Pt 0,Jk,Jk,Sr 1,AV.tv x1,AV.tv x2,Sr 2,AV.tv x3] ++ Rj 59,[some (BC.cells [CA.t y4,CA.t y5,CA.t y6]),Tr w7,Tr w8] ++ Rz 90,[]⟩
def f46_M (x0 x1:TV):Prg TV :=
 chk (TV.isAgg x0 3) (
 tv (plen (.slice 59) (cell x0 2)) fun v0 =>
 nat (al v0) fun n1 =>
 nat (al v0) fun n2 =>
 chk (Bool.and (Nat.ble n1 n2) (Nat.ble n2 4294967296)) (
 tv (plen (.slice 4) (TV.sl true 1 (List.replicate n1 [B false]))) fun v3 =>
 tv (pbin (.int .i64) .eql v3 (I 0)) fun v4 =>
 Prg.ite (asBool v4) (
 ret (TV.sl true 1 (List.replicate n1 [B false]))) (
 tv (pbin (.int .i64) .eql x1 (I 0)) fun v5 =>
 Prg.ite (asBool v5) (
 ret (TV.sl true 1 (List.replicate n1 [B false]))) (
 nat (slLen (TV.sl true 1 (List.replicate n1 [B false]))) fun n6 =>
 nat (al (I 0)) fun n7 =>
 chk (Bool.and (slSize (TV.sl true 1 (List.replicate n1 [B false])) 1) (Nat.blt n7 n6)) (
 tvs (pel (TV.sl true 1 (List.replicate n1 [B false])) n7) fun e8 =>
 chk (ah ck e8 0) (
 tv (gY [] (TV.sl true 1 (List.replicate n1 [B false])) n7 0 [B true]) fun v9 =>
 jmp [0,0,1,0,1,1,1,1] (f46_0_S x1 (B true) (cell x0 0) (cell x0 1) (cell x0 2) v9)))))))
def f46_0  (x0 x1 y2 y3 y4 w5:TV):Prg TV :=
 Prg.ite (asBool x1) (
 jmp [0,0,1,1,0,1,0,0,1,0,1,1,1,1] (f46_1_S x0 (B false) (I 0) y2 y3 y4 w5)) (
 ret w5)
def f46_1  (x0 x1 x2 y3 y4 y5 w6:TV):Prg TV :=
 tv (plen (.slice 4) w6) fun v10 =>
 tv (pbin (.int .i64) .lss x2 v10) fun v11 =>
 Prg.ite (asBool v11) (
 call 18 [agg [y3,y4,y5],x2] fun v12 =>
 chk (ah zSl [v12] 0) (
 jmp [0,0,1,1,0,0,1,0,0,1,1,0,1,0,0,1,0,1,1,1,1] (f46_2_S x0 x1 x2 (I 0) y3 y4 y5 w6 v12))) (
 jmp [0,0,1,0,1,1,1,1] (f46_0_S x0 x1 y3 y4 y5 w6))
def f46_2  (x0 x1 x2 x3 y4 y5 y6 w7 w8:TV):Prg TV :=
 tv (plen (.slice 3) w8) fun v13 =>
 tv (pbin (.int .i64) .lss x3 v13) fun v14 =>
 Prg.ite (asBool v14) (
 nat (slLen w7) fun n15 =>
 nat (al x2) fun n16 =>
 chk (Bool.and (slSize w7 1) (Nat.blt n16 n15)) (
 tvs (pel w7 n16) fun e17 =>
 chk (ah ck e17 0) (
 Prg.ite (asBool (nth hole e17 0)) (
 nat (slLen w8) fun n18 =>
 nat (al x3) fun n19 =>
 chk (Bool.and (slSize w8 1) (Nat.blt n19 n18)) (
 tvs (pel w8 n19) fun e20 =>
 chk (ah ei e20 0) (
 tv (pbin (.int .i64) .neq (nth hole e20 0) x0) fun v21 =>
 Prg.ite (asBool v21) (
 nat (slLen w8) fun n22 =>
 nat (al x3) fun n23 =>
 chk (Bool.and (slSize w8 1) (Nat.blt n23 n22)) (
 tvs (pel w8 n23) fun e24 =>
 chk (ah ei e24 0) (
 nat (slLen w7) fun n25 =>
 nat (al (nth hole e24 0)) fun n26 =>
 chk (Bool.and (slSize w7 1) (Nat.blt n26 n25)) (
 tvs (pel w7 n26) fun e27 =>
 chk (ah ck e27 0) (
 tv (pun .not (nth hole e27 0)) fun v28 =>
 Prg.ite (asBool v28) (
 nat (slLen w8) fun n29 =>
 nat (al x3) fun n30 =>
 chk (Bool.and (slSize w8 1) (Nat.blt n30 n29)) (
 tvs (pel w8 n30) fun e31 =>
 chk (ah ei e31 0) (
 nat (slLen w7) fun n32 =>
 nat (al (nth hole e31 0)) fun n33 =>
 chk (Bool.and (slSize w7 1) (Nat.blt n33 n32)) (
 tvs (pel w7 n33) fun e34 =>
 chk (ah ck e34 0) (
 tv (gY [] w7 n33 0 [B true]) fun v35 =>
 tv (pbin (.int .i64) .add x3 (I 1)) fun v36 =>
 jmp [0,0,1,1,0,0,1,0,0,1,1,0,1,0,0,1,0,1,1,1,1] (f46_2_S x0 (B true) x2 v36 y4 y5 y6 v35 w8)))))) (
 tv (pbin (.int .i64) .add x3 (I 1)) fun v37 =>
 jmp [0,0,1,1,0,0,1,0,0,1,1,0,1,0,0,1,0,1,1,1,1] (f46_2_S x0 x1 x2 v37 y4 y5 y6 w7 w8))))))) (
 tv (pbin (.int .i64) .add x3 (I 1)) fun v38 =>
 jmp [0,0,1,1,0,0,1,0,0,1,1,0,1,0,0,1,0,1,1,1,1] (f46_2_S x0 x1 x2 v38 y4 y5 y6 w7 w8))))) (
 tv (pbin (.int .i64) .add x3 (I 1)) fun v39 =>
 jmp [0,0,1,1,0,0,1,0,0,1,1,0,1,0,0,1,0,1,1,1,1] (f46_2_S x0 x1 x2 v39 y4 y5 y6 w7 w8))))) (
 tv (pbin (.int .i64) .add x2 (I 1)) fun v40 =>
 jmp [0,0,1,1,0,1,0,0,1,0,1,1,1,1] (f46_1_S x0 x1 v40 y4 y5 y6 w7))
theorem f46_MR (x0 x1:TV):bS prog 46 [x0,x1]=f46_M x0 x1:=by kernel_rfl
theorem f46_0_J  {x0 x1 y2 y3 y4 w5:TV} {r:TV} (h:aa prog 46 (f46_0 x0 x1 y2 y3 y4 w5) r):aa prog 46 (.jmp [0,0,1,0,1,1,1,1] (f46_0_S x0 x1 y2 y3 y4 w5)) r:=aa.jmp (by kernel_rfl) h
theorem f46_1_J  {x0 x1 x2 y3 y4 y5 w6:TV} {r:TV} (h:aa prog 46 (f46_1 x0 x1 x2 y3 y4 y5 w6) r):aa prog 46 (.jmp [0,0,1,1,0,1,0,0,1,0,1,1,1,1] (f46_1_S x0 x1 x2 y3 y4 y5 w6)) r:=aa.jmp (by kernel_rfl) h
theorem f46_2_J  {x0 x1 x2 x3 y4 y5 y6 w7 w8:TV} {r:TV} (h:aa prog 46 (f46_2 x0 x1 x2 x3 y4 y5 y6 w7 w8) r):aa prog 46 (.jmp [0,0,1,1,0,0,1,0,0,1,1,0,1,0,0,1,0,1,1,1,1] (f46_2_S x0 x1 x2 x3 y4 y5 y6 w7 w8)) r:=aa.jmp (by kernel_rfl) h
def f48_M (c0 c1 c2 x0:TV):Prg TV :=
 chk (Nat.ble 3 (List.length [c0,c1,c2])) (
 call 17 [agg [c0,c1,c2],x0] fun v0 =>
 chk (ah zSl [v0] 0) (
 chk (cC v0) (
 ret v0)))
theorem f48_MR (c0 c1 c2 x0:TV):bS prog 48 [x0,agg [c0,c1,c2]]=f48_M c0 c1 c2 x0:=by kernel_rfl
end Go.Ab.Q12
end
section
set_option maxRecDepth 100000
namespace Go.Ab.Q12
open Go Go.Ab Go.Proofs
open Go.Ab.TV (hole cell comp isSl isSc isTup cellsL tup agg)
open Go.Ab.Prg (tv tvs rws nat chk call jmp ret)
def f62_M (x0:TV):Prg TV :=
 tv (pbin (.int .i64) .eql x0 (I 1)) fun v0 =>
 Prg.ite (asBool v0) (
 Prg.ite (asBool v0) (
 ret (I 5)) (
 tv (pbin (.int .i64) .eql x0 (I 2)) fun v1 =>
 Prg.ite (asBool v1) (
 ret (I 65)) (
 tv (pbin (.int .i64) .eql x0 (I 3)) fun v2 =>
 Prg.ite (asBool v2) (
 ret (I 197)) (
 tv (pbin (.int .i64) .eql x0 (I 4)) fun v3 =>
 Prg.ite (asBool v3) (
 ret (I 355)) (
 tv (pbin (.int .i64) .eql x0 (I 6)) fun v4 =>
 Prg.ite (asBool v4) (
 ret (I 1)) (
 ret (I 0))))))) (
 tv (pbin (.int .i64) .eql x0 (I 5)) fun v5 =>
 Prg.ite (asBool v5) (
 ret (I 5)) (
 tv (pbin (.int .i64) .eql x0 (I 2)) fun v6 =>
 Prg.ite (asBool v6) (
 ret (I 65)) (
 tv (pbin (.int .i64) .eql x0 (I 3)) fun v7 =>
 Prg.ite (asBool v7) (
 ret (I 197)) (
 tv (pbin (.int .i64) .eql x0 (I 4)) fun v8 =>
 Prg.ite (asBool v8) (
 ret (I 355)) (
 tv (pbin (.int .i64) .eql x0 (I 6)) fun v9 =>
 Prg.ite (asBool v9) (
 ret (I 1)) (
 ret (I 0)))))))
theorem f62_MR (x0:TV):bS prog 62 [x0]=f62_M x0:=by kernel_rfl
def f63_M (x0 x1:TV):Prg TV :=
 tv (pbin (.int .i64) .and x0 x1) fun v0 =>
 tv (pbin (.int .i64) .neq v0 (I 0)) fun v1 =>
 ret v1
theorem f63_MR (x0 x1:TV):bS prog 63 [x0,x1]=f63_M x0 x1:=by kernel_rfl
def f65_0_S  (x0 x1 x2 x3:TV):ASt:=⟨[AV.tv x0,AV.tv x1] ++ Rj 5 ++ [AV.tv x2,AV.tv x3] ++ Rj 10,Rz 43,[]⟩
def f65_M (x0 x1:TV):Prg TV :=
 tv (plen (.slice 3) x0) fun v0 =>
 jmp [0,0,1,0,1] (f65_0_S x0 x1 v0 (I 0))
def f65_0  (x0 x1 x2 x3:TV):Prg TV :=
 tv (pbin (.int .i64) .lss x3 x2) fun v1 =>
 Prg.ite (asBool v1) (
 tvs (pidx 1 x0 x3) fun e2 =>
 chk (Nat.blt 0 (List.length e2)) (
 tv (pbin (.int .i64) .eql x1 (nth hole e2 0)) fun v3 =>
 Prg.ite (asBool v3) (
 ret x3) (
 tv (pbin (.int .i64) .add x3 (I 1)) fun v4 =>
 jmp [0,0,1,0,1] (f65_0_S x0 x1 x2 v4)))) (
 ret (TV.lit (Value.int IntKind.i64 (-1))))
theorem f65_MR (x0 x1:TV):bS prog 65 [x0,x1]=f65_M x0 x1:=by kernel_rfl
theorem f65_0_J  {x0 x1 x2 x3:TV} {r:TV} (h:aa prog 65 (f65_0 x0 x1 x2 x3) r):aa prog 65 (.jmp [0,0,1,0,1] (f65_0_S x0 x1 x2 x3)) r:=aa.jmp (by kernel_rfl) h
end Go.Ab.Q12
end
section
set_option maxRecDepth 10000
namespace Go.Ab.Q12
open Go Go.Ab Go.Proofs
theorem r14 {q q':Option Bool} {x y:TV} {l m:List Int} (hx:RInts q x l) (hy:RInts q' y m):bn prog 16 [x,y] (B (tt (l=m))):=by
 refine bn.of (f16_MR _ _) ?_
 unfold f16_M
 repeat' (first
  | refine aa.chk rfl ?_
  | refine aa.tv rfl ?_
  | refine aa.tv (RL.len (by assumption)) ?_
  | refine aa.nat rfl ?_
  | refine aa.ite rfl (fun _=>?_) (fun _=>?_)
  | refine aa.call (by assumption) ?_
  | refine aa.tvs (by assumption) ?_)
 ·rename_i h
  have h:¬ l=m:=by rintro rfl; simp at h
  exact Aw h
 ·rename_i h
  have hlen:l.length=m.length:=by simp at h; omega
  refine f16_0_J ?_
  rw [kU (na hlen)]
  refine uR (g:=fun k=>f16_0 x y (I k)) ?_ ?_
  ·unfold f16_0
   refine aa.tv hx.len (aa.tv rfl (aa.ite dV nofun fun _=>aa.ret))
  ·intro k hk r h1 h2
   have hk':k < m.length:=by omega
   have ha:l[k]? = some l[k]:=Cr hk
   have hb:m[k]? = some m[k]:=Cr hk'
   obtain ⟨e,he,rfl,_⟩:=hx.idx (k:=.i64) ha
   obtain ⟨e',he',rfl,_⟩:=hy.idx (k:=.i64) hb
   unfold f16_0
   refine aa.tv hx.len (aa.tv rfl (aa.ite (cN hk) (fun _=>?_) nofun))
   refine aa.tvs he (aa.chk rfl (aa.tvs he' (aa.chk rfl (aa.tv rfl (aa.ite rfl (fun h=>?_) fun h=>?_)))))
   ·rw [h1 (by rw [ha,hb]; simpa using h)]; exact aa.ret
   ·refine aa.tv (inc hk hx.bnd) (f16_0_J (h2 ?_))
    rw [ha,hb]; simpa using h
end Go.Ab.Q12
end
section
set_option maxRecDepth 10000
namespace Go.Ab
end Go.Ab
namespace Go.Ab.Q12
open Go Go.Ab Go.Proofs
def iz (k:Int):Int :=
 if k=1 then 5 else if k=5 then 5 else if k=2 then 65 else if k=3 then 197 else if k=4 then 355 else if k=6 then 1 else 0
def has (u f:Int):Bool:=decide (¬ IntKind.i64.wrap ((BitVec.ofInt 64 u &&& BitVec.ofInt 64 f).toNat:Int)=0)
theorem r25 (u f:Int):bn prog 63 [I u,I f] (B (has u f)):=by
 refine bn.of (f63_MR _ _) ?_
 unfold f63_M
 repeat' (first
  | refine aa.chk rfl ?_
  | refine aa.tv rfl ?_
  | refine aa.tv (RL.len (by assumption)) ?_
  | refine aa.nat rfl ?_
  | refine aa.ite rfl (fun _=>?_) (fun _=>?_)
  | refine aa.call (by assumption) ?_
  | refine aa.tvs (by assumption) ?_)
 refine ia.2 ?_
 simp [has]
 rfl
theorem r24 (k:Int):bn prog 62 [I k] (I (iz k)):=by
 refine bn.of (f62_MR _) ?_
 unfold f62_M
 repeat' (first
  | refine aa.chk rfl ?_
  | refine aa.tv rfl ?_
  | refine aa.tv (RL.len (by assumption)) ?_
  | refine aa.nat rfl ?_
  | refine aa.ite rfl (fun _=>?_) (fun _=>?_)
  | refine aa.call (by assumption) ?_
  | refine aa.tvs (by assumption) ?_)
 all_goals (refine ia.2 ?_; simp_all [iz])
end Go.Ab.Q12
end
section
set_option maxRecDepth 10000
namespace Go.Ab
theorem bi {k:Nat} (h:k<=9223372036854775807):al (I (k:Int))=some k:=by
 simp [al]; omega
end Go.Ab
namespace Go.Ab.Q12
open Go Go.Ab Go.Proofs
end Go.Ab.Q12
end
section
set_option maxRecDepth 10000
namespace Go.Ab
section
variable {α:Type} {s:Nat} {R S:Nat->List TV->α->Prop} {x:TV} {l:List α}
theorem ri {β:Type}:∀ (l:List β) (n:Nat) (b:β),(am l n b).length=l.length
 | [],_,_=>rfl
 | _ :: _,0,_=>rfl
 | a :: l,n + 1,b=>by simp [am,ri l n b]
end
theorem RL.gB {α:Type} {s:Nat} {R:List TV->α->Prop} {x:TV} {l:List α} (h:RL (some false) s R x l):x.gB=true:=by
 rcases h with ⟨rfl,rfl⟩ | ⟨o,xs,rfl,hq,h,hb⟩
 ·rfl
 ·rw [hq false rfl]; rfl
theorem ph:∀ (xs:List (List TV)),(∀ e ∈ xs,io e=true)->ly xs=true
 | [],_=>rfl
 | e :: xs,h=>by
  simp only [ly,Cu]
  exact ⟨h e Cy,ph xs fun e he=>h e (Cz _ he)⟩
theorem F2.memL {α β:Type} {R:α->β->Prop} {xs:List α} {l:List β} (h:F2 R xs l) {e:α} (he:e ∈ xs):∃ a,a ∈ l/\R e a:=by
 obtain ⟨i,hi,rfl⟩:=List.mem_iff_getElem.1 he
 obtain ⟨a,ha,hr⟩:=h.getL (Cr hi)
 exact ⟨a,CB ha,hr⟩
theorem RL.own {α:Type} {s:Nat} {R:List TV->α->Prop} {x:TV} {l:List α} (h:RL (some true) s R x l) (hm:∀ e a,R e a->io e=true):cC x=true:=by
 rcases h with ⟨rfl,rfl⟩ | ⟨o,xs,rfl,hq,h,hb⟩
 ·rfl
 ·rw [hq true rfl]
  simp only [cC,Bool.true_and]
  refine ph _ fun e he=>?_
  obtain ⟨a,_,hr⟩:=h.memL he
  exact hm _ _ hr
theorem RI1.own {e:List TV} {n:Int} (h:RI1 e n):io e=true:=by obtain ⟨rfl,_⟩:=h; rfl
end Go.Ab
namespace Go.Ab.Q12
open Go Go.Ab Go.Proofs
end Go.Ab.Q12
end
section
set_option maxRecDepth 10000
namespace Go.Ab
section
variable {α β:Type} {p:Way} {w y:TV} {s:Nat} {R:List TV->α->Prop} {Q:TV->β->Prop} {G:List α->DMod} {l:List α}
theorem RL.at (hy:RL (some true) s R y l) {k:Nat} {e:List TV} (he:Go.Ab.pel y k=some e):∃ xs,y=.sl true s xs/\xs[k]? = some e/\F2 R xs l/\xs.length<=9223372036854775807:=by
 rcases hy with ⟨rfl,rfl⟩ | ⟨o,xs,rfl,hq,h,hb⟩
 ·simp [Go.Ab.pel] at he
 ·have:o=true:=hq true rfl
  subst this
  exact ⟨xs,rfl,he,h,hb⟩
end
end Go.Ab
namespace Go.Ab.Q12
open Go Go.Ab Go.Proofs
end Go.Ab.Q12
end
section
set_option maxRecDepth 10000
namespace Go.Ab
def gl (b:DBlock):List Int:=(if b.fin.kind=2\/b.fin.kind=3\/b.fin.kind=4 then [b.fin.to] else []) ++ (if b.fin.kind=3 then [b.fin.els] else [])
theorem gH {M:List Bool} {g i:Nat} (hg:g < M.length):(M.set g true)[i]? = some true ↔ i=g\/M[i]? = some true:=by
 rw [List.getElem?_set]
 by_cases h:g=i
 ·subst h; simp [hg]
 ·simp [h]; intro h'; exact absurd h'.symm h
theorem lj {M:List Bool} {g:Nat} (hg:M[g]? = some false):(M.set g true).count true=M.count true + 1:=by
 have hlt:=(Cq.1 hg).1
 have hv:=(Cq.1 hg).2
 rw [List.count_set hlt]
 simp [hv]
theorem wb (M:List Bool):M.count true<=M.length:=List.count_le_length
section
variable {α:Type} {s:Nat} {R:List TV->α->Prop} {y:TV} {l:List α}
theorem RL.kq (hy:RL (some true) s R y l) {i:Nat} {e:List TV} (he:Go.Ab.pel y i=some e) {d:Nat} {ys:List TV} {a:α} (hR:R (bM e d ys) a):∃ y',gY [] y i d ys=some y'/\RL (some true) s R y' (l.set i a):=by
 obtain ⟨xs,rfl,hk,hf,hb⟩:=hy.at he
 refine ⟨.sl true s (am xs i (bM e d ys)),by simp only [gY,cD,xi,hk,lc],.sl (by simp) (hf.set hR) (by rw [ri]; exact hb)⟩
theorem RL.app (hy:RL (some true) s R y l) {e:List TV} {a:α} (hR:R e a) (hl:l.length + 1<=4294967296):∃ y',papp s y [e]=some y'/\RL (some true) s R y' (l ++ [a]):=by
 rcases hy with ⟨rfl,rfl⟩ | ⟨o,xs,rfl,hq,h,hb⟩
 ·refine ⟨.sl true s [e],by simp [papp,aJ,room,Bl],.sl (by simp) (.cons hR .nil) (by simp)⟩
 ·have:o=true:=hq true rfl
  subst this
  have hxl:=h.length
  refine ⟨.sl true s (xs ++ [e]),?_,.sl (by simp) (h.append (.cons hR .nil)) (by simp; omega)⟩
  simp [papp,room]; omega
theorem RL.win {q:Option Bool} (hy:RL q s R y l) {k:Nat} (hk:k<=l.length):∃ y',d7 0 k y=some y'/\RL q s R y' (l.take k):=by
 rcases hy with ⟨rfl,rfl⟩ | ⟨o,xs,rfl,hq,h,hb⟩
 ·have:k=0:=by simpa using hk
  subst this
  exact ⟨.lit aJ,rfl,by simpa using RL.nil⟩
 ·have hxl:=h.length
  refine ⟨.sl o s ((xs.drop 0).take k),?_,.sl hq (by simpa using h.take k) (by simp; omega)⟩
  simp [d7]; omega
end
end Go.Ab
namespace Go.Ab.Q12
open Go Go.Ab Go.Proofs
theorem has64 (k:Int):has (iz k) 64=true ↔ k=2\/k=3\/k=4:=by
 by_cases h1:k=1
 ·subst h1; exact ⟨fun h=>absurd h (by decide +kernel),fun h=>absurd h (by decide)⟩
 by_cases h5:k=5
 ·subst h5; exact ⟨fun h=>absurd h (by decide +kernel),fun h=>absurd h (by decide)⟩
 by_cases h2:k=2
 ·subst h2; exact ⟨fun _=>.inl rfl,fun _=>by decide +kernel⟩
 by_cases h3:k=3
 ·subst h3; exact ⟨fun _=>.inr (.inl rfl),fun _=>by decide +kernel⟩
 by_cases h4:k=4
 ·subst h4; exact ⟨fun _=>.inr (.inr rfl),fun _=>by decide +kernel⟩
 have:has (iz k) 64=false:=by
  by_cases h6:k=6
  ·subst h6; decide +kernel
  ·have:iz k=0:=by simp [iz, *]
   rw [this]; decide +kernel
 simp [this,h2,h3,h4]
theorem has128 (k:Int):has (iz k) 128=true ↔ k=3:=by
 by_cases h1:k=1
 ·subst h1; exact ⟨fun h=>absurd h (by decide +kernel),fun h=>absurd h (by decide)⟩
 by_cases h5:k=5
 ·subst h5; exact ⟨fun h=>absurd h (by decide +kernel),fun h=>absurd h (by decide)⟩
 by_cases h2:k=2
 ·subst h2; exact ⟨fun h=>absurd h (by decide +kernel),fun h=>absurd h (by decide)⟩
 by_cases h3:k=3
 ·subst h3; exact ⟨fun _=>rfl,fun _=>by decide +kernel⟩
 by_cases h4:k=4
 ·subst h4; exact ⟨fun h=>absurd h (by decide +kernel),fun h=>absurd h (by decide)⟩
 have:has (iz k) 128=false:=by
  by_cases h6:k=6
  ·subst h6; decide +kernel
  ·have:iz k=0:=by simp [iz, *]
   rw [this]; decide +kernel
 simp [this,h3]
theorem r15 {q:Option Bool} {e:List TV} {b:DBlock} (he:RBlock q e b):∃ y,bn prog 42 [.agg e] y/\RInts (some true) y (gl b):=by
 obtain ⟨c,i,g,rfl,hc,hd,hi,hg,ho⟩:=he
 obtain ⟨o1,o2,o3,o4,o5,o6,o7⟩:=ho
 have tail:∀ (w:TV) (l:List Int) (u:Bool),RInts (some true) w l->l.length<=1->(u=true ↔ b.fin.kind=3)->∃ y,aa prog 42 (f42_0 (B u) (B b.landing) (I b.pad.dst) c (B b.pad.all) (B b.pad.cleanup) i (I b.fin.kind) (I b.fin.a) (I b.fin.dst) (I b.fin.f) g (I b.fin.to) (I b.fin.els) (I b.fin.pad) w) y/\RInts (some true) y (l ++ (if b.fin.kind=3 then [b.fin.els] else [])):=by
  intro w l u hw hl hu
  by_cases h:b.fin.kind=3
  ·have hut:u=true:=hu.2 h
   subst hut
   obtain ⟨w',hw',hr⟩:=hw.app (e:=[I b.fin.els]) (a:=b.fin.els) ⟨rfl,o6⟩ (by omega)
   refine ⟨w',?_,by simpa [h] using hr⟩
   unfold f42_0
   exact aa.ite rfl (fun _=>aa.rws rfl (aa.tv hw' (aa.chk (hr.own fun _ _ h=>h.own) aa.ret))) nofun
  ·have huf:u=false:=by cases u with
    | false=>rfl
    | true=>exact absurd (hu.1 rfl) h
   subst huf
   refine ⟨w,?_,by simpa [h] using hw⟩
   unfold f42_0
   exact aa.ite rfl nofun fun _=>aa.chk (hw.own fun _ _ h=>h.own) aa.ret
 by_cases h:b.fin.kind=2\/b.fin.kind=3\/b.fin.kind=4
 ·obtain ⟨y,hy,hr⟩:=tail (.sl true 1 [[I b.fin.to]]) [b.fin.to] (has (iz b.fin.kind) 128) (.sl (by simp) (.cons ⟨rfl,o5⟩ .nil) (by simp)) (by simp) (has128 _)
  refine ⟨y,?_,by simpa [gl,h] using hr⟩
  refine bn.of (f42_MR _) ?_
  unfold f42_M
  refine aa.chk rfl (aa.call (r24 _) (aa.chk rfl (aa.call (r25 _ _) (aa.chk rfl (aa.ite (v:=true) (by rw [(has64 _).2 h]; rfl) (fun _=>?_) nofun)))))
  exact aa.rws rfl (aa.tv rfl (aa.call (r25 _ _) (aa.chk rfl (f42_0_J hy))))
 ·obtain ⟨y,hy,hr⟩:=tail (.lit aJ) [] (has (iz b.fin.kind) 128) .nil (by simp) (has128 _)
  refine ⟨y,?_,by simpa [gl,h] using hr⟩
  refine bn.of (f42_MR _) ?_
  unfold f42_M
  have hf:has (iz b.fin.kind) 64=false:=by
   cases hh:has (iz b.fin.kind) 64 with
   | false=>rfl
   | true=>exact absurd ((has64 _).1 hh) h
  refine aa.chk rfl (aa.call (r24 _) (aa.chk rfl (aa.call (r25 _ _) (aa.chk rfl (aa.ite (v:=false) (by rw [hf]; rfl) nofun fun _=>?_)))))
  exact aa.call (r25 _ _) (aa.chk rfl (aa.chk rfl (f42_0_J hy)))
end Go.Ab.Q12
end

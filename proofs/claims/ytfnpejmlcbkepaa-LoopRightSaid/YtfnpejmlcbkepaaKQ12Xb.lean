import Derived.Test.YtfnpejmlcbkepaaKQ12T
set_option linter.all false
section
set_option maxRecDepth 100000
namespace Go.Ab.Q12
open Go Go.Ab Go.Proofs
open Go.Ab.TV (hole cell comp isSl isSc isTup cellsL tup agg)
open Go.Ab.Prg (tv tvs rws nat chk call jmp ret)
def f11_0_S  (x0 x1 x2 y3 y4 y5 w6 w7:TV):ASt:=⟨[Jk,AV.tv x0,Pt 0,Jk,Jk,Sr 1,Sr 2,AV.tv x1,AV.tv x2] ++ Rj 60,[some (BC.cells [CA.t y3,CA.t y4,CA.t y5]),Tr w6,Tr w7] ++ Rz 90,[]⟩
def f11_1_S  (x0 x1 y2 y3 y4:TV):ASt:=⟨[Jk,AV.tv x0,Pt 0] ++ Rj 4 ++ [AV.tv x1] ++ Rj 61,[some (BC.cells [CA.t y2,CA.t y3,CA.t y4])] ++ Rz 92,[]⟩
def f11_M (x0 x1:TV):Prg TV :=
 chk (TV.isAgg x0 3) (
 call 37 [] fun v0 =>
 chk (ab bu [v0] 0) (
 tv (pun .not v0) fun v1 =>
 Prg.ite (asBool v1) (
 ret (B false)) (
 tv (plen (.slice 59) (cell x0 2)) fun v2 =>
 tv (pbin (.int .i64) .gtr v2 (I 30)) fun v3 =>
 Prg.ite (asBool v3) (
 ret (B true)) (
 call 38 [agg [cell x0 0,cell x0 1,cell x0 2]] fun v4 =>
 chk (ab zSl [v4] 0) (
 call 39 [agg [cell x0 0,cell x0 1,cell x0 2]] fun v5 =>
 chk (ab zSl [v5] 0) (
 tv (plen (.slice 67) v4) fun v6 =>
 tv (plen (.slice 67) v5) fun v7 =>
 tv (pbin (.int .i64) .neq v6 v7) fun v8 =>
 Prg.ite (asBool v8) (
 ret (B false)) (
 jmp [0,0,1,0,1,1,1,1,1,1] (f11_0_S x1 (I 0) (I 0) (cell x0 0) (cell x0 1) (cell x0 2) v4 v5))))))))
def f11_0  (x0 x1 x2 y3 y4 y5 w6 w7:TV):Prg TV :=
 tv (plen (.slice 67) w6) fun v9 =>
 tv (pbin (.int .i64) .lss x2 v9) fun v10 =>
 Prg.ite (asBool v10) (
 nat (slLen w6) fun n11 =>
 nat (ac x2) fun n12 =>
 chk (Bool.and (slSize w6 2) (Nat.blt n12 n11)) (
 tvs (pel w6 n12) fun e13 =>
 chk (ab bc e13 0) (
 nat (slLen w7) fun n14 =>
 nat (ac x2) fun n15 =>
 chk (Bool.and (slSize w7 2) (Nat.blt n15 n14)) (
 tvs (pel w7 n15) fun e16 =>
 chk (ab bc e16 0) (
 tv (pbin (.int .i64) .neq (nth hole e13 0) (nth hole e16 0)) fun v17 =>
 Prg.ite (asBool v17) (
 ret (B false)) (
 nat (slLen w6) fun n18 =>
 nat (ac x2) fun n19 =>
 chk (Bool.and (slSize w6 2) (Nat.blt n19 n18)) (
 tvs (pel w6 n19) fun e20 =>
 chk (ab zSl e20 1) (
 nat (slLen w7) fun n21 =>
 nat (ac x2) fun n22 =>
 chk (Bool.and (slSize w7 2) (Nat.blt n22 n21)) (
 tvs (pel w7 n22) fun e23 =>
 chk (ab zSl e23 1) (
 tv (bF [(n19,1)] w6) fun v24 =>
 tv (bF [(n22,1)] w7) fun v25 =>
 call 16 [frz v24,frz v25] fun v26 =>
 chk (ab bu [v26] 0) (
 tv (pun .not v26) fun v27 =>
 Prg.ite (asBool v27) (
 ret (B false)) (
 nat (slLen w7) fun n28 =>
 nat (ac x2) fun n29 =>
 chk (Bool.and (slSize w7 2) (Nat.blt n29 n28)) (
 tvs (pel w7 n29) fun e30 =>
 chk (ab zSl e30 1) (
 tv (bF [(n29,1)] w7) fun v31 =>
 call 26 [frz v31,x0] fun v32 =>
 chk (ab bu [v32] 0) (
 Prg.ite (asBool v32) (
 tv (pbin (.int .i64) .add x1 (I 1)) fun v33 =>
 tv (pbin (.int .i64) .add x2 (I 1)) fun v34 =>
 jmp [0,0,1,0,1,1,1,1,1,1] (f11_0_S x0 v33 v34 y3 y4 y5 w6 w7)) (
 tv (pbin (.int .i64) .add x2 (I 1)) fun v35 =>
 jmp [0,0,1,0,1,1,1,1,1,1] (f11_0_S x0 x1 v35 y3 y4 y5 w6 w7))))))))))))))))) (
 jmp [1,1,1,1,1,1,1] (f11_1_S x0 x1 y3 y4 y5))
def f11_1  (x0 x1 y2 y3 y4:TV):Prg TV :=
 call 40 [agg [y2,y3,y4],x0] fun v36 =>
 chk (ab bc [v36] 0) (
 tv (pbin (.int .i64) .eql v36 x1) fun v37 =>
 ret v37)
theorem f11_MR (x0 x1:TV):bp prog 11 [x0,x1]=f11_M x0 x1:=by kernel_rfl
theorem f11_0_J  {x0 x1 x2 y3 y4 y5 w6 w7:TV} {r:TV} (h:aa prog 11 (f11_0 x0 x1 x2 y3 y4 y5 w6 w7) r):aa prog 11 (.jmp [0,0,1,0,1,1,1,1,1,1] (f11_0_S x0 x1 x2 y3 y4 y5 w6 w7)) r:=aa.jmp (by kernel_rfl) h
theorem f11_1_J  {x0 x1 y2 y3 y4:TV} {r:TV} (h:aa prog 11 (f11_1 x0 x1 y2 y3 y4) r):aa prog 11 (.jmp [1,1,1,1,1,1,1] (f11_1_S x0 x1 y2 y3 y4)) r:=aa.jmp (by kernel_rfl) h
def f16_0_S  (x0 x1 x2:TV):ASt:=⟨[AV.tv x0,AV.tv x1,Jk,Jk,Jk,AV.tv x2] ++ Rj 20,Rz 50,[]⟩
def f16_M (x0 x1:TV):Prg TV :=
 tv (plen (.slice 3) x0) fun v0 =>
 tv (plen (.slice 3) x1) fun v1 =>
 tv (pbin (.int .i64) .neq v0 v1) fun v2 =>
 Prg.ite (asBool v2) (
 ret (B false)) (
 jmp [0,0,1,0,1,1] (f16_0_S x0 x1 (I 0)))
def f16_0  (x0 x1 x2:TV):Prg TV :=
 tv (plen (.slice 3) x0) fun v3 =>
 tv (pbin (.int .i64) .lss x2 v3) fun v4 =>
 Prg.ite (asBool v4) (
 tvs (pidx 1 x0 x2) fun e5 =>
 chk (Nat.blt 0 (List.length e5)) (
 tvs (pidx 1 x1 x2) fun e6 =>
 chk (Nat.blt 0 (List.length e6)) (
 tv (pbin (.int .i64) .neq (nth hole e5 0) (nth hole e6 0)) fun v7 =>
 Prg.ite (asBool v7) (
 ret (B false)) (
 tv (pbin (.int .i64) .add x2 (I 1)) fun v8 =>
 jmp [0,0,1,0,1,1] (f16_0_S x0 x1 v8))))) (
 ret (B true))
theorem f16_MR (x0 x1:TV):bp prog 16 [x0,x1]=f16_M x0 x1:=by kernel_rfl
theorem f16_0_J  {x0 x1 x2:TV} {r:TV} (h:aa prog 16 (f16_0 x0 x1 x2) r):aa prog 16 (.jmp [0,0,1,0,1,1] (f16_0_S x0 x1 x2)) r:=aa.jmp (by kernel_rfl) h
def f17_0_S  (y0 y1 y2 w3:TV):ASt:=⟨[Jk,Jk,Pt 0,Jk,Jk,Jk,Sr 1] ++ Rj 24,[some (BC.cells [CA.t y0,CA.t y1,CA.t y2]),Tr w3] ++ Rz 53,[]⟩
def f17_1_S  (x0 x1 w2 y3 y4 y5:TV):ASt:=⟨[Sr 0,AV.clo 44 [CA.ptr 1 0]] ++ Rj 5 ++ [AV.tv x0,AV.tv x1] ++ Rj 10,[Tr w2,some (BC.cells [CA.t y3,CA.t y4,CA.t y5])] ++ Rz 114,(Rj 31 ++ [Sr 0,AV.clo 44 [CA.ptr 1 0]] ++ Rj 40)⟩
def f17_2_S  (x0 x1 w2 y3 y4 y5:TV):ASt:=⟨[Sr 0,AV.clo 44 [CA.ptr 1 0],Jk,Jk,Jk,AV.tv x0,AV.tv x1] ++ Rj 35,[Tr w2,some (BC.cells [CA.t y3,CA.t y4,CA.t y5])] ++ Rz 95,Rj 31⟩
def f17_3_S  (x0 w1:TV):ASt:=⟨[Sr 0] ++ Rj 4 ++ [AV.tv x0] ++ Rj 36,[Tr w1] ++ Rz 96,Rj 31⟩
def f17_M (x0 x1:TV):Prg TV :=
 chk (TV.isAgg x0 3) (
 call 41 [agg [cell x0 0,cell x0 1,cell x0 2],x1] fun v0 =>
 chk (ab bu [v0] 0) (
 tv (pun .not v0) fun v1 =>
 Prg.ite (asBool v1) (
 chk true (
 ret (TV.lit aB))) (
 tvs (pidx 14 (cell x0 2) x1) fun e2 =>
 chk (Nat.ble 14 (List.length e2)) (
 call 42 [agg [nth hole e2 0,nth hole e2 1,nth hole e2 2,nth hole e2 3,nth hole e2 4,nth hole e2 5,nth hole e2 6,nth hole e2 7,nth hole e2 8,nth hole e2 9,nth hole e2 10,nth hole e2 11,nth hole e2 12,nth hole e2 13]] fun v3 =>
 chk (ab zSl [v3] 0) (
 tv (pbin (.int .i64) .eql (nth hole e2 6) (I 4)) fun v4 =>
 Prg.ite (asBool v4) (
 rws (pelems 1 (TV.sl true 1 (chunks 1 1 [nth hole e2 13]))) fun r5 =>
 tv (papp 1 v3 (jB r5)) fun v6 =>
 jmp [1,1,1,1,1] (f17_0_S (cell x0 0) (cell x0 1) (cell x0 2) v6)) (
 jmp [1,1,1,1,1] (f17_0_S (cell x0 0) (cell x0 1) (cell x0 2) v3)))))))
def f17_0  (y0 y1 y2 w3:TV):Prg TV :=
 tv (plen (.slice 3) w3) fun v7 =>
 jmp [0,0,1,0,1,6,0,1,6,0,1,1,1,1,1] (f17_1_S v7 (I 0) w3 y0 y1 y2)
def f17_1  (x0 x1 w2 y3 y4 y5:TV):Prg TV :=
 tv (pbin (.int .i64) .lss x1 x0) fun v8 =>
 Prg.ite (asBool v8) (
 nat (slLen w2) fun n9 =>
 nat (ac x1) fun n10 =>
 chk (Bool.and (slSize w2 1) (Nat.blt n10 n9)) (
 tvs (pel w2 n10) fun e11 =>
 chk (ab bc e11 0) (
 call 41 [agg [y3,y4,y5],nth hole e11 0] fun v12 =>
 chk (ab bu [v12] 0) (
 tv (pun .not v12) fun v13 =>
 Prg.ite (asBool v13) (
 tv (pbin (.int .i64) .eql x1 (TV.lit (Value.int IntKind.i64 (-1)))) fun v14 =>
 Prg.ite (asBool v14) (
 chk (bQ w2) (
 ret w2)) (
 tv (pbin (.int .i64) .add x1 (I 1)) fun v15 =>
 jmp [0,0,1,0,1,1,1,6,0,1,1,1,1,1] (f17_2_S x1 v15 w2 y3 y4 y5))) (
 tv (pbin (.int .i64) .add x1 (I 1)) fun v16 =>
 jmp [0,0,1,0,1,6,0,1,6,0,1,1,1,1,1] (f17_1_S x0 v16 w2 y3 y4 y5)))))) (
 tv (pbin (.int .i64) .eql (TV.lit (Value.int IntKind.i64 (-1))) (TV.lit (Value.int IntKind.i64 (-1)))) fun v17 =>
 Prg.ite (asBool v17) (
 chk (bQ w2) (
 ret w2)) (
 tv (pbin (.int .i64) .add (TV.lit (Value.int IntKind.i64 (-1))) (I 1)) fun v18 =>
 jmp [0,0,1,0,1,1,1,6,0,1,1,1,1,1] (f17_2_S (TV.lit (Value.int IntKind.i64 (-1))) v18 w2 y3 y4 y5)))
def f17_2  (x0 x1 w2 y3 y4 y5:TV):Prg TV :=
 tv (plen (.slice 3) w2) fun v19 =>
 tv (pbin (.int .i64) .lss x1 v19) fun v20 =>
 Prg.ite (asBool v20) (
 nat (slLen w2) fun n21 =>
 nat (ac x1) fun n22 =>
 chk (Bool.and (slSize w2 1) (Nat.blt n22 n21)) (
 tvs (pel w2 n22) fun e23 =>
 chk (ab bc e23 0) (
 call 41 [agg [y3,y4,y5],nth hole e23 0] fun v24 =>
 chk (ab bu [v24] 0) (
 tv (pun .not v24) fun v25 =>
 tv (pun .not v25) fun v26 =>
 Prg.ite (asBool v26) (
 nat (slLen w2) fun n27 =>
 nat (ac x0) fun n28 =>
 chk (Bool.and (slSize w2 1) (Nat.blt n28 n27)) (
 tvs (pel w2 n28) fun e29 =>
 chk (ab bc e29 0) (
 tv (cB [] w2 n28 0 [nth hole e23 0]) fun v30 =>
 tv (pbin (.int .i64) .add x0 (I 1)) fun v31 =>
 tv (pbin (.int .i64) .add x1 (I 1)) fun v32 =>
 jmp [0,0,1,0,1,1,1,6,0,1,1,1,1,1] (f17_2_S v31 v32 v30 y3 y4 y5)))) (
 tv (pbin (.int .i64) .add x1 (I 1)) fun v33 =>
 jmp [0,0,1,0,1,1,1,6,0,1,1,1,1,1] (f17_2_S x0 v33 w2 y3 y4 y5)))))) (
 jmp [1,1,1,1,6,0,1,1,1,1,1] (f17_3_S x0 w2))
def f17_3  (x0 w1:TV):Prg TV :=
 nat (slLen w1) fun n34 =>
 nat (ac x0) fun n35 =>
 chk (Bool.and (Bool.and (slSize w1 1) (Nat.ble (Option.getD (some n35) 0) (Option.getD none n34))) (Nat.ble (Option.getD none n34) n34)) (
 tv (pclear 1 [I 0] (Option.getD (some n35) 0) ((Option.getD none n34) - (Option.getD (some n35) 0)) w1) fun v36 =>
 nat (slLen v36) fun n37 =>
 nat (ac x0) fun n38 =>
 chk (Bool.and (Bool.and (slSize v36 1) (Nat.ble 0 (Option.getD (some n38) n37))) (Nat.ble (Option.getD (some n38) n37) n37)) (
 tv (fP 0 ((Option.getD (some n38) n37) - 0) v36) fun v39 =>
 chk (bQ v39) (
 ret v39)))
theorem f17_MR (x0 x1:TV):bp prog 17 [x0,x1]=f17_M x0 x1:=by kernel_rfl
theorem f17_0_J  {y0 y1 y2 w3:TV} {r:TV} (h:aa prog 17 (f17_0 y0 y1 y2 w3) r):aa prog 17 (.jmp [1,1,1,1,1] (f17_0_S y0 y1 y2 w3)) r:=aa.jmp (by kernel_rfl) h
theorem f17_1_J  {x0 x1 w2 y3 y4 y5:TV} {r:TV} (h:aa prog 17 (f17_1 x0 x1 w2 y3 y4 y5) r):aa prog 17 (.jmp [0,0,1,0,1,6,0,1,6,0,1,1,1,1,1] (f17_1_S x0 x1 w2 y3 y4 y5)) r:=aa.jmp (by kernel_rfl) h
theorem f17_2_J  {x0 x1 w2 y3 y4 y5:TV} {r:TV} (h:aa prog 17 (f17_2 x0 x1 w2 y3 y4 y5) r):aa prog 17 (.jmp [0,0,1,0,1,1,1,6,0,1,1,1,1,1] (f17_2_S x0 x1 w2 y3 y4 y5)) r:=aa.jmp (by kernel_rfl) h
theorem f17_3_J  {x0 w1:TV} {r:TV} (h:aa prog 17 (f17_3 x0 w1) r):aa prog 17 (.jmp [1,1,1,1,6,0,1,1,1,1,1] (f17_3_S x0 w1)) r:=aa.jmp (by kernel_rfl) h
def f18_0_S  (x0 y1 y2 y3 y4 y5 y6 y7 y8 y9 y10 y11 w12:TV):ASt:=⟨[Jk,Jk,Pt 0,Jk,Jk,Pt 1,Sr 2] ++ Rj 29 ++ [AV.tv x0] ++ Rj 50,[some (BC.cells [CA.t y1,CA.t y2,CA.t y3]),some (BC.cells [CA.t y4,CA.t y5,CA.t y6,CA.t y7,CA.t y8,CA.t y9,CA.t y10,CA.t y11]),Tr w12] ++ Rz 108,[]⟩
def f18_1_S  (x0 y1 y2 y3 y4 y5 y6 y7 y8 y9 y10 y11 w12:TV):ASt:=⟨[Jk,Jk,Pt 0,Jk,Jk,Pt 1,Sr 2] ++ Rj 37 ++ [AV.tv x0] ++ Rj 42,[some (BC.cells [CA.t y1,CA.t y2,CA.t y3]),some (BC.cells [CA.t y4,CA.t y5,CA.t y6,CA.t y7,CA.t y8,CA.t y9,CA.t y10,CA.t y11]),Tr w12] ++ Rz 108,[]⟩
def f18_2_S  (x0 y1 y2 y3 y4 y5 y6 y7 y8 y9 y10 y11 w12:TV):ASt:=⟨[Jk,Jk,Pt 0,Jk,Jk,Pt 1,Sr 2] ++ Rj 45 ++ [AV.tv x0] ++ Rj 34,[some (BC.cells [CA.t y1,CA.t y2,CA.t y3]),some (BC.cells [CA.t y4,CA.t y5,CA.t y6,CA.t y7,CA.t y8,CA.t y9,CA.t y10,CA.t y11]),Tr w12] ++ Rz 108,[]⟩
def f18_3_S  (x0 y1 y2 y3 w4 w5:TV):ASt:=⟨[Jk,Jk,Pt 0,Jk,Jk,Jk,Sr 1,Sr 2,AV.tv x0] ++ Rj 78,[some (BC.cells [CA.t y1,CA.t y2,CA.t y3]),Tr w4,Tr w5] ++ Rz 108,[]⟩
def f18_4_S  (x0 y1 y2 y3 w4 w5:TV):ASt:=⟨[Jk,Jk,Pt 0,Jk,Jk,Jk,Sr 1,Sr 2,AV.tv x0] ++ Rj 78,[some (BC.cells [CA.t y1,CA.t y2,CA.t y3]),Tr w4,Tr w5] ++ Rz 108,[]⟩
def f18_M (x0 x1:TV):Prg TV :=
 chk (TV.isAgg x0 3) (
 tv (pbin (.int .i64) .lss x1 (I 0)) fun v0 =>
 Prg.ite (asBool v0) (
 ret (TV.lit aB)) (
 tv (plen (.slice 59) (cell x0 2)) fun v1 =>
 tv (pbin (.int .i64) .geq x1 v1) fun v2 =>
 Prg.ite (asBool v2) (
 ret (TV.lit aB)) (
 tvs (pidx 14 (cell x0 2) x1) fun e3 =>
 chk (Nat.ble 14 (List.length e3)) (
 tv (pbin (.int .i64) .eql (nth hole e3 6) (I 2)) fun v4 =>
 Prg.ite (asBool v4) (
 chk true (
 jmp [1,0,1,1,1,1] (f18_0_S (B true) (cell x0 0) (cell x0 1) (cell x0 2) (nth hole e3 6) (nth hole e3 7) (nth hole e3 8) (nth hole e3 9) (nth hole e3 10) (nth hole e3 11) (nth hole e3 12) (nth hole e3 13) (TV.lit aB)))) (
 tv (pbin (.int .i64) .eql (nth hole e3 6) (I 3)) fun v5 =>
 Prg.ite (asBool v5) (
 chk true (
 jmp [1,0,1,1,1,1] (f18_0_S (B true) (cell x0 0) (cell x0 1) (cell x0 2) (nth hole e3 6) (nth hole e3 7) (nth hole e3 8) (nth hole e3 9) (nth hole e3 10) (nth hole e3 11) (nth hole e3 12) (nth hole e3 13) (TV.lit aB)))) (
 tv (pbin (.int .i64) .eql (nth hole e3 6) (I 4)) fun v6 =>
 chk true (
 jmp [1,0,1,1,1,1] (f18_0_S v6 (cell x0 0) (cell x0 1) (cell x0 2) (nth hole e3 6) (nth hole e3 7) (nth hole e3 8) (nth hole e3 9) (nth hole e3 10) (nth hole e3 11) (nth hole e3 12) (nth hole e3 13) (TV.lit aB)))))))))
def f18_0  (x0 y1 y2 y3 y4 y5 y6 y7 y8 y9 y10 y11 w12:TV):Prg TV :=
 Prg.ite (asBool x0) (
 rws (pelems 1 (TV.sl true 1 (chunks 1 1 [y9]))) fun r7 =>
 tv (papp 1 w12 (jB r7)) fun v8 =>
 tv (pbin (.int .i64) .eql y4 (I 3)) fun v9 =>
 jmp [1,0,1,1,1,1,1] (f18_1_S v9 y1 y2 y3 y4 y5 y6 y7 y8 y9 y10 y11 v8)) (
 tv (pbin (.int .i64) .eql y4 (I 3)) fun v10 =>
 jmp [1,0,1,1,1,1,1] (f18_1_S v10 y1 y2 y3 y4 y5 y6 y7 y8 y9 y10 y11 w12))
def f18_1  (x0 y1 y2 y3 y4 y5 y6 y7 y8 y9 y10 y11 w12:TV):Prg TV :=
 Prg.ite (asBool x0) (
 rws (pelems 1 (TV.sl true 1 (chunks 1 1 [y10]))) fun r11 =>
 tv (papp 1 w12 (jB r11)) fun v12 =>
 tv (pbin (.int .i64) .eql y4 (I 4)) fun v13 =>
 jmp [1,0,1,1,1,1,1,1] (f18_2_S v13 y1 y2 y3 y4 y5 y6 y7 y8 y9 y10 y11 v12)) (
 tv (pbin (.int .i64) .eql y4 (I 4)) fun v14 =>
 jmp [1,0,1,1,1,1,1,1] (f18_2_S v14 y1 y2 y3 y4 y5 y6 y7 y8 y9 y10 y11 w12))
def f18_2  (x0 y1 y2 y3 y4 y5 y6 y7 y8 y9 y10 y11 w12:TV):Prg TV :=
 Prg.ite (asBool x0) (
 rws (pelems 1 (TV.sl true 1 (chunks 1 1 [y11]))) fun r15 =>
 tv (papp 1 w12 (jB r15)) fun v16 =>
 chk true (
 jmp [1,0,1,1,1,1,1,1,1,1] (f18_3_S (I 0) y1 y2 y3 v16 (TV.lit aB)))) (
 chk true (
 jmp [1,0,1,1,1,1,1,1,1,1] (f18_3_S (I 0) y1 y2 y3 w12 (TV.lit aB))))
def f18_3  (x0 y1 y2 y3 w4 w5:TV):Prg TV :=
 jmp [0,0,1,0,1,1,1,1,1,1,1,1] (f18_4_S x0 y1 y2 y3 w4 w5)
def f18_4  (x0 y1 y2 y3 w4 w5:TV):Prg TV :=
 tv (plen (.slice 3) w4) fun v17 =>
 tv (pbin (.int .i64) .lss x0 v17) fun v18 =>
 Prg.ite (asBool v18) (
 nat (slLen w4) fun n19 =>
 nat (ac x0) fun n20 =>
 chk (Bool.and (slSize w4 1) (Nat.blt n20 n19)) (
 tvs (pel w4 n20) fun e21 =>
 chk (ab bc e21 0) (
 tv (pbin (.int .i64) .geq (nth hole e21 0) (I 0)) fun v22 =>
 Prg.ite (asBool v22) (
 nat (slLen w4) fun n23 =>
 nat (ac x0) fun n24 =>
 chk (Bool.and (slSize w4 1) (Nat.blt n24 n23)) (
 tvs (pel w4 n24) fun e25 =>
 chk (ab bc e25 0) (
 tv (plen (.slice 59) y3) fun v26 =>
 tv (pbin (.int .i64) .lss (nth hole e25 0) v26) fun v27 =>
 Prg.ite (asBool v27) (
 nat (slLen w4) fun n28 =>
 nat (ac x0) fun n29 =>
 chk (Bool.and (slSize w4 1) (Nat.blt n29 n28)) (
 tvs (pel w4 n29) fun e30 =>
 chk (ab bc e30 0) (
 rws (pelems 1 (TV.sl true 1 (chunks 1 1 [nth hole e30 0]))) fun r31 =>
 tv (papp 1 w5 (jB r31)) fun v32 =>
 tv (pbin (.int .i64) .add x0 (I 1)) fun v33 =>
 jmp [0,0,1,0,1,1,1,1,1,1,1,1] (f18_4_S v33 y1 y2 y3 w4 v32)))) (
 tv (pbin (.int .i64) .add x0 (I 1)) fun v34 =>
 jmp [0,0,1,0,1,1,1,1,1,1,1,1] (f18_4_S v34 y1 y2 y3 w4 w5))))) (
 tv (pbin (.int .i64) .add x0 (I 1)) fun v35 =>
 jmp [0,0,1,0,1,1,1,1,1,1,1,1] (f18_4_S v35 y1 y2 y3 w4 w5))))) (
 ret w5)
theorem f18_MR (x0 x1:TV):bp prog 18 [x0,x1]=f18_M x0 x1:=by kernel_rfl
theorem f18_0_J  {x0 y1 y2 y3 y4 y5 y6 y7 y8 y9 y10 y11 w12:TV} {r:TV} (h:aa prog 18 (f18_0 x0 y1 y2 y3 y4 y5 y6 y7 y8 y9 y10 y11 w12) r):aa prog 18 (.jmp [1,0,1,1,1,1] (f18_0_S x0 y1 y2 y3 y4 y5 y6 y7 y8 y9 y10 y11 w12)) r:=aa.jmp (by kernel_rfl) h
theorem f18_1_J  {x0 y1 y2 y3 y4 y5 y6 y7 y8 y9 y10 y11 w12:TV} {r:TV} (h:aa prog 18 (f18_1 x0 y1 y2 y3 y4 y5 y6 y7 y8 y9 y10 y11 w12) r):aa prog 18 (.jmp [1,0,1,1,1,1,1] (f18_1_S x0 y1 y2 y3 y4 y5 y6 y7 y8 y9 y10 y11 w12)) r:=aa.jmp (by kernel_rfl) h
theorem f18_2_J  {x0 y1 y2 y3 y4 y5 y6 y7 y8 y9 y10 y11 w12:TV} {r:TV} (h:aa prog 18 (f18_2 x0 y1 y2 y3 y4 y5 y6 y7 y8 y9 y10 y11 w12) r):aa prog 18 (.jmp [1,0,1,1,1,1,1,1] (f18_2_S x0 y1 y2 y3 y4 y5 y6 y7 y8 y9 y10 y11 w12)) r:=aa.jmp (by kernel_rfl) h
theorem f18_3_J  {x0 y1 y2 y3 w4 w5:TV} {r:TV} (h:aa prog 18 (f18_3 x0 y1 y2 y3 w4 w5) r):aa prog 18 (.jmp [1,0,1,1,1,1,1,1,1,1] (f18_3_S x0 y1 y2 y3 w4 w5)) r:=aa.jmp (by kernel_rfl) h
theorem f18_4_J  {x0 y1 y2 y3 w4 w5:TV} {r:TV} (h:aa prog 18 (f18_4 x0 y1 y2 y3 w4 w5) r):aa prog 18 (.jmp [0,0,1,0,1,1,1,1,1,1,1,1] (f18_4_S x0 y1 y2 y3 w4 w5)) r:=aa.jmp (by kernel_rfl) h
end Go.Ab.Q12
end
section
set_option maxRecDepth 100000
namespace Go.Ab.Q12
open Go Go.Ab Go.Proofs
open Go.Ab.TV (hole cell comp isSl isSc isTup cellsL tup agg)
open Go.Ab.Prg (tv tvs rws nat chk call jmp ret)
def f23_M (x0:TV):Prg TV :=
 chk (TV.isAgg x0 3) (
 call 46 [agg [cell x0 0,cell x0 1,cell x0 2],TV.lit (Value.int IntKind.i64 (-1))] fun v0 =>
 chk (ab zSl [v0] 0) (
 ret v0))
theorem f23_MR (x0:TV):bp prog 23 [x0]=f23_M x0:=by kernel_rfl
def f24_0_S  (w0 y1 y2 y3 w4 w5 w6:TV):ASt:=⟨[Jk,Sr 0] ++ Rj 5 ++ [Pt 1] ++ Rj 22,[Tr w0,some (BC.cells [CA.fn1 48 2,CA.sref 3 0 [],CA.sref 4 0 [],CA.sref 5 0 []]),some (BC.cells [CA.t y1,CA.t y2,CA.t y3]),Tr w4,Tr w5,Tr w6] ++ Rz 65,Rj 17⟩
def f24_1_S  (x0 x1 w2 y3 y4 y5 w6 w7 w8:TV):ASt:=⟨Rj 7 ++ [Pt 0] ++ Rj 6 ++ [Sr 1,AV.tv x0,AV.tv x1] ++ Rj 13,[some (BC.cells [CA.fn1 48 2,CA.sref 3 0 [],CA.sref 4 0 [],CA.sref 5 0 []]),Tr w2,some (BC.cells [CA.t y3,CA.t y4,CA.t y5]),Tr w6,Tr w7,Tr w8] ++ Rz 65,Rj 17⟩
def f24_2_S  (x0 x1 w2 y3 y4 y5 w6 w7 w8:TV):ASt:=⟨Rj 7 ++ [Pt 0] ++ Rj 6 ++ [Sr 1,AV.tv x0,AV.tv x1] ++ Rj 13,[some (BC.cells [CA.fn1 48 2,CA.sref 3 0 [],CA.sref 4 0 [],CA.sref 5 0 []]),Tr w2,some (BC.cells [CA.t y3,CA.t y4,CA.t y5]),Tr w6,Tr w7,Tr w8] ++ Rz 65,Rj 17⟩
def f24_3_S  (x0 x1 w2:TV):ASt:=⟨[Sr 0,Jk,AV.tv x0,AV.tv x1] ++ Rj 24,[Tr w2] ++ Rz 68,([Jk,Jk,Jk,Sr 0] ++ Rj 13)⟩
def f24_M (x0:TV):Prg TV :=
 chk (TV.isAgg x0 3) (
 tv (plen (.slice 59) (cell x0 2)) fun v0 =>
 tv (pbin (.int .i64) .eql v0 (I 0)) fun v1 =>
 Prg.ite (asBool v1) (
 chk true (
 ret (TV.lit aB))) (
 tv (plen (.slice 59) (cell x0 2)) fun v2 =>
 nat (ac v2) fun n3 =>
 nat (ac v2) fun n4 =>
 chk (Bool.and (Nat.ble n3 n4) (Nat.ble n4 4294967296)) (
 chk true (
 chk true (
 jmp [1,1,12,0,1,1] (f24_0_S (TV.sl true 1 (chunks 1 1 [I 0])) (cell x0 0) (cell x0 1) (cell x0 2) (TV.sl true 1 (List.replicate n3 [B false])) (TV.lit aB) (TV.lit aB)))))))
def f24_0  (w0 y1 y2 y3 w4 w5 w6:TV):Prg TV :=
 tv (plen (.slice 3) w0) fun v5 =>
 jmp [0,0,1,0,1,1,12,0,1,1] (f24_1_S v5 (I 0) w0 y1 y2 y3 w4 (dO w5) w6)
def f24_1  (x0 x1 w2 y3 y4 y5 w6 w7 w8:TV):Prg TV :=
 tv (pbin (.int .i64) .lss x1 x0) fun v6 =>
 Prg.ite (asBool v6) (
 nat (slLen w2) fun n7 =>
 nat (ac x1) fun n8 =>
 chk (Bool.and (slSize w2 1) (Nat.blt n8 n7)) (
 tvs (pel w2 n8) fun e9 =>
 chk (ab bc e9 0) (
 nat (slLen w6) fun n10 =>
 nat (ac (nth hole e9 0)) fun n11 =>
 chk (Bool.and (slSize w6 1) (Nat.blt n11 n10)) (
 tvs (pel w6 n11) fun e12 =>
 chk (ab bu e12 0) (
 tv (pun .not (nth hole e12 0)) fun v13 =>
 Prg.ite (asBool v13) (
 nat (slLen w6) fun n14 =>
 nat (ac (nth hole e9 0)) fun n15 =>
 chk (Bool.and (slSize w6 1) (Nat.blt n15 n14)) (
 tvs (pel w6 n15) fun e16 =>
 chk (ab bu e16 0) (
 tv (cB [] w6 n15 0 [B true]) fun v17 =>
 call 48 [vp (nth hole e9 0),agg [y3,y4,y5]] fun v18 =>
 chk (ab zSl [v18] 0) (
 rws (pelems 2 (TV.sl true 2 (chunks 2 1 [nth hole e9 0,v18]))) fun r19 =>
 tv (papp 2 w7 r19) fun v20 =>
 jmp [0,0,1,1,0,0,1,1,0,0,1,0,1,1,12,0,1,1] (f24_2_S x0 x1 w2 y3 y4 y5 v17 (dO v20) w8))))) (
 jmp [0,0,1,1,0,0,1,1,0,0,1,0,1,1,12,0,1,1] (f24_2_S x0 x1 w2 y3 y4 y5 w6 (dO w7) w8))))))) (
 tv (plen (.slice 3) w8) fun v21 =>
 tv (pbin (.int .i64) .sub v21 (I 1)) fun v22 =>
 jmp [0,0,1,4,0,1,1,1] (f24_3_S (I 0) v22 w8))
def f24_2  (x0 x1 w2 y3 y4 y5 w6 w7 w8:TV):Prg TV :=
 tv (plen (.slice 126) w7) fun v23 =>
 tv (pbin (.int .i64) .gtr v23 (I 0)) fun v24 =>
 Prg.ite (asBool v24) (
 tv (plen (.slice 126) w7) fun v25 =>
 tv (pbin (.int .i64) .sub v25 (I 1)) fun v26 =>
 nat (slLen w7) fun n27 =>
 nat (ac v26) fun n28 =>
 chk (Bool.and (slSize w7 2) (Nat.blt n28 n27)) (
 tvs (pel w7 n28) fun e29 =>
 chk (ab zSl e29 1) (
 tv (bF [(n28,1)] w7) fun v30 =>
 tv (plen (.slice 3) v30) fun v31 =>
 tv (pbin (.int .i64) .eql v31 (I 0)) fun v32 =>
 Prg.ite (asBool v32) (
 tv (plen (.slice 126) w7) fun v33 =>
 tv (pbin (.int .i64) .sub v33 (I 1)) fun v34 =>
 nat (slLen w7) fun n35 =>
 nat (ac v34) fun n36 =>
 chk (Bool.and (slSize w7 2) (Nat.blt n36 n35)) (
 tvs (pel w7 n36) fun e37 =>
 chk (ab bc e37 0) (
 rws (pelems 1 (TV.sl true 1 (chunks 1 1 [nth hole e37 0]))) fun r38 =>
 tv (papp 1 w8 (jB r38)) fun v39 =>
 nat (slLen w7) fun n40 =>
 nat (ac v34) fun n41 =>
 chk (Bool.and (Bool.and (slSize w7 2) (Nat.ble 0 (Option.getD (some n41) n40))) (Nat.ble (Option.getD (some n41) n40) n40)) (
 tv (fP 0 ((Option.getD (some n41) n40) - 0) w7) fun v42 =>
 jmp [0,0,1,1,0,0,1,1,0,0,1,0,1,1,12,0,1,1] (f24_2_S x0 x1 w2 y3 y4 y5 w6 (dO v42) v39))))) (
 tvs (pel w7 n28) fun e43 =>
 chk (ab zSl e43 1) (
 tv (bF [(n28,1)] w7) fun v44 =>
 nat (slLen v44) fun n45 =>
 nat (ac (I 0)) fun n46 =>
 chk (Bool.and (slSize v44 1) (Nat.blt n46 n45)) (
 tv (bF [(n28,1)] w7) fun v47 =>
 tvs (pel v47 n46) fun e48 =>
 chk (ab bc e48 0) (
 tvs (pel w7 n28) fun e49 =>
 chk (ab zSl e49 1) (
 tv (bF [(n28,1)] w7) fun v50 =>
 nat (slLen v50) fun n51 =>
 nat (ac (I 1)) fun n52 =>
 chk (Bool.and (Bool.and (slSize v50 1) (Nat.ble (Option.getD (some n52) 0) (Option.getD none n51))) (Nat.ble (Option.getD none n51) n51)) (
 tv (bF [(n28,1)] w7) fun v53 =>
 tv (fP (Option.getD (some n52) 0) ((Option.getD none n51) - (Option.getD (some n52) 0)) v53) fun v54 =>
 chk (TV.io v54) (
 tvs (pel w7 n28) fun e55 =>
 chk (Bool.and (eZ zSl e55 1) (ab zSl [v54] 0)) (
 tv (cB [] w7 n28 1 [v54]) fun v56 =>
 nat (slLen w6) fun n57 =>
 nat (ac (nth hole e48 0)) fun n58 =>
 chk (Bool.and (slSize w6 1) (Nat.blt n58 n57)) (
 tvs (pel w6 n58) fun e59 =>
 chk (ab bu e59 0) (
 tv (pun .not (nth hole e59 0)) fun v60 =>
 Prg.ite (asBool v60) (
 nat (slLen w6) fun n61 =>
 nat (ac (nth hole e48 0)) fun n62 =>
 chk (Bool.and (slSize w6 1) (Nat.blt n62 n61)) (
 tvs (pel w6 n62) fun e63 =>
 chk (ab bu e63 0) (
 tv (cB [] w6 n62 0 [B true]) fun v64 =>
 call 48 [vp (nth hole e48 0),agg [y3,y4,y5]] fun v65 =>
 chk (ab zSl [v65] 0) (
 rws (pelems 2 (TV.sl true 2 (chunks 2 1 [nth hole e48 0,v65]))) fun r66 =>
 tv (papp 2 v56 r66) fun v67 =>
 jmp [0,0,1,1,0,0,1,1,0,0,1,0,1,1,12,0,1,1] (f24_2_S x0 x1 w2 y3 y4 y5 v64 (dO v67) w8))))) (
 jmp [0,0,1,1,0,0,1,1,0,0,1,0,1,1,12,0,1,1] (f24_2_S x0 x1 w2 y3 y4 y5 w6 (dO v56) w8))))))))))))))) (
 tv (pbin (.int .i64) .add x1 (I 1)) fun v68 =>
 jmp [0,0,1,0,1,1,12,0,1,1] (f24_1_S x0 v68 w2 y3 y4 y5 w6 (dO w7) w8))
def f24_3  (x0 x1 w2:TV):Prg TV :=
 tv (pbin (.int .i64) .lss x0 x1) fun v69 =>
 Prg.ite (asBool v69) (
 nat (slLen w2) fun n70 =>
 nat (ac x1) fun n71 =>
 chk (Bool.and (slSize w2 1) (Nat.blt n71 n70)) (
 tvs (pel w2 n71) fun e72 =>
 chk (ab bc e72 0) (
 nat (slLen w2) fun n73 =>
 nat (ac x0) fun n74 =>
 chk (Bool.and (slSize w2 1) (Nat.blt n74 n73)) (
 tvs (pel w2 n74) fun e75 =>
 chk (ab bc e75 0) (
 nat (slLen w2) fun n76 =>
 nat (ac x0) fun n77 =>
 chk (Bool.and (slSize w2 1) (Nat.blt n77 n76)) (
 tvs (pel w2 n77) fun e78 =>
 chk (ab bc e78 0) (
 tv (cB [] w2 n77 0 [nth hole e72 0]) fun v79 =>
 nat (slLen v79) fun n80 =>
 nat (ac x1) fun n81 =>
 chk (Bool.and (slSize v79 1) (Nat.blt n81 n80)) (
 tvs (pel v79 n81) fun e82 =>
 chk (ab bc e82 0) (
 tv (cB [] v79 n81 0 [nth hole e75 0]) fun v83 =>
 tv (pbin (.int .i64) .add x0 (I 1)) fun v84 =>
 tv (pbin (.int .i64) .sub x1 (I 1)) fun v85 =>
 jmp [0,0,1,4,0,1,1,1] (f24_3_S v84 v85 v83)))))))))) (
 chk (bQ w2) (
 ret w2))
theorem f24_MR (x0:TV):bp prog 24 [x0]=f24_M x0:=by kernel_rfl
theorem f24_0_J  {w0 y1 y2 y3 w4 w5 w6:TV} {r:TV} (h:aa prog 24 (f24_0 w0 y1 y2 y3 w4 w5 w6) r):aa prog 24 (.jmp [1,1,12,0,1,1] (f24_0_S w0 y1 y2 y3 w4 w5 w6)) r:=aa.jmp (by kernel_rfl) h
theorem f24_1_J  {x0 x1 w2 y3 y4 y5 w6 w7 w8:TV} {r:TV} (h:aa prog 24 (f24_1 x0 x1 w2 y3 y4 y5 w6 w7 w8) r):aa prog 24 (.jmp [0,0,1,0,1,1,12,0,1,1] (f24_1_S x0 x1 w2 y3 y4 y5 w6 w7 w8)) r:=aa.jmp (by kernel_rfl) h
theorem f24_2_J  {x0 x1 w2 y3 y4 y5 w6 w7 w8:TV} {r:TV} (h:aa prog 24 (f24_2 x0 x1 w2 y3 y4 y5 w6 w7 w8) r):aa prog 24 (.jmp [0,0,1,1,0,0,1,1,0,0,1,0,1,1,12,0,1,1] (f24_2_S x0 x1 w2 y3 y4 y5 w6 w7 w8)) r:=aa.jmp (by kernel_rfl) h
theorem f24_3_J  {x0 x1 w2:TV} {r:TV} (h:aa prog 24 (f24_3 x0 x1 w2) r):aa prog 24 (.jmp [0,0,1,4,0,1,1,1] (f24_3_S x0 x1 w2)) r:=aa.jmp (by kernel_rfl) h
def f26_0_S  (x0 x1 x2:TV):ASt:=⟨[AV.tv x0,AV.tv x1,Jk,Jk,Jk,AV.tv x2] ++ Rj 12,Rz 42,[]⟩
def f26_M (x0 x1:TV):Prg TV :=
 jmp [0,0,1,0,1] (f26_0_S x0 x1 (I 0))
def f26_0  (x0 x1 x2:TV):Prg TV :=
 tv (plen (.slice 3) x0) fun v0 =>
 tv (pbin (.int .i64) .lss x2 v0) fun v1 =>
 Prg.ite (asBool v1) (
 tvs (pidx 1 x0 x2) fun e2 =>
 chk (Nat.blt 0 (List.length e2)) (
 tv (pbin (.int .i64) .eql (nth hole e2 0) x1) fun v3 =>
 Prg.ite (asBool v3) (
 ret (B true)) (
 tv (pbin (.int .i64) .add x2 (I 1)) fun v4 =>
 jmp [0,0,1,0,1] (f26_0_S x0 x1 v4)))) (
 ret (B false))
theorem f26_MR (x0 x1:TV):bp prog 26 [x0,x1]=f26_M x0 x1:=by kernel_rfl
theorem f26_0_J  {x0 x1 x2:TV} {r:TV} (h:aa prog 26 (f26_0 x0 x1 x2) r):aa prog 26 (.jmp [0,0,1,0,1] (f26_0_S x0 x1 x2)) r:=aa.jmp (by kernel_rfl) h
def f31_0_S  (y0 y1 y2 w3 w4 w5:TV):ASt:=⟨[Jk,Pt 0,Jk,Pt 1] ++ Rj 44,[some (BC.cells [CA.t y0,CA.t y1,CA.t y2]),some (BC.cells [CA.sref 2 0 [],CA.sref 2 1 [],CA.sref 2 2 []]),some (BC.tree [w3,w4,w5])] ++ Rz 69,[]⟩
def f31_1_S  (x0 x1 y2 y3 y4 w5 w6 w7:TV):ASt:=⟨[Jk,Pt 0,Jk,AV.tv x0,AV.tv x1] ++ Rj 28,[some (BC.cells [CA.sref 3 0 [],CA.sref 3 1 [],CA.sref 3 2 []]),some (BC.cells [CA.t y2,CA.t y3,CA.t y4]),some (BC.cells [CA.sref 3 0 [],CA.sref 3 1 [],CA.sref 3 2 []]),some (BC.tree [w5,w6,w7])] ++ Rz 101,([Jk,Pt 1,Jk,Pt 2] ++ Rj 44)⟩
def f31_2_S  (y0 y1 y2 w3 w4 w5:TV):ASt:=⟨[Jk,Pt 0,Jk,Pt 1] ++ Rj 44,[some (BC.cells [CA.t y0,CA.t y1,CA.t y2]),some (BC.cells [CA.sref 2 0 [],CA.sref 2 1 [],CA.sref 2 2 []]),some (BC.tree [w3,w4,w5])] ++ Rz 69,[]⟩
def f31_3_S  (x0 x1 w2 w3 w4 w5:TV):ASt:=⟨[Jk,Jk,Jk,Pt 0,Sr 1] ++ Rj 11 ++ [AV.tv x0,AV.tv x1] ++ Rj 30,[some (BC.cells [CA.sref 2 0 [],CA.sref 2 1 [],CA.sref 2 2 []]),Tr w2,some (BC.tree [w3,w4,w5])] ++ Rz 69,[]⟩
def f31_4_S  (w0 w1 w2 w3:TV):ASt:=⟨[Jk,Jk,Jk,Pt 0,Sr 1] ++ Rj 43,[some (BC.cells [CA.sref 2 0 [],CA.sref 2 1 [],CA.sref 2 2 []]),Tr w0,some (BC.tree [w1,w2,w3])] ++ Rz 69,[]⟩
def f31_5_S  (x0 w1 w2 w3 w4:TV):ASt:=⟨[Jk,Jk,Jk,Pt 0,Sr 1,Jk,AV.tv x0] ++ Rj 41,[some (BC.cells [CA.sref 2 0 [],CA.sref 2 1 [],CA.sref 2 2 []]),Tr w1,some (BC.tree [w2,w3,w4])] ++ Rz 69,[]⟩
def f31_M (x0:TV):Prg TV :=
 chk (TV.isAgg x0 3) (
 call 55 [agg [cell x0 0,cell x0 1,cell x0 2]] fun v0 =>
 chk (Bool.and (TV.isAgg v0 3) (ab z84 (cellsL true v0) 0)) (
 jmp [0,0,0,1,1] (f31_0_S (cell x0 0) (cell x0 1) (cell x0 2) (cell v0 0) (cell v0 1) (cell v0 2))))
def f31_0  (y0 y1 y2 w3 w4 w5:TV):Prg TV :=
 jmp [0,0,1,0,1,1,4,0,0,0,0,0,1,1] (f31_1_S (B false) (I 1) y0 y1 y2 w3 w4 w5)
def f31_1  (x0 x1 y2 y3 y4 w5 w6 w7:TV):Prg TV :=
 tv (plen (.slice 3) w7) fun v1 =>
 tv (pbin (.int .i64) .lss x1 v1) fun v2 =>
 Prg.ite (asBool v2) (
 nat (slLen w6) fun n3 =>
 nat (ac x1) fun n4 =>
 chk (Bool.and (slSize w6 1) (Nat.blt n4 n3)) (
 tvs (pel w6 n4) fun e5 =>
 chk (ab zSl e5 0) (
 tv (bF [(n4,0)] w6) fun v6 =>
 call 75 [agg [frz w5,frz w6,frz w7],frz v6] fun v7 =>
 chk (ab bc [v7] 0) (
 nat (slLen w7) fun n8 =>
 nat (ac x1) fun n9 =>
 chk (Bool.and (slSize w7 1) (Nat.blt n9 n8)) (
 tvs (pel w7 n9) fun e10 =>
 chk (ab bc e10 0) (
 tv (pbin (.int .i64) .neq v7 (nth hole e10 0)) fun v11 =>
 Prg.ite (asBool v11) (
 nat (slLen w7) fun n12 =>
 nat (ac x1) fun n13 =>
 chk (Bool.and (slSize w7 1) (Nat.blt n13 n12)) (
 tvs (pel w7 n13) fun e14 =>
 chk (ab bc e14 0) (
 tv (cB [] w7 n13 0 [v7]) fun v15 =>
 tv (pbin (.int .i64) .add x1 (I 1)) fun v16 =>
 jmp [0,0,1,0,1,1,4,0,0,0,0,0,1,1] (f31_1_S (B true) v16 y2 y3 y4 w5 w6 v15)))) (
 tv (pbin (.int .i64) .add x1 (I 1)) fun v17 =>
 jmp [0,0,1,0,1,1,4,0,0,0,0,0,1,1] (f31_1_S x0 v17 y2 y3 y4 w5 w6 w7)))))))) (
 Prg.ite (asBool x0) (
 jmp [0,0,0,1,1] (f31_0_S y2 y3 y4 w5 w6 w7)) (
 jmp [1,1,1] (f31_2_S y2 y3 y4 w5 w6 w7)))
def f31_2  (y0 y1 y2 w3 w4 w5:TV):Prg TV :=
 tv (plen (.slice 59) y2) fun v18 =>
 nat (ac v18) fun n19 =>
 nat (ac v18) fun n20 =>
 chk (Bool.and (Nat.ble n19 n20) (Nat.ble n20 4294967296)) (
 tv (plen (.slice 3) (TV.sl true 1 (List.replicate n19 [I 0]))) fun v21 =>
 jmp [0,0,1,0,1,1,1,1] (f31_3_S v21 (I 0) (TV.sl true 1 (List.replicate n19 [I 0])) w3 w4 w5))
def f31_3  (x0 x1 w2 w3 w4 w5:TV):Prg TV :=
 tv (pbin (.int .i64) .lss x1 x0) fun v22 =>
 Prg.ite (asBool v22) (
 nat (slLen w2) fun n23 =>
 nat (ac x1) fun n24 =>
 chk (Bool.and (slSize w2 1) (Nat.blt n24 n23)) (
 tvs (pel w2 n24) fun e25 =>
 chk (ab bc e25 0) (
 tv (cB [] w2 n24 0 [TV.lit (Value.int IntKind.i64 (-1))]) fun v26 =>
 tv (pbin (.int .i64) .add x1 (I 1)) fun v27 =>
 jmp [0,0,1,0,1,1,1,1] (f31_3_S x0 v27 v26 w3 w4 w5)))) (
 jmp [1,1,1,1,1] (f31_4_S w2 w3 w4 w5))
def f31_4  (w0 w1 w2 w3:TV):Prg TV :=
 jmp [0,0,1,0,1,1,1,1,1] (f31_5_S (I 1) w0 w1 w2 w3)
def f31_5  (x0 w1 w2 w3 w4:TV):Prg TV :=
 tv (plen (.slice 3) w2) fun v28 =>
 tv (pbin (.int .i64) .lss x0 v28) fun v29 =>
 Prg.ite (asBool v29) (
 nat (slLen w2) fun n30 =>
 nat (ac x0) fun n31 =>
 chk (Bool.and (slSize w2 1) (Nat.blt n31 n30)) (
 tvs (pel w2 n31) fun e32 =>
 chk (ab bc e32 0) (
 nat (slLen w4) fun n33 =>
 nat (ac x0) fun n34 =>
 chk (Bool.and (slSize w4 1) (Nat.blt n34 n33)) (
 tvs (pel w4 n34) fun e35 =>
 chk (ab bc e35 0) (
 nat (slLen w2) fun n36 =>
 nat (ac (nth hole e35 0)) fun n37 =>
 chk (Bool.and (slSize w2 1) (Nat.blt n37 n36)) (
 tvs (pel w2 n37) fun e38 =>
 chk (ab bc e38 0) (
 nat (slLen w1) fun n39 =>
 nat (ac (nth hole e32 0)) fun n40 =>
 chk (Bool.and (slSize w1 1) (Nat.blt n40 n39)) (
 tvs (pel w1 n40) fun e41 =>
 chk (ab bc e41 0) (
 tv (cB [] w1 n40 0 [nth hole e38 0]) fun v42 =>
 tv (pbin (.int .i64) .add x0 (I 1)) fun v43 =>
 jmp [0,0,1,0,1,1,1,1,1] (f31_5_S v43 v42 w2 w3 w4)))))))))) (
 chk (bQ w1) (
 ret w1))
theorem f31_MR (x0:TV):bp prog 31 [x0]=f31_M x0:=by kernel_rfl
theorem f31_0_J  {y0 y1 y2 w3 w4 w5:TV} {r:TV} (h:aa prog 31 (f31_0 y0 y1 y2 w3 w4 w5) r):aa prog 31 (.jmp [0,0,0,1,1] (f31_0_S y0 y1 y2 w3 w4 w5)) r:=aa.jmp (by kernel_rfl) h
theorem f31_1_J  {x0 x1 y2 y3 y4 w5 w6 w7:TV} {r:TV} (h:aa prog 31 (f31_1 x0 x1 y2 y3 y4 w5 w6 w7) r):aa prog 31 (.jmp [0,0,1,0,1,1,4,0,0,0,0,0,1,1] (f31_1_S x0 x1 y2 y3 y4 w5 w6 w7)) r:=aa.jmp (by kernel_rfl) h
theorem f31_2_J  {y0 y1 y2 w3 w4 w5:TV} {r:TV} (h:aa prog 31 (f31_2 y0 y1 y2 w3 w4 w5) r):aa prog 31 (.jmp [1,1,1] (f31_2_S y0 y1 y2 w3 w4 w5)) r:=aa.jmp (by kernel_rfl) h
theorem f31_3_J  {x0 x1 w2 w3 w4 w5:TV} {r:TV} (h:aa prog 31 (f31_3 x0 x1 w2 w3 w4 w5) r):aa prog 31 (.jmp [0,0,1,0,1,1,1,1] (f31_3_S x0 x1 w2 w3 w4 w5)) r:=aa.jmp (by kernel_rfl) h
theorem f31_4_J  {w0 w1 w2 w3:TV} {r:TV} (h:aa prog 31 (f31_4 w0 w1 w2 w3) r):aa prog 31 (.jmp [1,1,1,1,1] (f31_4_S w0 w1 w2 w3)) r:=aa.jmp (by kernel_rfl) h
theorem f31_5_J  {x0 w1 w2 w3 w4:TV} {r:TV} (h:aa prog 31 (f31_5 x0 w1 w2 w3 w4) r):aa prog 31 (.jmp [0,0,1,0,1,1,1,1,1] (f31_5_S x0 w1 w2 w3 w4)) r:=aa.jmp (by kernel_rfl) h
def f37_M:Prg TV :=
 call 38 [agg [I 0,I 1,frz (TV.sl true 14 (chunks 14 3 [B false,I 0,TV.lit aB,B false,B false,TV.lit aB,I 2,I 0,I 0,I 0,TV.lit aB,I 1,I 0,I 0,B false,I 0,TV.lit aB,B false,B false,TV.lit aB,I 3,I 0,I 0,I 0,TV.lit aB,I 1,I 2,I 0,B false,I 0,TV.lit aB,B false,B false,TV.lit aB,I 1,I 0,I 0,I 0,TV.lit aB,I 0,I 0,I 0]))]] fun v0 =>
 chk (ab zSl [v0] 0) (
 tv (plen (.slice 67) v0) fun v1 =>
 tv (pbin (.int .i64) .eql v1 (I 1)) fun v2 =>
 Prg.ite (asBool v2) (
 nat (slLen v0) fun n3 =>
 nat (ac (I 0)) fun n4 =>
 chk (Bool.and (slSize v0 2) (Nat.blt n4 n3)) (
 tvs (pel v0 n4) fun e5 =>
 chk (ab bc e5 0) (
 tv (pbin (.int .i64) .eql (nth hole e5 0) (I 1)) fun v6 =>
 Prg.ite (asBool v6) (
 nat (slLen v0) fun n7 =>
 nat (ac (I 0)) fun n8 =>
 chk (Bool.and (slSize v0 2) (Nat.blt n8 n7)) (
 tvs (pel v0 n8) fun e9 =>
 chk (ab zSl e9 1) (
 tv (bF [(n8,1)] v0) fun v10 =>
 call 16 [frz v10,frz (TV.sl true 1 (chunks 1 1 [I 1]))] fun v11 =>
 chk (ab bu [v11] 0) (
 Prg.ite (asBool v11) (
 call 40 [agg [I 0,I 1,frz (TV.sl true 14 (chunks 14 3 [B false,I 0,TV.lit aB,B false,B false,TV.lit aB,I 2,I 0,I 0,I 0,TV.lit aB,I 1,I 0,I 0,B false,I 0,TV.lit aB,B false,B false,TV.lit aB,I 3,I 0,I 0,I 0,TV.lit aB,I 1,I 2,I 0,B false,I 0,TV.lit aB,B false,B false,TV.lit aB,I 1,I 0,I 0,I 0,TV.lit aB,I 0,I 0,I 0]))],I 1] fun v12 =>
 chk (ab bc [v12] 0) (
 tv (pbin (.int .i64) .eql v12 (I 1)) fun v13 =>
 Prg.ite (asBool v13) (
 call 40 [agg [I 0,I 1,frz (TV.sl true 14 (chunks 14 3 [B false,I 0,TV.lit aB,B false,B false,TV.lit aB,I 2,I 0,I 0,I 0,TV.lit aB,I 1,I 0,I 0,B false,I 0,TV.lit aB,B false,B false,TV.lit aB,I 3,I 0,I 0,I 0,TV.lit aB,I 1,I 2,I 0,B false,I 0,TV.lit aB,B false,B false,TV.lit aB,I 1,I 0,I 0,I 0,TV.lit aB,I 0,I 0,I 0]))],I 2] fun v14 =>
 chk (ab bc [v14] 0) (
 tv (pbin (.int .i64) .eql v14 (I 0)) fun v15 =>
 ret v15)) (
 ret (B false)))) (
 ret (B false)))))) (
 ret (B false))))) (
 ret (B false)))
theorem f37_MR:bp prog 37 []=f37_M  := by kernel_rfl
def f38_0_S  (x0 x1 w2 w3 w4 w5 w6 w7 w8:TV):ASt:=⟨[Jk,Jk,Jk,Pt 0,Pt 1] ++ Rj 13 ++ [AV.tv x0,AV.tv x1] ++ Rj 35,[some (BC.cells [CA.sref 2 0 [],CA.sref 2 1 [],CA.sref 2 2 [],CA.sref 2 3 [],CA.sref 2 4 [],CA.sref 2 5 []]),some (BC.cells [CA.sref 3 0 []]),some (BC.tree [w2,w3,w4,w5,w6,w7]),Tr w8] ++ Rz 75,[]⟩
def f38_1_S  (x0 y1 y2 w3 w4 w5 w6 w7 w8 w9 x10 x11:TV):ASt:=⟨[AV.one (CA.yl 0),Pt 0,Jk,Jk,AV.tv x0] ++ Rj 23,[some (BC.cells [CA.sref 5 0 [],CA.sref 5 1 [],CA.sref 5 2 [],CA.sref 5 3 [],CA.sref 5 4 [],CA.sref 5 5 []]),some (BC.cells [CA.sref 5 0 [],CA.sref 5 1 [],CA.sref 5 2 [],CA.sref 5 3 [],CA.sref 5 4 [],CA.sref 5 5 []]),some (BC.cells [CA.sref 6 0 []]),Ct y1,Ct y2,some (BC.tree [w3,w4,w5,w6,w7,w8]),Tr w9] ++ Rz 100,([Jk,Jk,Jk,Pt 1,Pt 2,Pt 3] ++ Rj 12 ++ [AV.tv x10,AV.tv x11] ++ Rj 4 ++ [AV.clo 79 [CA.ptr 0 0,CA.ptr 4 0]] ++ Rj 30)⟩
def f38_2_S  (w0:TV):ASt:=⟨Rj 4 ++ [Pt 0] ++ Rj 50,[some (BC.cells [CA.sref 1 0 []]),Tr w0] ++ Rz 77,[]⟩
def f38_3_S  (x0 y1 y2 w3 w4 w5 w6 w7 w8 w9 x10 x11:TV):ASt:=⟨[AV.one (CA.yl 0),Pt 0,Jk,Jk,AV.tv x0] ++ Rj 23,[some (BC.cells [CA.sref 5 0 [],CA.sref 5 1 [],CA.sref 5 2 [],CA.sref 5 3 [],CA.sref 5 4 [],CA.sref 5 5 []]),some (BC.cells [CA.sref 5 0 [],CA.sref 5 1 [],CA.sref 5 2 [],CA.sref 5 3 [],CA.sref 5 4 [],CA.sref 5 5 []]),some (BC.cells [CA.sref 6 0 []]),Ct y1,Ct y2,some (BC.tree [w3,w4,w5,w6,w7,w8]),Tr w9] ++ Rz 100,([Jk,Jk,Jk,Pt 1,Pt 2,Pt 3] ++ Rj 12 ++ [AV.tv x10,AV.tv x11] ++ Rj 4 ++ [AV.clo 79 [CA.ptr 0 0,CA.ptr 4 0]] ++ Rj 30)⟩
def f38_4_S  (x0 x1 w2 w3:TV):ASt:=⟨Rj 7 ++ [Sr 0] ++ Rj 29 ++ [Sr 1,AV.tv x0,AV.tv x1] ++ Rj 15,[Tr w2,Tr w3] ++ Rz 77,[]⟩
def f38_M (x0:TV):Prg TV :=
 chk (TV.isAgg x0 3) (
 call 59 [agg [cell x0 0,cell x0 1,cell x0 2]] fun v0 =>
 chk (Bool.and (TV.isAgg v0 6) (ab z91 (cellsL true v0) 0)) (
 tv (plen (.slice 59) (cell x0 2)) fun v1 =>
 nat (ac v1) fun n2 =>
 nat (ac v1) fun n3 =>
 chk (Bool.and (Nat.ble n2 n3) (Nat.ble n3 4294967296)) (
 tv (plen (.slice 59) (cell x0 2)) fun v4 =>
 jmp [0,0,1,0,1,1,1] (f38_0_S v4 (I 0) (cell v0 0) (cell v0 1) (cell v0 2) (cell v0 3) (cell v0 4) (cell v0 5) (TV.sl true 1 (List.replicate n2 [TV.lit aB]))))))
def f38_0  (x0 x1 w2 w3 w4 w5 w6 w7 w8:TV):Prg TV :=
 tv (pbin (.int .i64) .lss x1 x0) fun v5 =>
 Prg.ite (asBool v5) (
 chk (TV.cZ x1) (
 nat (slLen w6) fun n6 =>
 nat (ac x1) fun n7 =>
 chk (Bool.and (slSize w6 1) (Nat.blt n7 n6)) (
 tvs (pel w6 n7) fun e8 =>
 chk (ab bc e8 0) (
 nat (slLen w5) fun n9 =>
 nat (ac x1) fun n10 =>
 chk (Bool.and (slSize w5 1) (Nat.blt n10 n9)) (
 tvs (pel w5 n10) fun e11 =>
 chk (ab bu e11 0) (
 Prg.ite (asBool (nth hole e11 0)) (
 jmp [1,1,79,0,1,1,0,0,1,1,0,0,1,0,1,1,1] (f38_1_S x1 x1 x1 w2 w3 w4 w5 w6 w7 w8 x0 x1)) (
 jmp [1,1,79,0,1,1,0,0,1,1,0,0,1,0,1,1,1] (f38_1_S (nth hole e8 0) x1 x1 w2 w3 w4 w5 w6 w7 w8 x0 x1)))))))) (
 jmp [1,1,1,1] (f38_2_S w8))
def f38_1  (x0 y1 y2 w3 w4 w5 w6 w7 w8 w9 x10 x11:TV):Prg TV :=
 jmp [0,0,1,1,79,0,1,1,0,0,1,1,0,0,1,0,1,1,1] (f38_3_S x0 y1 y2 w3 w4 w5 w6 w7 w8 w9 x10 x11)
def f38_2  (w0:TV):Prg TV :=
 tv (plen (.slice 27) w0) fun v12 =>
 chk true (
 jmp [0,0,1,0,1,1,1,1,1] (f38_4_S v12 (I 0) (TV.lit aB) w0))
def f38_3  (x0 y1 y2 w3 w4 w5 w6 w7 w8 w9 x10 x11:TV):Prg TV :=
 tv (pbin (.int .i64) .geq x0 (I 0)) fun v13 =>
 Prg.ite (asBool v13) (
 nat (slLen w9) fun n14 =>
 nat (ac x0) fun n15 =>
 chk (Bool.and (slSize w9 1) (Nat.blt n15 n14)) (
 tvs (pel w9 n15) fun e16 =>
 chk (ab zSl e16 0) (
 rws (pelems 1 (TV.sl true 1 (chunks 1 1 [y1]))) fun r17 =>
 tv (bF [(n15,0)] w9) fun v18 =>
 tv (papp 1 v18 (jB r17)) fun v19 =>
 tv (ic [(n15,0)] w9 hole) fun v20 =>
 nat (slLen v20) fun n21 =>
 nat (ac x0) fun n22 =>
 chk (Bool.and (slSize v20 1) (Nat.blt n22 n21)) (
 tvs (pel v20 n22) fun e23 =>
 chk (Bool.and (eZ zSl e23 0) (ab zSl [v19] 0)) (
 tv (cB [] v20 n22 0 [v19]) fun v24 =>
 nat (slLen w7) fun n25 =>
 nat (ac x0) fun n26 =>
 chk (Bool.and (slSize w7 1) (Nat.blt n26 n25)) (
 tvs (pel w7 n26) fun e27 =>
 chk (ab bc e27 0) (
 jmp [0,0,1,1,79,0,1,1,0,0,1,1,0,0,1,0,1,1,1] (f38_3_S (nth hole e27 0) y1 y2 w3 w4 w5 w6 w7 w8 v24 x10 x11)))))))) (
 tv (pbin (.int .i64) .add x11 (I 1)) fun v28 =>
 jmp [0,0,1,0,1,1,1] (f38_0_S x10 v28 w3 w4 w5 w6 w7 w8 w9))
def f38_4  (x0 x1 w2 w3:TV):Prg TV :=
 tv (pbin (.int .i64) .lss x1 x0) fun v29 =>
 Prg.ite (asBool v29) (
 nat (slLen w3) fun n30 =>
 nat (ac x1) fun n31 =>
 chk (Bool.and (slSize w3 1) (Nat.blt n31 n30)) (
 tvs (pel w3 n31) fun e32 =>
 chk (ab zSl e32 0) (
 tv (bF [(n31,0)] w3) fun v33 =>
 tv (plen (.slice 3) v33) fun v34 =>
 tv (pbin (.int .i64) .gtr v34 (I 0)) fun v35 =>
 Prg.ite (asBool v35) (
 chk (TV.cZ x1) (
 tv (bF [(n31,0)] w3) fun v36 =>
 Prg.ite (frB v36) (
 rws (pelems 2 (TV.sl true 2 (chunks 2 1 [x1,v36]))) fun r37 =>
 tv (papp 2 w2 r37) fun v38 =>
 tv (pbin (.int .i64) .add x1 (I 1)) fun v39 =>
 jmp [0,0,1,0,1,1,1,1,1] (f38_4_S x0 v39 v38 w3)) (
 tv (ic [(n31,0)] w3 hole) fun v40 =>
 rws (pelems 2 (TV.sl true 2 (chunks 2 1 [x1,v36]))) fun r41 =>
 tv (papp 2 w2 r41) fun v42 =>
 tv (pbin (.int .i64) .add x1 (I 1)) fun v43 =>
 jmp [0,0,1,0,1,1,1,1,1] (f38_4_S x0 v43 v42 v40)))) (
 tv (pbin (.int .i64) .add x1 (I 1)) fun v44 =>
 jmp [0,0,1,0,1,1,1,1,1] (f38_4_S x0 v44 w2 w3))))) (
 chk (bQ w2) (
 ret w2))
theorem f38_MR (x0:TV):bp prog 38 [x0]=f38_M x0:=by kernel_rfl
theorem f38_0_J  {x0 x1 w2 w3 w4 w5 w6 w7 w8:TV} {r:TV} (h:aa prog 38 (f38_0 x0 x1 w2 w3 w4 w5 w6 w7 w8) r):aa prog 38 (.jmp [0,0,1,0,1,1,1] (f38_0_S x0 x1 w2 w3 w4 w5 w6 w7 w8)) r:=aa.jmp (by kernel_rfl) h
theorem f38_1_J  {x0 y1 y2 w3 w4 w5 w6 w7 w8 w9 x10 x11:TV} {r:TV} (h:aa prog 38 (f38_1 x0 y1 y2 w3 w4 w5 w6 w7 w8 w9 x10 x11) r):aa prog 38 (.jmp [1,1,79,0,1,1,0,0,1,1,0,0,1,0,1,1,1] (f38_1_S x0 y1 y2 w3 w4 w5 w6 w7 w8 w9 x10 x11)) r:=aa.jmp (by kernel_rfl) h
theorem f38_2_J  {w0:TV} {r:TV} (h:aa prog 38 (f38_2 w0) r):aa prog 38 (.jmp [1,1,1,1] (f38_2_S w0)) r:=aa.jmp (by kernel_rfl) h
theorem f38_3_J  {x0 y1 y2 w3 w4 w5 w6 w7 w8 w9 x10 x11:TV} {r:TV} (h:aa prog 38 (f38_3 x0 y1 y2 w3 w4 w5 w6 w7 w8 w9 x10 x11) r):aa prog 38 (.jmp [0,0,1,1,79,0,1,1,0,0,1,1,0,0,1,0,1,1,1] (f38_3_S x0 y1 y2 w3 w4 w5 w6 w7 w8 w9 x10 x11)) r:=aa.jmp (by kernel_rfl) h
theorem f38_4_J  {x0 x1 w2 w3:TV} {r:TV} (h:aa prog 38 (f38_4 x0 x1 w2 w3) r):aa prog 38 (.jmp [0,0,1,0,1,1,1,1,1] (f38_4_S x0 x1 w2 w3)) r:=aa.jmp (by kernel_rfl) h
def f39_0_S  (x0 y1 y2 y3 w4 w5:TV):ASt:=⟨[Jk,Pt 0,Jk,Sr 1,Sr 2,AV.tv x0] ++ Rj 103,[some (BC.cells [CA.t y1,CA.t y2,CA.t y3]),Tr w4,Tr w5] ++ Rz 130,[]⟩
def f39_1_S  (x0 x1 x2 y3 y4 y5 w6 w7 w8:TV):ASt:=⟨[Jk,Pt 0,Jk,Sr 1,Sr 2,AV.tv x0,Sr 3,AV.tv x1,AV.tv x2] ++ Rj 100,[some (BC.cells [CA.t y3,CA.t y4,CA.t y5]),Tr w6,Tr w7,Tr w8] ++ Rz 129,[]⟩
def f39_2_S  (x0 x1 x2 x3 y4 y5 y6 w7 w8 w9 w10:TV):ASt:=⟨[Jk,Pt 0,Jk,Sr 1,Sr 2,AV.tv x0,Sr 3,AV.tv x1,AV.tv x2,Sr 4,AV.tv x3] ++ Rj 98,[some (BC.cells [CA.t y4,CA.t y5,CA.t y6]),Tr w7,Tr w8,Tr w9,Tr w10] ++ Rz 128,[]⟩
def f39_3_S  (x0 x1 y2 y3 y4 w5 w6 w7:TV):ASt:=⟨[Jk,Pt 0,Jk,Sr 1,Sr 2,AV.tv x0,Sr 3,AV.tv x1] ++ Rj 101,[some (BC.cells [CA.t y2,CA.t y3,CA.t y4]),Tr w5,Tr w6,Tr w7] ++ Rz 129,[]⟩
def f39_4_S  (x0 x1 y2 y3 y4 w5 w6 w7 y8 w9:TV):ASt:=⟨[Jk,Pt 0,Jk,Sr 1,Sr 2,AV.tv x0,Sr 3] ++ Rj 4 ++ [Pt 4,AV.tv x1] ++ Rj 96,[some (BC.cells [CA.t y2,CA.t y3,CA.t y4]),Tr w5,Tr w6,Tr w7,some (BC.cells [CA.t y8,CA.sref 5 0 []]),Tr w9] ++ Rz 127,[]⟩
def f39_5_S  (x0 y1 y2 y3 w4 w5 y6 w7:TV):ASt:=⟨[Jk,Pt 0,Jk,Sr 1,Sr 2,AV.tv x0] ++ Rj 5 ++ [Pt 3] ++ Rj 97,[some (BC.cells [CA.t y1,CA.t y2,CA.t y3]),Tr w4,Tr w5,some (BC.cells [CA.t y6,CA.sref 4 0 []]),Tr w7] ++ Rz 128,[]⟩
def f39_M (x0:TV):Prg TV :=
 chk (TV.isAgg x0 3) (
 call 57 [agg [cell x0 0,cell x0 1,cell x0 2]] fun v0 =>
 chk (ab zSl [v0] 0) (
 chk true (
 jmp [0,0,1,0,1,1,1] (f39_0_S (I 0) (cell x0 0) (cell x0 1) (cell x0 2) v0 (TV.lit aB)))))
def f39_0  (x0 y1 y2 y3 w4 w5:TV):Prg TV :=
 tv (plen (.slice 59) y3) fun v1 =>
 tv (pbin (.int .i64) .lss x0 v1) fun v2 =>
 Prg.ite (asBool v2) (
 tv (plen (.slice 59) y3) fun v3 =>
 nat (ac v3) fun n4 =>
 nat (ac v3) fun n5 =>
 chk (Bool.and (Nat.ble n4 n5) (Nat.ble n5 4294967296)) (
 jmp [0,0,1,0,1,1,0,0,1,0,0,1,0,1,1,1] (f39_1_S x0 (B false) (I 0) y1 y2 y3 w4 w5 (TV.sl true 1 (List.replicate n4 [B false]))))) (
 ret w5)
def f39_1  (x0 x1 x2 y3 y4 y5 w6 w7 w8:TV):Prg TV :=
 tv (plen (.slice 59) y5) fun v6 =>
 tv (pbin (.int .i64) .lss x2 v6) fun v7 =>
 Prg.ite (asBool v7) (
 nat (slLen w6) fun n8 =>
 nat (ac x0) fun n9 =>
 chk (Bool.and (slSize w6 1) (Nat.blt n9 n8)) (
 tvs (pel w6 n9) fun e10 =>
 chk (ab zSl e10 0) (
 tv (bF [(n9,0)] w6) fun v11 =>
 nat (slLen v11) fun n12 =>
 nat (ac x2) fun n13 =>
 chk (Bool.and (slSize v11 1) (Nat.blt n13 n12)) (
 tv (bF [(n9,0)] w6) fun v14 =>
 tvs (pel v14 n13) fun e15 =>
 chk (ab bu e15 0) (
 tv (pun .not (nth hole e15 0)) fun v16 =>
 Prg.ite (asBool v16) (
 tv (pbin (.int .i64) .add x2 (I 1)) fun v17 =>
 jmp [0,0,1,0,1,1,0,0,1,0,0,1,0,1,1,1] (f39_1_S x0 x1 v17 y3 y4 y5 w6 w7 w8)) (
 call 18 [agg [y3,y4,y5],x2] fun v18 =>
 chk (ab zSl [v18] 0) (
 call 26 [frz v18,x0] fun v19 =>
 chk (ab bu [v19] 0) (
 tv (pun .not v19) fun v20 =>
 Prg.ite (asBool v20) (
 tv (pbin (.int .i64) .add x2 (I 1)) fun v21 =>
 jmp [0,0,1,0,1,1,0,0,1,0,0,1,0,1,1,1] (f39_1_S x0 x1 v21 y3 y4 y5 w6 w7 w8)) (
 call 61 [agg [y3,y4,y5],x2,x0] fun v22 =>
 chk (ab zSl [v22] 0) (
 jmp [0,0,1,1,1,1,0,0,1,0,0,1,0,1,1,0,0,1,0,0,1,0,1,1,1] (f39_2_S x0 (B true) x2 (I 0) y3 y4 y5 w6 w7 w8 v22))))))))))) (
 jmp [1,1,1,0,0,1,0,0,1,0,1,1,1] (f39_3_S x0 x1 y3 y4 y5 w6 w7 w8))
def f39_2  (x0 x1 x2 x3 y4 y5 y6 w7 w8 w9 w10:TV):Prg TV :=
 tv (plen (.slice 4) w9) fun v23 =>
 tv (pbin (.int .i64) .lss x3 v23) fun v24 =>
 Prg.ite (asBool v24) (
 nat (slLen w9) fun n25 =>
 nat (ac x3) fun n26 =>
 chk (Bool.and (slSize w9 1) (Nat.blt n26 n25)) (
 tvs (pel w9 n26) fun e27 =>
 chk (ab bu e27 0) (
 Prg.ite (asBool (nth hole e27 0)) (
 nat (slLen w9) fun n28 =>
 nat (ac x3) fun n29 =>
 chk (Bool.and (slSize w9 1) (Nat.blt n29 n28)) (
 tvs (pel w9 n29) fun e30 =>
 chk (ab bu e30 0) (
 tv (cB [] w9 n29 0 [B true]) fun v31 =>
 tv (pbin (.int .i64) .add x3 (I 1)) fun v32 =>
 jmp [0,0,1,1,1,1,0,0,1,0,0,1,0,1,1,0,0,1,0,0,1,0,1,1,1] (f39_2_S x0 x1 x2 v32 y4 y5 y6 w7 w8 v31 w10)))) (
 nat (slLen w10) fun n33 =>
 nat (ac x3) fun n34 =>
 chk (Bool.and (slSize w10 1) (Nat.blt n34 n33)) (
 tvs (pel w10 n34) fun e35 =>
 chk (ab bu e35 0) (
 Prg.ite (asBool (nth hole e35 0)) (
 nat (slLen w7) fun n36 =>
 nat (ac x0) fun n37 =>
 chk (Bool.and (slSize w7 1) (Nat.blt n37 n36)) (
 tvs (pel w7 n37) fun e38 =>
 chk (ab zSl e38 0) (
 tv (bF [(n37,0)] w7) fun v39 =>
 nat (slLen v39) fun n40 =>
 nat (ac x3) fun n41 =>
 chk (Bool.and (slSize v39 1) (Nat.blt n41 n40)) (
 tv (bF [(n37,0)] w7) fun v42 =>
 tvs (pel v42 n41) fun e43 =>
 chk (ab bu e43 0) (
 nat (slLen w9) fun n44 =>
 nat (ac x3) fun n45 =>
 chk (Bool.and (slSize w9 1) (Nat.blt n45 n44)) (
 tvs (pel w9 n45) fun e46 =>
 chk (ab bu e46 0) (
 tv (cB [] w9 n45 0 [nth hole e43 0]) fun v47 =>
 tv (pbin (.int .i64) .add x3 (I 1)) fun v48 =>
 jmp [0,0,1,1,1,1,0,0,1,0,0,1,0,1,1,0,0,1,0,0,1,0,1,1,1] (f39_2_S x0 x1 x2 v48 y4 y5 y6 w7 w8 v47 w10)))))))) (
 nat (slLen w9) fun n49 =>
 nat (ac x3) fun n50 =>
 chk (Bool.and (slSize w9 1) (Nat.blt n50 n49)) (
 tvs (pel w9 n50) fun e51 =>
 chk (ab bu e51 0) (
 tv (cB [] w9 n50 0 [B false]) fun v52 =>
 tv (pbin (.int .i64) .add x3 (I 1)) fun v53 =>
 jmp [0,0,1,1,1,1,0,0,1,0,0,1,0,1,1,0,0,1,0,0,1,0,1,1,1] (f39_2_S x0 x1 x2 v53 y4 y5 y6 w7 w8 v52 w10)))))))))) (
 tv (pbin (.int .i64) .add x2 (I 1)) fun v54 =>
 jmp [0,0,1,0,1,1,0,0,1,0,0,1,0,1,1,1] (f39_1_S x0 x1 v54 y4 y5 y6 w7 w8 w9))
def f39_3  (x0 x1 y2 y3 y4 w5 w6 w7:TV):Prg TV :=
 tv (pun .not x1) fun v55 =>
 Prg.ite (asBool v55) (
 tv (pbin (.int .i64) .add x0 (I 1)) fun v56 =>
 jmp [0,0,1,0,1,1,1] (f39_0_S v56 y2 y3 y4 w5 w6)) (
 nat (slLen w7) fun n57 =>
 nat (ac x0) fun n58 =>
 chk (Bool.and (slSize w7 1) (Nat.blt n58 n57)) (
 tvs (pel w7 n58) fun e59 =>
 chk (ab bu e59 0) (
 tv (cB [] w7 n58 0 [B true]) fun v60 =>
 chk (TV.cZ x0) (
 chk true (
 jmp [0,0,1,0,1,1,1,1,1,1,0,0,1,0,0,1,0,1,1,1] (f39_4_S x0 (I 0) y2 y3 y4 w5 w6 v60 x0 (TV.lit aB)))))))
def f39_4  (x0 x1 y2 y3 y4 w5 w6 w7 y8 w9:TV):Prg TV :=
 tv (plen (.slice 4) w7) fun v61 =>
 tv (pbin (.int .i64) .lss x1 v61) fun v62 =>
 Prg.ite (asBool v62) (
 nat (slLen w7) fun n63 =>
 nat (ac x1) fun n64 =>
 chk (Bool.and (slSize w7 1) (Nat.blt n64 n63)) (
 tvs (pel w7 n64) fun e65 =>
 chk (ab bu e65 0) (
 Prg.ite (asBool (nth hole e65 0)) (
 chk (TV.cZ x1) (
 rws (pelems 1 (TV.sl true 1 (chunks 1 1 [x1]))) fun r66 =>
 tv (papp 1 w9 (jB r66)) fun v67 =>
 tv (pbin (.int .i64) .add x1 (I 1)) fun v68 =>
 jmp [0,0,1,0,1,1,1,1,1,1,0,0,1,0,0,1,0,1,1,1] (f39_4_S x0 v68 y2 y3 y4 w5 w6 w7 y8 v67))) (
 tv (pbin (.int .i64) .add x1 (I 1)) fun v69 =>
 jmp [0,0,1,0,1,1,1,1,1,1,0,0,1,0,0,1,0,1,1,1] (f39_4_S x0 v69 y2 y3 y4 w5 w6 w7 y8 w9))))) (
 jmp [1,1,1,1,1,1,1,0,0,1,0,0,1,0,1,1,1] (f39_5_S x0 y2 y3 y4 w5 w6 y8 w9))
def f39_5  (x0 y1 y2 y3 w4 w5 y6 w7:TV):Prg TV :=
 rws (pelems 2 (TV.sl true 2 (chunks 2 1 [y6,w7]))) fun r70 =>
 tv (papp 2 w5 r70) fun v71 =>
 tv (pbin (.int .i64) .add x0 (I 1)) fun v72 =>
 jmp [0,0,1,0,1,1,1] (f39_0_S v72 y1 y2 y3 w4 v71)
theorem f39_MR (x0:TV):bp prog 39 [x0]=f39_M x0:=by kernel_rfl
theorem f39_0_J  {x0 y1 y2 y3 w4 w5:TV} {r:TV} (h:aa prog 39 (f39_0 x0 y1 y2 y3 w4 w5) r):aa prog 39 (.jmp [0,0,1,0,1,1,1] (f39_0_S x0 y1 y2 y3 w4 w5)) r:=aa.jmp (by kernel_rfl) h
theorem f39_1_J  {x0 x1 x2 y3 y4 y5 w6 w7 w8:TV} {r:TV} (h:aa prog 39 (f39_1 x0 x1 x2 y3 y4 y5 w6 w7 w8) r):aa prog 39 (.jmp [0,0,1,0,1,1,0,0,1,0,0,1,0,1,1,1] (f39_1_S x0 x1 x2 y3 y4 y5 w6 w7 w8)) r:=aa.jmp (by kernel_rfl) h
theorem f39_2_J  {x0 x1 x2 x3 y4 y5 y6 w7 w8 w9 w10:TV} {r:TV} (h:aa prog 39 (f39_2 x0 x1 x2 x3 y4 y5 y6 w7 w8 w9 w10) r):aa prog 39 (.jmp [0,0,1,1,1,1,0,0,1,0,0,1,0,1,1,0,0,1,0,0,1,0,1,1,1] (f39_2_S x0 x1 x2 x3 y4 y5 y6 w7 w8 w9 w10)) r:=aa.jmp (by kernel_rfl) h
theorem f39_3_J  {x0 x1 y2 y3 y4 w5 w6 w7:TV} {r:TV} (h:aa prog 39 (f39_3 x0 x1 y2 y3 y4 w5 w6 w7) r):aa prog 39 (.jmp [1,1,1,0,0,1,0,0,1,0,1,1,1] (f39_3_S x0 x1 y2 y3 y4 w5 w6 w7)) r:=aa.jmp (by kernel_rfl) h
theorem f39_4_J  {x0 x1 y2 y3 y4 w5 w6 w7 y8 w9:TV} {r:TV} (h:aa prog 39 (f39_4 x0 x1 y2 y3 y4 w5 w6 w7 y8 w9) r):aa prog 39 (.jmp [0,0,1,0,1,1,1,1,1,1,0,0,1,0,0,1,0,1,1,1] (f39_4_S x0 x1 y2 y3 y4 w5 w6 w7 y8 w9)) r:=aa.jmp (by kernel_rfl) h
theorem f39_5_J  {x0 y1 y2 y3 w4 w5 y6 w7:TV} {r:TV} (h:aa prog 39 (f39_5 x0 y1 y2 y3 w4 w5 y6 w7) r):aa prog 39 (.jmp [1,1,1,1,1,1,1,0,0,1,0,0,1,0,1,1,1] (f39_5_S x0 y1 y2 y3 w4 w5 y6 w7)) r:=aa.jmp (by kernel_rfl) h
def f40_0_S  (x0 y1 y2 w3 w4 w5 w6 w7 w8:TV):ASt:=⟨[AV.one (CA.yl 0),Pt 0,Jk,Jk,AV.tv x0] ++ Rj 23,[some (BC.cells [CA.sref 3 0 [],CA.sref 3 1 [],CA.sref 3 2 [],CA.sref 3 3 [],CA.sref 3 4 [],CA.sref 3 5 []]),Ct y1,Ct y2,some (BC.tree [w3,w4,w5,w6,w7,w8])] ++ Rz 71,(Rj 5 ++ [Pt 1] ++ Rj 12 ++ [AV.clo 79 [CA.ptr 0 0,CA.ptr 2 0]] ++ Rj 4)⟩
def f40_1_S  (x0 y1 y2 w3 w4 w5 w6 w7 w8:TV):ASt:=⟨[AV.one (CA.yl 0),Pt 0,Jk,Jk,AV.tv x0] ++ Rj 23,[some (BC.cells [CA.sref 3 0 [],CA.sref 3 1 [],CA.sref 3 2 [],CA.sref 3 3 [],CA.sref 3 4 [],CA.sref 3 5 []]),Ct y1,Ct y2,some (BC.tree [w3,w4,w5,w6,w7,w8])] ++ Rz 71,(Rj 5 ++ [Pt 1] ++ Rj 12 ++ [AV.clo 79 [CA.ptr 0 0,CA.ptr 2 0]] ++ Rj 4)⟩
def f40_M (x0 x1:TV):Prg TV :=
 chk (TV.isAgg x0 3) (
 tv (pbin (.int .i64) .lss x1 (I 0)) fun v0 =>
 Prg.ite (asBool v0) (
 ret (I 0)) (
 tv (plen (.slice 59) (cell x0 2)) fun v1 =>
 tv (pbin (.int .i64) .geq x1 v1) fun v2 =>
 Prg.ite (asBool v2) (
 ret (I 0)) (
 call 59 [agg [cell x0 0,cell x0 1,cell x0 2]] fun v3 =>
 chk (Bool.and (TV.isAgg v3 6) (ab z91 (cellsL true v3) 0)) (
 chk (TV.cZ x1) (
 nat (slLen (cell v3 4)) fun n4 =>
 nat (ac x1) fun n5 =>
 chk (Bool.and (slSize (cell v3 4) 1) (Nat.blt n5 n4)) (
 tvs (pel (cell v3 4) n5) fun e6 =>
 chk (ab bc e6 0) (
 nat (slLen (cell v3 3)) fun n7 =>
 nat (ac x1) fun n8 =>
 chk (Bool.and (slSize (cell v3 3) 1) (Nat.blt n8 n7)) (
 tvs (pel (cell v3 3) n8) fun e9 =>
 chk (ab bu e9 0) (
 Prg.ite (asBool (nth hole e9 0)) (
 jmp [1,1,79,0,1,0,1,1,1] (f40_0_S x1 (I 0) x1 (cell v3 0) (cell v3 1) (cell v3 2) (cell v3 3) (cell v3 4) (cell v3 5))) (
 jmp [1,1,79,0,1,0,1,1,1] (f40_0_S (nth hole e6 0) (I 0) x1 (cell v3 0) (cell v3 1) (cell v3 2) (cell v3 3) (cell v3 4) (cell v3 5))))))))))))
def f40_0  (x0 y1 y2 w3 w4 w5 w6 w7 w8:TV):Prg TV :=
 jmp [0,0,1,1,79,0,1,0,1,1,1] (f40_1_S x0 y1 y2 w3 w4 w5 w6 w7 w8)
def f40_1  (x0 y1 y2 w3 w4 w5 w6 w7 w8:TV):Prg TV :=
 tv (pbin (.int .i64) .geq x0 (I 0)) fun v10 =>
 Prg.ite (asBool v10) (
 tv (pbin (.int .i64) .add y1 (I 1)) fun v11 =>
 nat (slLen w7) fun n12 =>
 nat (ac x0) fun n13 =>
 chk (Bool.and (slSize w7 1) (Nat.blt n13 n12)) (
 tvs (pel w7 n13) fun e14 =>
 chk (ab bc e14 0) (
 jmp [0,0,1,1,79,0,1,0,1,1,1] (f40_1_S (nth hole e14 0) v11 y2 w3 w4 w5 w6 w7 w8)))) (
 ret y1)
theorem f40_MR (x0 x1:TV):bp prog 40 [x0,x1]=f40_M x0 x1:=by kernel_rfl
theorem f40_0_J  {x0 y1 y2 w3 w4 w5 w6 w7 w8:TV} {r:TV} (h:aa prog 40 (f40_0 x0 y1 y2 w3 w4 w5 w6 w7 w8) r):aa prog 40 (.jmp [1,1,79,0,1,0,1,1,1] (f40_0_S x0 y1 y2 w3 w4 w5 w6 w7 w8)) r:=aa.jmp (by kernel_rfl) h
theorem f40_1_J  {x0 y1 y2 w3 w4 w5 w6 w7 w8:TV} {r:TV} (h:aa prog 40 (f40_1 x0 y1 y2 w3 w4 w5 w6 w7 w8) r):aa prog 40 (.jmp [0,0,1,1,79,0,1,0,1,1,1] (f40_1_S x0 y1 y2 w3 w4 w5 w6 w7 w8)) r:=aa.jmp (by kernel_rfl) h
def f41_M (x0 x1:TV):Prg TV :=
 chk (TV.isAgg x0 3) (
 tv (pbin (.int .i64) .leq (I 0) x1) fun v0 =>
 Prg.ite (asBool v0) (
 tv (plen (.slice 59) (cell x0 2)) fun v1 =>
 tv (pbin (.int .i64) .lss x1 v1) fun v2 =>
 ret v2) (
 ret (B false)))
theorem f41_MR (x0 x1:TV):bp prog 41 [x0,x1]=f41_M x0 x1:=by kernel_rfl
def f42_0_S  (x0 y1 y2 y3 y4 y5 y6 y7 y8 y9 y10 y11 y12 y13 y14 w15:TV):ASt:=⟨[Jk,Pt 0,Jk,Jk,Sr 1] ++ Rj 13 ++ [AV.tv x0] ++ Rj 7,[some (BC.cells [CA.t y1,CA.t y2,CA.t y3,CA.t y4,CA.t y5,CA.t y6,CA.t y7,CA.t y8,CA.t y9,CA.t y10,CA.t y11,CA.t y12,CA.t y13,CA.t y14]),Tr w15] ++ Rz 48,[]⟩
def f42_M (x0:TV):Prg TV :=
 chk (TV.isAgg x0 14) (
 call 62 [cell x0 6] fun v0 =>
 chk (ab bc [v0] 0) (
 call 63 [v0,I 64] fun v1 =>
 chk (ab bu [v1] 0) (
 Prg.ite (asBool v1) (
 rws (pelems 1 (TV.sl true 1 (chunks 1 1 [cell x0 11]))) fun r2 =>
 tv (papp 1 (TV.lit aB) (jB r2)) fun v3 =>
 call 63 [v0,I 128] fun v4 =>
 chk (ab bu [v4] 0) (
 jmp [1,0,1,1,1,1] (f42_0_S v4 (cell x0 0) (cell x0 1) (cell x0 2) (cell x0 3) (cell x0 4) (cell x0 5) (cell x0 6) (cell x0 7) (cell x0 8) (cell x0 9) (cell x0 10) (cell x0 11) (cell x0 12) (cell x0 13) v3))) (
 call 63 [v0,I 128] fun v5 =>
 chk (ab bu [v5] 0) (
 chk true (
 jmp [1,0,1,1,1,1] (f42_0_S v5 (cell x0 0) (cell x0 1) (cell x0 2) (cell x0 3) (cell x0 4) (cell x0 5) (cell x0 6) (cell x0 7) (cell x0 8) (cell x0 9) (cell x0 10) (cell x0 11) (cell x0 12) (cell x0 13) (TV.lit aB))))))))
def f42_0  (x0 y1 y2 y3 y4 y5 y6 y7 y8 y9 y10 y11 y12 y13 y14 w15:TV):Prg TV :=
 Prg.ite (asBool x0) (
 rws (pelems 1 (TV.sl true 1 (chunks 1 1 [y13]))) fun r6 =>
 tv (papp 1 w15 (jB r6)) fun v7 =>
 chk (bQ v7) (
 ret v7)) (
 chk (bQ w15) (
 ret w15))
theorem f42_MR (x0:TV):bp prog 42 [x0]=f42_M x0:=by kernel_rfl
theorem f42_0_J  {x0 y1 y2 y3 y4 y5 y6 y7 y8 y9 y10 y11 y12 y13 y14 w15:TV} {r:TV} (h:aa prog 42 (f42_0 x0 y1 y2 y3 y4 y5 y6 y7 y8 y9 y10 y11 y12 y13 y14 w15) r):aa prog 42 (.jmp [1,0,1,1,1,1] (f42_0_S x0 y1 y2 y3 y4 y5 y6 y7 y8 y9 y10 y11 y12 y13 y14 w15)) r:=aa.jmp (by kernel_rfl) h
end Go.Ab.Q12
end

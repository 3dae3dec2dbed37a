import Derived.Test.YthmcbcepgchhcaaBU7Xa
import Derived.OpenShut
section
set_option linter.unusedVariables false
set_option maxRecDepth 100000
namespace Go.Ab.U7
open Go Go.Ab Go.Proofs
open Go.Ab.TV (hole cell comp isSl isSc isTup cellsL tup agg)
open Go.Ab.Prg (tv tvs rws nat chk call jmp ret)
def f23_0_S  (x0 x1 x2:TV):ASt:=⟨[AV.tv x0,AV.tv x1,AV.one CA.junk,AV.one CA.junk,AV.one CA.junk,AV.tv x2] ++ List.replicate 20 (AV.one CA.junk),List.replicate 50 (none),[]⟩
def f23_M (x0 x1:TV):Prg TV :=
 tv (plen (.slice 3) x0) fun v0 =>
 tv (plen (.slice 3) x1) fun v1 =>
 tv (pbin (.int .i64) .neq v0 v1) fun v2 =>
 Prg.ite (asBool v2) (
 ret (B false)) (
 jmp [0,0,1,0,1,1] (f23_0_S x0 x1 (I 0)))
def f23_0  (x0 x1 x2:TV):Prg TV :=
 tv (plen (.slice 3) x0) fun v3 =>
 tv (pbin (.int .i64) .lss x2 v3) fun v4 =>
 Prg.ite (asBool v4) (
 tvs (pidx 1 x0 x2) fun e5 =>
 chk (Nat.blt 0 (List.length e5)) (
 tvs (pidx 1 x1 x2) fun e6 =>
 chk (Nat.blt 0 (List.length e6)) (
 tv (pbin (.int .i64) .neq (nth hole e5 0) (nth hole e6 0)) fun v7 =>
 Prg.ite (asBool v7) (
 ret (B false)) (
 tv (pbin (.int .i64) .add x2 (I 1)) fun v8 =>
 jmp [0,0,1,0,1,1] (f23_0_S x0 x1 v8))))) (
 ret (B true))
theorem f23_MR (x0 x1:TV):startQ prog 23 [x0,x1]=f23_M x0 x1:=by kernel_rfl
theorem f23_0_J  {x0 x1 x2:TV} {r:TV} (h:Goes prog 23 (f23_0 x0 x1 x2) r):Goes prog 23 (.jmp [0,0,1,0,1,1] (f23_0_S x0 x1 x2)) r:=Goes.jmp (by kernel_rfl) h
def f24_0_S  (y0 y1 y2 w3:TV):ASt:=⟨[AV.one CA.junk,AV.one CA.junk,AV.one (CA.ptr 0 0),AV.one CA.junk,AV.one CA.junk,AV.one CA.junk,AV.one (CA.sref 1 0 [])] ++ List.replicate 24 (AV.one CA.junk),[some (BC.cells [CA.t y0,CA.t y1,CA.t y2]),some (BC.tree [w3])] ++ List.replicate 53 (none),[]⟩
def f24_1_S  (x0 x1 w2 y3 y4 y5:TV):ASt:=⟨[AV.one (CA.sref 0 0 []),AV.clo 48 [CA.ptr 1 0]] ++ List.replicate 5 (AV.one CA.junk) ++ [AV.tv x0,AV.tv x1] ++ List.replicate 10 (AV.one CA.junk),[some (BC.tree [w2]),some (BC.cells [CA.t y3,CA.t y4,CA.t y5])] ++ List.replicate 114 (none),(List.replicate 31 (AV.one CA.junk) ++ [AV.one (CA.sref 0 0 []),AV.clo 48 [CA.ptr 1 0]] ++ List.replicate 40 (AV.one CA.junk))⟩
def f24_2_S  (x0 x1 w2 y3 y4 y5:TV):ASt:=⟨[AV.one (CA.sref 0 0 []),AV.clo 48 [CA.ptr 1 0],AV.one CA.junk,AV.one CA.junk,AV.one CA.junk,AV.tv x0,AV.tv x1] ++ List.replicate 35 (AV.one CA.junk),[some (BC.tree [w2]),some (BC.cells [CA.t y3,CA.t y4,CA.t y5])] ++ List.replicate 95 (none),List.replicate 31 (AV.one CA.junk)⟩
def f24_3_S  (x0 w1:TV):ASt:=⟨[AV.one (CA.sref 0 0 [])] ++ List.replicate 4 (AV.one CA.junk) ++ [AV.tv x0] ++ List.replicate 36 (AV.one CA.junk),[some (BC.tree [w1])] ++ List.replicate 96 (none),List.replicate 31 (AV.one CA.junk)⟩
def f24_M (x0 x1:TV):Prg TV :=
 chk (TV.isAgg x0 3) (
 call 45 [agg [cell x0 0,cell x0 1,cell x0 2],x1] fun v0 =>
 chk (fitsAt zBool [v0] 0) (
 tv (pun .not v0) fun v1 =>
 Prg.ite (asBool v1) (
 chk true (
 ret (TV.lit nilV))) (
 tvs (pidx 14 (cell x0 2) x1) fun e2 =>
 chk (Nat.ble 14 (List.length e2)) (
 call 46 [agg [nth hole e2 0,nth hole e2 1,nth hole e2 2,nth hole e2 3,nth hole e2 4,nth hole e2 5,nth hole e2 6,nth hole e2 7,nth hole e2 8,nth hole e2 9,nth hole e2 10,nth hole e2 11,nth hole e2 12,nth hole e2 13]] fun v3 =>
 chk (fitsAt zSl [v3] 0) (
 tv (pbin (.int .i64) .eql (nth hole e2 6) (I 4)) fun v4 =>
 Prg.ite (asBool v4) (
 rws (pelems 1 (TV.sl true 1 (chunks 1 1 [nth hole e2 13]))) fun r5 =>
 tv (papp 1 v3 (lfLL r5)) fun v6 =>
 jmp [1,1,1,1,1] (f24_0_S (cell x0 0) (cell x0 1) (cell x0 2) v6)) (
 jmp [1,1,1,1,1] (f24_0_S (cell x0 0) (cell x0 1) (cell x0 2) v3)))))))
def f24_0  (y0 y1 y2 w3:TV):Prg TV :=
 tv (plen (.slice 3) w3) fun v7 =>
 jmp [0,0,1,0,1,4,0,1,4,0,1,1,1,1,1] (f24_1_S v7 (I 0) w3 y0 y1 y2)
def f24_1  (x0 x1 w2 y3 y4 y5:TV):Prg TV :=
 tv (pbin (.int .i64) .lss x1 x0) fun v8 =>
 Prg.ite (asBool v8) (
 nat (slLen w2) fun n9 =>
 nat (asNat x1) fun n10 =>
 chk (Bool.and (slSize w2 1) (Nat.blt n10 n9)) (
 tvs (pel w2 n10) fun e11 =>
 chk (fitsAt zInt e11 0) (
 call 45 [agg [y3,y4,y5],nth hole e11 0] fun v12 =>
 chk (fitsAt zBool [v12] 0) (
 tv (pun .not v12) fun v13 =>
 Prg.ite (asBool v13) (
 tv (pbin (.int .i64) .eql x1 (TV.lit (Value.int IntKind.i64 (-1)))) fun v14 =>
 Prg.ite (asBool v14) (
 chk (isOwn w2) (
 ret w2)) (
 tv (pbin (.int .i64) .add x1 (I 1)) fun v15 =>
 jmp [0,0,1,0,1,1,1,4,0,1,1,1,1,1] (f24_2_S x1 v15 w2 y3 y4 y5))) (
 tv (pbin (.int .i64) .add x1 (I 1)) fun v16 =>
 jmp [0,0,1,0,1,4,0,1,4,0,1,1,1,1,1] (f24_1_S x0 v16 w2 y3 y4 y5)))))) (
 tv (pbin (.int .i64) .eql (TV.lit (Value.int IntKind.i64 (-1))) (TV.lit (Value.int IntKind.i64 (-1)))) fun v17 =>
 Prg.ite (asBool v17) (
 chk (isOwn w2) (
 ret w2)) (
 tv (pbin (.int .i64) .add (TV.lit (Value.int IntKind.i64 (-1))) (I 1)) fun v18 =>
 jmp [0,0,1,0,1,1,1,4,0,1,1,1,1,1] (f24_2_S (TV.lit (Value.int IntKind.i64 (-1))) v18 w2 y3 y4 y5)))
def f24_2  (x0 x1 w2 y3 y4 y5:TV):Prg TV :=
 tv (plen (.slice 3) w2) fun v19 =>
 tv (pbin (.int .i64) .lss x1 v19) fun v20 =>
 Prg.ite (asBool v20) (
 nat (slLen w2) fun n21 =>
 nat (asNat x1) fun n22 =>
 chk (Bool.and (slSize w2 1) (Nat.blt n22 n21)) (
 tvs (pel w2 n22) fun e23 =>
 chk (fitsAt zInt e23 0) (
 call 45 [agg [y3,y4,y5],nth hole e23 0] fun v24 =>
 chk (fitsAt zBool [v24] 0) (
 tv (pun .not v24) fun v25 =>
 tv (pun .not v25) fun v26 =>
 Prg.ite (asBool v26) (
 nat (slLen w2) fun n27 =>
 nat (asNat x0) fun n28 =>
 chk (Bool.and (slSize w2 1) (Nat.blt n28 n27)) (
 tvs (pel w2 n28) fun e29 =>
 chk (fitsAt zInt e29 0) (
 tv (setC [] w2 n28 0 [nth hole e23 0]) fun v30 =>
 tv (pbin (.int .i64) .add x0 (I 1)) fun v31 =>
 tv (pbin (.int .i64) .add x1 (I 1)) fun v32 =>
 jmp [0,0,1,0,1,1,1,4,0,1,1,1,1,1] (f24_2_S v31 v32 v30 y3 y4 y5)))) (
 tv (pbin (.int .i64) .add x1 (I 1)) fun v33 =>
 jmp [0,0,1,0,1,1,1,4,0,1,1,1,1,1] (f24_2_S x0 v33 w2 y3 y4 y5)))))) (
 jmp [1,1,1,1,4,0,1,1,1,1,1] (f24_3_S x0 w2))
def f24_3  (x0 w1:TV):Prg TV :=
 nat (slLen w1) fun n34 =>
 nat (asNat x0) fun n35 =>
 chk (Bool.and (Bool.and (slSize w1 1) (Nat.ble (Option.getD (some n35) 0) (Option.getD none n34))) (Nat.ble (Option.getD none n34) n34)) (
 tv (pclear 1 [I 0] (Option.getD (some n35) 0) ((Option.getD none n34) - (Option.getD (some n35) 0)) w1) fun v36 =>
 nat (slLen v36) fun n37 =>
 nat (asNat x0) fun n38 =>
 chk (Bool.and (Bool.and (slSize v36 1) (Nat.ble 0 (Option.getD (some n38) n37))) (Nat.ble (Option.getD (some n38) n37) n37)) (
 tv (winP 0 ((Option.getD (some n38) n37) - 0) v36) fun v39 =>
 chk (isOwn v39) (
 ret v39)))
theorem f24_MR (x0 x1:TV):startQ prog 24 [x0,x1]=f24_M x0 x1:=by kernel_rfl
theorem f24_0_J  {y0 y1 y2 w3:TV} {r:TV} (h:Goes prog 24 (f24_0 y0 y1 y2 w3) r):Goes prog 24 (.jmp [1,1,1,1,1] (f24_0_S y0 y1 y2 w3)) r:=Goes.jmp (by kernel_rfl) h
theorem f24_1_J  {x0 x1 w2 y3 y4 y5:TV} {r:TV} (h:Goes prog 24 (f24_1 x0 x1 w2 y3 y4 y5) r):Goes prog 24 (.jmp [0,0,1,0,1,4,0,1,4,0,1,1,1,1,1] (f24_1_S x0 x1 w2 y3 y4 y5)) r:=Goes.jmp (by kernel_rfl) h
theorem f24_2_J  {x0 x1 w2 y3 y4 y5:TV} {r:TV} (h:Goes prog 24 (f24_2 x0 x1 w2 y3 y4 y5) r):Goes prog 24 (.jmp [0,0,1,0,1,1,1,4,0,1,1,1,1,1] (f24_2_S x0 x1 w2 y3 y4 y5)) r:=Goes.jmp (by kernel_rfl) h
theorem f24_3_J  {x0 w1:TV} {r:TV} (h:Goes prog 24 (f24_3 x0 w1) r):Goes prog 24 (.jmp [1,1,1,1,4,0,1,1,1,1,1] (f24_3_S x0 w1)) r:=Goes.jmp (by kernel_rfl) h
def f25_0_S  (x0 y1 y2 y3 y4 y5 y6 y7 y8 y9 y10 y11 w12:TV):ASt:=⟨[AV.one CA.junk,AV.one CA.junk,AV.one (CA.ptr 0 0),AV.one CA.junk,AV.one CA.junk,AV.one (CA.ptr 1 0),AV.one (CA.sref 2 0 [])] ++ List.replicate 29 (AV.one CA.junk) ++ [AV.tv x0] ++ List.replicate 50 (AV.one CA.junk),[some (BC.cells [CA.t y1,CA.t y2,CA.t y3]),some (BC.cells [CA.t y4,CA.t y5,CA.t y6,CA.t y7,CA.t y8,CA.t y9,CA.t y10,CA.t y11]),some (BC.tree [w12])] ++ List.replicate 108 (none),[]⟩
def f25_1_S  (x0 y1 y2 y3 y4 y5 y6 y7 y8 y9 y10 y11 w12:TV):ASt:=⟨[AV.one CA.junk,AV.one CA.junk,AV.one (CA.ptr 0 0),AV.one CA.junk,AV.one CA.junk,AV.one (CA.ptr 1 0),AV.one (CA.sref 2 0 [])] ++ List.replicate 37 (AV.one CA.junk) ++ [AV.tv x0] ++ List.replicate 42 (AV.one CA.junk),[some (BC.cells [CA.t y1,CA.t y2,CA.t y3]),some (BC.cells [CA.t y4,CA.t y5,CA.t y6,CA.t y7,CA.t y8,CA.t y9,CA.t y10,CA.t y11]),some (BC.tree [w12])] ++ List.replicate 108 (none),[]⟩
def f25_2_S  (x0 y1 y2 y3 y4 y5 y6 y7 y8 y9 y10 y11 w12:TV):ASt:=⟨[AV.one CA.junk,AV.one CA.junk,AV.one (CA.ptr 0 0),AV.one CA.junk,AV.one CA.junk,AV.one (CA.ptr 1 0),AV.one (CA.sref 2 0 [])] ++ List.replicate 45 (AV.one CA.junk) ++ [AV.tv x0] ++ List.replicate 34 (AV.one CA.junk),[some (BC.cells [CA.t y1,CA.t y2,CA.t y3]),some (BC.cells [CA.t y4,CA.t y5,CA.t y6,CA.t y7,CA.t y8,CA.t y9,CA.t y10,CA.t y11]),some (BC.tree [w12])] ++ List.replicate 108 (none),[]⟩
def f25_3_S  (x0 y1 y2 y3 w4 w5:TV):ASt:=⟨[AV.one CA.junk,AV.one CA.junk,AV.one (CA.ptr 0 0),AV.one CA.junk,AV.one CA.junk,AV.one CA.junk,AV.one (CA.sref 1 0 []),AV.one (CA.sref 2 0 []),AV.tv x0] ++ List.replicate 78 (AV.one CA.junk),[some (BC.cells [CA.t y1,CA.t y2,CA.t y3]),some (BC.tree [w4]),some (BC.tree [w5])] ++ List.replicate 108 (none),[]⟩
def f25_4_S  (x0 y1 y2 y3 w4 w5:TV):ASt:=⟨[AV.one CA.junk,AV.one CA.junk,AV.one (CA.ptr 0 0),AV.one CA.junk,AV.one CA.junk,AV.one CA.junk,AV.one (CA.sref 1 0 []),AV.one (CA.sref 2 0 []),AV.tv x0] ++ List.replicate 78 (AV.one CA.junk),[some (BC.cells [CA.t y1,CA.t y2,CA.t y3]),some (BC.tree [w4]),some (BC.tree [w5])] ++ List.replicate 108 (none),[]⟩
def f25_M (x0 x1:TV):Prg TV :=
 chk (TV.isAgg x0 3) (
 tv (pbin (.int .i64) .lss x1 (I 0)) fun v0 =>
 Prg.ite (asBool v0) (
 ret (TV.lit nilV)) (
 tv (plen (.slice 54) (cell x0 2)) fun v1 =>
 tv (pbin (.int .i64) .geq x1 v1) fun v2 =>
 Prg.ite (asBool v2) (
 ret (TV.lit nilV)) (
 tvs (pidx 14 (cell x0 2) x1) fun e3 =>
 chk (Nat.ble 14 (List.length e3)) (
 tv (pbin (.int .i64) .eql (nth hole e3 6) (I 2)) fun v4 =>
 Prg.ite (asBool v4) (
 chk true (
 jmp [1,0,1,1,1,1] (f25_0_S (B true) (cell x0 0) (cell x0 1) (cell x0 2) (nth hole e3 6) (nth hole e3 7) (nth hole e3 8) (nth hole e3 9) (nth hole e3 10) (nth hole e3 11) (nth hole e3 12) (nth hole e3 13) (TV.lit nilV)))) (
 tv (pbin (.int .i64) .eql (nth hole e3 6) (I 3)) fun v5 =>
 Prg.ite (asBool v5) (
 chk true (
 jmp [1,0,1,1,1,1] (f25_0_S (B true) (cell x0 0) (cell x0 1) (cell x0 2) (nth hole e3 6) (nth hole e3 7) (nth hole e3 8) (nth hole e3 9) (nth hole e3 10) (nth hole e3 11) (nth hole e3 12) (nth hole e3 13) (TV.lit nilV)))) (
 tv (pbin (.int .i64) .eql (nth hole e3 6) (I 4)) fun v6 =>
 chk true (
 jmp [1,0,1,1,1,1] (f25_0_S v6 (cell x0 0) (cell x0 1) (cell x0 2) (nth hole e3 6) (nth hole e3 7) (nth hole e3 8) (nth hole e3 9) (nth hole e3 10) (nth hole e3 11) (nth hole e3 12) (nth hole e3 13) (TV.lit nilV)))))))))
def f25_0  (x0 y1 y2 y3 y4 y5 y6 y7 y8 y9 y10 y11 w12:TV):Prg TV :=
 Prg.ite (asBool x0) (
 rws (pelems 1 (TV.sl true 1 (chunks 1 1 [y9]))) fun r7 =>
 tv (papp 1 w12 (lfLL r7)) fun v8 =>
 tv (pbin (.int .i64) .eql y4 (I 3)) fun v9 =>
 jmp [1,0,1,1,1,1,1] (f25_1_S v9 y1 y2 y3 y4 y5 y6 y7 y8 y9 y10 y11 v8)) (
 tv (pbin (.int .i64) .eql y4 (I 3)) fun v10 =>
 jmp [1,0,1,1,1,1,1] (f25_1_S v10 y1 y2 y3 y4 y5 y6 y7 y8 y9 y10 y11 w12))
def f25_1  (x0 y1 y2 y3 y4 y5 y6 y7 y8 y9 y10 y11 w12:TV):Prg TV :=
 Prg.ite (asBool x0) (
 rws (pelems 1 (TV.sl true 1 (chunks 1 1 [y10]))) fun r11 =>
 tv (papp 1 w12 (lfLL r11)) fun v12 =>
 tv (pbin (.int .i64) .eql y4 (I 4)) fun v13 =>
 jmp [1,0,1,1,1,1,1,1] (f25_2_S v13 y1 y2 y3 y4 y5 y6 y7 y8 y9 y10 y11 v12)) (
 tv (pbin (.int .i64) .eql y4 (I 4)) fun v14 =>
 jmp [1,0,1,1,1,1,1,1] (f25_2_S v14 y1 y2 y3 y4 y5 y6 y7 y8 y9 y10 y11 w12))
def f25_2  (x0 y1 y2 y3 y4 y5 y6 y7 y8 y9 y10 y11 w12:TV):Prg TV :=
 Prg.ite (asBool x0) (
 rws (pelems 1 (TV.sl true 1 (chunks 1 1 [y11]))) fun r15 =>
 tv (papp 1 w12 (lfLL r15)) fun v16 =>
 chk true (
 jmp [1,0,1,1,1,1,1,1,1,1] (f25_3_S (I 0) y1 y2 y3 v16 (TV.lit nilV)))) (
 chk true (
 jmp [1,0,1,1,1,1,1,1,1,1] (f25_3_S (I 0) y1 y2 y3 w12 (TV.lit nilV))))
def f25_3  (x0 y1 y2 y3 w4 w5:TV):Prg TV :=
 jmp [0,0,1,0,1,1,1,1,1,1,1,1] (f25_4_S x0 y1 y2 y3 w4 w5)
def f25_4  (x0 y1 y2 y3 w4 w5:TV):Prg TV :=
 tv (plen (.slice 3) w4) fun v17 =>
 tv (pbin (.int .i64) .lss x0 v17) fun v18 =>
 Prg.ite (asBool v18) (
 nat (slLen w4) fun n19 =>
 nat (asNat x0) fun n20 =>
 chk (Bool.and (slSize w4 1) (Nat.blt n20 n19)) (
 tvs (pel w4 n20) fun e21 =>
 chk (fitsAt zInt e21 0) (
 tv (pbin (.int .i64) .geq (nth hole e21 0) (I 0)) fun v22 =>
 Prg.ite (asBool v22) (
 nat (slLen w4) fun n23 =>
 nat (asNat x0) fun n24 =>
 chk (Bool.and (slSize w4 1) (Nat.blt n24 n23)) (
 tvs (pel w4 n24) fun e25 =>
 chk (fitsAt zInt e25 0) (
 tv (plen (.slice 54) y3) fun v26 =>
 tv (pbin (.int .i64) .lss (nth hole e25 0) v26) fun v27 =>
 Prg.ite (asBool v27) (
 nat (slLen w4) fun n28 =>
 nat (asNat x0) fun n29 =>
 chk (Bool.and (slSize w4 1) (Nat.blt n29 n28)) (
 tvs (pel w4 n29) fun e30 =>
 chk (fitsAt zInt e30 0) (
 rws (pelems 1 (TV.sl true 1 (chunks 1 1 [nth hole e30 0]))) fun r31 =>
 tv (papp 1 w5 (lfLL r31)) fun v32 =>
 tv (pbin (.int .i64) .add x0 (I 1)) fun v33 =>
 jmp [0,0,1,0,1,1,1,1,1,1,1,1] (f25_4_S v33 y1 y2 y3 w4 v32)))) (
 tv (pbin (.int .i64) .add x0 (I 1)) fun v34 =>
 jmp [0,0,1,0,1,1,1,1,1,1,1,1] (f25_4_S v34 y1 y2 y3 w4 w5))))) (
 tv (pbin (.int .i64) .add x0 (I 1)) fun v35 =>
 jmp [0,0,1,0,1,1,1,1,1,1,1,1] (f25_4_S v35 y1 y2 y3 w4 w5))))) (
 ret w5)
theorem f25_MR (x0 x1:TV):startQ prog 25 [x0,x1]=f25_M x0 x1:=by kernel_rfl
theorem f25_0_J  {x0 y1 y2 y3 y4 y5 y6 y7 y8 y9 y10 y11 w12:TV} {r:TV} (h:Goes prog 25 (f25_0 x0 y1 y2 y3 y4 y5 y6 y7 y8 y9 y10 y11 w12) r):Goes prog 25 (.jmp [1,0,1,1,1,1] (f25_0_S x0 y1 y2 y3 y4 y5 y6 y7 y8 y9 y10 y11 w12)) r:=Goes.jmp (by kernel_rfl) h
theorem f25_1_J  {x0 y1 y2 y3 y4 y5 y6 y7 y8 y9 y10 y11 w12:TV} {r:TV} (h:Goes prog 25 (f25_1 x0 y1 y2 y3 y4 y5 y6 y7 y8 y9 y10 y11 w12) r):Goes prog 25 (.jmp [1,0,1,1,1,1,1] (f25_1_S x0 y1 y2 y3 y4 y5 y6 y7 y8 y9 y10 y11 w12)) r:=Goes.jmp (by kernel_rfl) h
theorem f25_2_J  {x0 y1 y2 y3 y4 y5 y6 y7 y8 y9 y10 y11 w12:TV} {r:TV} (h:Goes prog 25 (f25_2 x0 y1 y2 y3 y4 y5 y6 y7 y8 y9 y10 y11 w12) r):Goes prog 25 (.jmp [1,0,1,1,1,1,1,1] (f25_2_S x0 y1 y2 y3 y4 y5 y6 y7 y8 y9 y10 y11 w12)) r:=Goes.jmp (by kernel_rfl) h
theorem f25_3_J  {x0 y1 y2 y3 w4 w5:TV} {r:TV} (h:Goes prog 25 (f25_3 x0 y1 y2 y3 w4 w5) r):Goes prog 25 (.jmp [1,0,1,1,1,1,1,1,1,1] (f25_3_S x0 y1 y2 y3 w4 w5)) r:=Goes.jmp (by kernel_rfl) h
theorem f25_4_J  {x0 y1 y2 y3 w4 w5:TV} {r:TV} (h:Goes prog 25 (f25_4 x0 y1 y2 y3 w4 w5) r):Goes prog 25 (.jmp [0,0,1,0,1,1,1,1,1,1,1,1] (f25_4_S x0 y1 y2 y3 w4 w5)) r:=Goes.jmp (by kernel_rfl) h
def f26_0_S  (x0 x1 x2 y3 y4 y5 w6:TV):ASt:=⟨[AV.one CA.junk,AV.tv x0,AV.one (CA.ptr 0 0),AV.one CA.junk,AV.one CA.junk,AV.one (CA.sref 1 0 []),AV.one CA.junk,AV.one CA.junk,AV.one CA.junk,AV.tv x1,AV.tv x2] ++ List.replicate 13 (AV.one CA.junk),[some (BC.cells [CA.t y3,CA.t y4,CA.t y5]),some (BC.tree [w6])] ++ List.replicate 46 (none),[]⟩
def f26_M (x0 x1:TV):Prg TV :=
 chk (TV.isAgg x0 3) (
 tv (plen (.slice 54) (cell x0 2)) fun v0 =>
 chk true (
 jmp [0,0,1,0,1,1] (f26_0_S x1 v0 (I 0) (cell x0 0) (cell x0 1) (cell x0 2) (TV.lit nilV))))
def f26_0  (x0 x1 x2 y3 y4 y5 w6:TV):Prg TV :=
 tv (pbin (.int .i64) .lss x2 x1) fun v1 =>
 Prg.ite (asBool v1) (
 call 24 [agg [y3,y4,y5],x2] fun v2 =>
 chk (fitsAt zSl [v2] 0) (
 call 49 [frz v2,x0] fun v3 =>
 chk (fitsAt zBool [v3] 0) (
 Prg.ite (asBool v3) (
 chk (TV.isOne x2) (
 rws (pelems 1 (TV.sl true 1 (chunks 1 1 [x2]))) fun r4 =>
 tv (papp 1 w6 (lfLL r4)) fun v5 =>
 tv (pbin (.int .i64) .add x2 (I 1)) fun v6 =>
 jmp [0,0,1,0,1,1] (f26_0_S x0 x1 v6 y3 y4 y5 v5))) (
 tv (pbin (.int .i64) .add x2 (I 1)) fun v7 =>
 jmp [0,0,1,0,1,1] (f26_0_S x0 x1 v7 y3 y4 y5 w6))))) (
 chk (isOwn w6) (
 ret w6))
theorem f26_MR (x0 x1:TV):startQ prog 26 [x0,x1]=f26_M x0 x1:=by kernel_rfl
theorem f26_0_J  {x0 x1 x2 y3 y4 y5 w6:TV} {r:TV} (h:Goes prog 26 (f26_0 x0 x1 x2 y3 y4 y5 w6) r):Goes prog 26 (.jmp [0,0,1,0,1,1] (f26_0_S x0 x1 x2 y3 y4 y5 w6)) r:=Goes.jmp (by kernel_rfl) h
def f27_0_S  (x0 x1 y2 y3 y4 w5:TV):ASt:=⟨[AV.one CA.junk,AV.tv x0,AV.one (CA.ptr 0 0),AV.one CA.junk,AV.one CA.junk,AV.one (CA.sref 1 0 []),AV.tv x1] ++ List.replicate 17 (AV.one CA.junk),[some (BC.cells [CA.t y2,CA.t y3,CA.t y4]),some (BC.tree [w5])] ++ List.replicate 46 (none),[]⟩
def f27_M (x0 x1:TV):Prg TV :=
 chk (TV.isAgg x0 3) (
 chk true (
 jmp [0,0,1,0,1,1] (f27_0_S x1 (I 0) (cell x0 0) (cell x0 1) (cell x0 2) (TV.lit nilV))))
def f27_0  (x0 x1 y2 y3 y4 w5:TV):Prg TV :=
 tv (plen (.slice 54) y4) fun v0 =>
 tv (pbin (.int .i64) .lss x1 v0) fun v1 =>
 Prg.ite (asBool v1) (
 call 25 [agg [y2,y3,y4],x1] fun v2 =>
 chk (fitsAt zSl [v2] 0) (
 call 33 [frz v2,x0] fun v3 =>
 chk (fitsAt zBool [v3] 0) (
 Prg.ite (asBool v3) (
 chk (TV.isOne x1) (
 rws (pelems 1 (TV.sl true 1 (chunks 1 1 [x1]))) fun r4 =>
 tv (papp 1 w5 (lfLL r4)) fun v5 =>
 tv (pbin (.int .i64) .add x1 (I 1)) fun v6 =>
 jmp [0,0,1,0,1,1] (f27_0_S x0 v6 y2 y3 y4 v5))) (
 tv (pbin (.int .i64) .add x1 (I 1)) fun v7 =>
 jmp [0,0,1,0,1,1] (f27_0_S x0 v7 y2 y3 y4 w5))))) (
 ret w5)
theorem f27_MR (x0 x1:TV):startQ prog 27 [x0,x1]=f27_M x0 x1:=by kernel_rfl
theorem f27_0_J  {x0 x1 y2 y3 y4 w5:TV} {r:TV} (h:Goes prog 27 (f27_0 x0 x1 y2 y3 y4 w5) r):Goes prog 27 (.jmp [0,0,1,0,1,1] (f27_0_S x0 x1 y2 y3 y4 w5)) r:=Goes.jmp (by kernel_rfl) h
def f28_0_S  (x0 x1 x2:TV):ASt:=⟨[AV.tv x0,AV.tv x1,AV.one CA.junk,AV.one CA.junk,AV.one CA.junk,AV.tv x2] ++ List.replicate 20 (AV.one CA.junk),List.replicate 50 (none),[]⟩
def f28_M (x0 x1:TV):Prg TV :=
 tv (plen (.slice 4) x0) fun v0 =>
 tv (plen (.slice 4) x1) fun v1 =>
 tv (pbin (.int .i64) .neq v0 v1) fun v2 =>
 Prg.ite (asBool v2) (
 ret (B false)) (
 jmp [0,0,1,0,1,1] (f28_0_S x0 x1 (I 0)))
def f28_0  (x0 x1 x2:TV):Prg TV :=
 tv (plen (.slice 4) x0) fun v3 =>
 tv (pbin (.int .i64) .lss x2 v3) fun v4 =>
 Prg.ite (asBool v4) (
 tvs (pidx 1 x0 x2) fun e5 =>
 chk (Nat.blt 0 (List.length e5)) (
 tvs (pidx 1 x1 x2) fun e6 =>
 chk (Nat.blt 0 (List.length e6)) (
 tv (pbin Kd.bool .neq (nth hole e5 0) (nth hole e6 0)) fun v7 =>
 Prg.ite (asBool v7) (
 ret (B false)) (
 tv (pbin (.int .i64) .add x2 (I 1)) fun v8 =>
 jmp [0,0,1,0,1,1] (f28_0_S x0 x1 v8))))) (
 ret (B true))
theorem f28_MR (x0 x1:TV):startQ prog 28 [x0,x1]=f28_M x0 x1:=by kernel_rfl
theorem f28_0_J  {x0 x1 x2:TV} {r:TV} (h:Goes prog 28 (f28_0 x0 x1 x2) r):Goes prog 28 (.jmp [0,0,1,0,1,1] (f28_0_S x0 x1 x2)) r:=Goes.jmp (by kernel_rfl) h
def f29_0_S  (x0 x1 w2 w3:TV):ASt:=⟨[AV.one CA.junk,AV.one CA.junk,AV.one CA.junk,AV.one (CA.sref 0 0 [])] ++ List.replicate 7 (AV.one CA.junk) ++ [AV.one (CA.sref 1 0 []),AV.tv x0,AV.tv x1] ++ List.replicate 8 (AV.one CA.junk),[some (BC.tree [w2]),some (BC.tree [w3])] ++ List.replicate 44 (none),[]⟩
def f29_M (x0:TV):Prg TV :=
 chk (TV.isAgg x0 3) (
 tv (plen (.slice 54) (cell x0 2)) fun v0 =>
 nat (asNat v0) fun n1 =>
 nat (asNat v0) fun n2 =>
 chk (Bool.and (Nat.ble n1 n2) (Nat.ble n2 4294967296)) (
 call 31 [agg [cell x0 0,cell x0 1,cell x0 2]] fun v3 =>
 chk (fitsAt zSl [v3] 0) (
 tv (plen (.slice 3) v3) fun v4 =>
 jmp [0,0,1,0,1,1] (f29_0_S v4 (I 0) (TV.sl true 1 (List.replicate n1 [B false])) v3))))
def f29_0  (x0 x1 w2 w3:TV):Prg TV :=
 tv (pbin (.int .i64) .lss x1 x0) fun v5 =>
 Prg.ite (asBool v5) (
 nat (slLen w3) fun n6 =>
 nat (asNat x1) fun n7 =>
 chk (Bool.and (slSize w3 1) (Nat.blt n7 n6)) (
 tvs (pel w3 n7) fun e8 =>
 chk (fitsAt zInt e8 0) (
 nat (slLen w2) fun n9 =>
 nat (asNat (nth hole e8 0)) fun n10 =>
 chk (Bool.and (slSize w2 1) (Nat.blt n10 n9)) (
 tvs (pel w2 n10) fun e11 =>
 chk (fitsAt zBool e11 0) (
 tv (setC [] w2 n10 0 [B true]) fun v12 =>
 tv (pbin (.int .i64) .add x1 (I 1)) fun v13 =>
 jmp [0,0,1,0,1,1] (f29_0_S x0 v13 v12 w3)))))) (
 ret w2)
theorem f29_MR (x0:TV):startQ prog 29 [x0]=f29_M x0:=by kernel_rfl
theorem f29_0_J  {x0 x1 w2 w3:TV} {r:TV} (h:Goes prog 29 (f29_0 x0 x1 w2 w3) r):Goes prog 29 (.jmp [0,0,1,0,1,1] (f29_0_S x0 x1 w2 w3)) r:=Goes.jmp (by kernel_rfl) h
def f30_M (x0:TV):Prg TV :=
 chk (TV.isAgg x0 3) (
 call 50 [agg [cell x0 0,cell x0 1,cell x0 2],TV.lit (Value.int IntKind.i64 (-1))] fun v0 =>
 chk (fitsAt zSl [v0] 0) (
 ret v0))
theorem f30_MR (x0:TV):startQ prog 30 [x0]=f30_M x0:=by kernel_rfl
def f31_0_S  (y0 y1 y2 w3 w4 w5:TV):ASt:=⟨[AV.one CA.junk,AV.one CA.junk,AV.one CA.junk,AV.one (CA.ptr 0 0)] ++ List.replicate 21 (AV.one CA.junk),[some (BC.cells [CA.t y0,CA.t y1,CA.t y2,CA.sref 1 0 [],CA.sref 2 0 [],CA.sref 3 0 []]),some (BC.tree [w3]),some (BC.tree [w4]),some (BC.tree [w5])] ++ List.replicate 45 (none),[]⟩
def f31_1_S  (x0 x1 w2 y3 y4 y5 w6 w7:TV):ASt:=⟨[AV.one (CA.sref 0 0 []),AV.one CA.junk,AV.tv x0,AV.tv x1] ++ List.replicate 24 (AV.one CA.junk),[some (BC.tree [w2]),some (BC.cells [CA.t y3,CA.t y4,CA.t y5,CA.sref 2 0 [],CA.sref 3 0 [],CA.sref 0 0 []]),some (BC.tree [w6]),some (BC.tree [w7])] ++ List.replicate 73 (none),([AV.one CA.junk,AV.one CA.junk,AV.one CA.junk,AV.one (CA.ptr 1 0)] ++ List.replicate 21 (AV.one CA.junk))⟩
def f31_M (x0:TV):Prg TV :=
 chk (TV.isAgg x0 3) (
 tv (plen (.slice 54) (cell x0 2)) fun v0 =>
 tv (pbin (.int .i64) .eql v0 (I 0)) fun v1 =>
 Prg.ite (asBool v1) (
 chk true (
 ret (TV.lit nilV))) (
 tv (plen (.slice 54) (cell x0 2)) fun v2 =>
 nat (asNat v2) fun n3 =>
 nat (asNat v2) fun n4 =>
 chk (Bool.and (Nat.ble n3 n4) (Nat.ble n4 4294967296)) (
 nat (slLen (TV.sl true 1 (List.replicate n3 [B false]))) fun n5 =>
 nat (asNat (I 0)) fun n6 =>
 chk (Bool.and (slSize (TV.sl true 1 (List.replicate n3 [B false])) 1) (Nat.blt n6 n5)) (
 tvs (pel (TV.sl true 1 (List.replicate n3 [B false])) n6) fun e7 =>
 chk (fitsAt zBool e7 0) (
 tv (setC [] (TV.sl true 1 (List.replicate n3 [B false])) n6 0 [B true]) fun v8 =>
 call 24 [agg [cell x0 0,cell x0 1,cell x0 2],I 0] fun v9 =>
 chk (fitsAt zSl [v9] 0) (
 rws (pelems 2 (TV.sl true 2 (chunks 2 1 [I 0,v9]))) fun r10 =>
 tv (papp 2 (TV.lit nilV) r10) fun v11 =>
 chk true (
 jmp [0,0,0,1,1,1,1] (f31_0_S (cell x0 0) (cell x0 1) (cell x0 2) v8 (coolT v11) (TV.lit nilV)))))))))
def f31_0  (y0 y1 y2 w3 w4 w5:TV):Prg TV :=
 tv (plen (.slice 120) w4) fun v12 =>
 tv (pbin (.int .i64) .gtr v12 (I 0)) fun v13 =>
 Prg.ite (asBool v13) (
 tv (plen (.slice 120) w4) fun v14 =>
 tv (pbin (.int .i64) .sub v14 (I 1)) fun v15 =>
 nat (slLen w4) fun n16 =>
 nat (asNat v15) fun n17 =>
 chk (Bool.and (slSize w4 2) (Nat.blt n17 n16)) (
 tvs (pel w4 n17) fun e18 =>
 chk (fitsAt zSl e18 1) (
 tv (getP [(n17,1)] w4) fun v19 =>
 tv (plen (.slice 3) v19) fun v20 =>
 tv (pbin (.int .i64) .eql v20 (I 0)) fun v21 =>
 Prg.ite (asBool v21) (
 tv (plen (.slice 120) w4) fun v22 =>
 tv (pbin (.int .i64) .sub v22 (I 1)) fun v23 =>
 nat (slLen w4) fun n24 =>
 nat (asNat v23) fun n25 =>
 chk (Bool.and (slSize w4 2) (Nat.blt n25 n24)) (
 tvs (pel w4 n25) fun e26 =>
 chk (fitsAt zInt e26 0) (
 rws (pelems 1 (TV.sl true 1 (chunks 1 1 [nth hole e26 0]))) fun r27 =>
 tv (papp 1 w5 (lfLL r27)) fun v28 =>
 nat (slLen w4) fun n29 =>
 nat (asNat v23) fun n30 =>
 chk (Bool.and (Bool.and (slSize w4 2) (Nat.ble 0 (Option.getD (some n30) n29))) (Nat.ble (Option.getD (some n30) n29) n29)) (
 tv (winP 0 ((Option.getD (some n30) n29) - 0) w4) fun v31 =>
 jmp [0,0,0,1,1,1,1] (f31_0_S y0 y1 y2 w3 (coolT v31) v28))))) (
 tvs (pel w4 n17) fun e32 =>
 chk (fitsAt zSl e32 1) (
 tv (getP [(n17,1)] w4) fun v33 =>
 nat (slLen v33) fun n34 =>
 nat (asNat (I 0)) fun n35 =>
 chk (Bool.and (slSize v33 1) (Nat.blt n35 n34)) (
 tv (getP [(n17,1)] w4) fun v36 =>
 tvs (pel v36 n35) fun e37 =>
 chk (fitsAt zInt e37 0) (
 tvs (pel w4 n17) fun e38 =>
 chk (fitsAt zSl e38 1) (
 tv (getP [(n17,1)] w4) fun v39 =>
 nat (slLen v39) fun n40 =>
 nat (asNat (I 1)) fun n41 =>
 chk (Bool.and (Bool.and (slSize v39 1) (Nat.ble (Option.getD (some n41) 0) (Option.getD none n40))) (Nat.ble (Option.getD none n40) n40)) (
 tv (getP [(n17,1)] w4) fun v42 =>
 tv (winP (Option.getD (some n41) 0) ((Option.getD none n40) - (Option.getD (some n41) 0)) v42) fun v43 =>
 chk (TV.isFr v43) (
 tvs (pel w4 n17) fun e44 =>
 chk (Bool.and (fitsAt zSl e44 1) (fitsAt zSl [v43] 0)) (
 tv (setC [] w4 n17 1 [v43]) fun v45 =>
 nat (slLen w3) fun n46 =>
 nat (asNat (nth hole e37 0)) fun n47 =>
 chk (Bool.and (slSize w3 1) (Nat.blt n47 n46)) (
 tvs (pel w3 n47) fun e48 =>
 chk (fitsAt zBool e48 0) (
 tv (pun .not (nth hole e48 0)) fun v49 =>
 Prg.ite (asBool v49) (
 nat (slLen w3) fun n50 =>
 nat (asNat (nth hole e37 0)) fun n51 =>
 chk (Bool.and (slSize w3 1) (Nat.blt n51 n50)) (
 tvs (pel w3 n51) fun e52 =>
 chk (fitsAt zBool e52 0) (
 tv (setC [] w3 n51 0 [B true]) fun v53 =>
 call 24 [agg [y0,y1,y2],nth hole e37 0] fun v54 =>
 chk (fitsAt zSl [v54] 0) (
 rws (pelems 2 (TV.sl true 2 (chunks 2 1 [nth hole e37 0,v54]))) fun r55 =>
 tv (papp 2 v45 r55) fun v56 =>
 jmp [0,0,0,1,1,1,1] (f31_0_S y0 y1 y2 v53 (coolT v56) w5))))) (
 jmp [0,0,0,1,1,1,1] (f31_0_S y0 y1 y2 w3 (coolT v45) w5))))))))))))))) (
 tv (plen (.slice 3) w5) fun v57 =>
 tv (pbin (.int .i64) .sub v57 (I 1)) fun v58 =>
 jmp [0,0,1,4,0,1,1,1,1,1] (f31_1_S (I 0) v58 w5 y0 y1 y2 w3 w4))
def f31_1  (x0 x1 w2 y3 y4 y5 w6 w7:TV):Prg TV :=
 tv (pbin (.int .i64) .lss x0 x1) fun v59 =>
 Prg.ite (asBool v59) (
 nat (slLen w2) fun n60 =>
 nat (asNat x1) fun n61 =>
 chk (Bool.and (slSize w2 1) (Nat.blt n61 n60)) (
 tvs (pel w2 n61) fun e62 =>
 chk (fitsAt zInt e62 0) (
 nat (slLen w2) fun n63 =>
 nat (asNat x0) fun n64 =>
 chk (Bool.and (slSize w2 1) (Nat.blt n64 n63)) (
 tvs (pel w2 n64) fun e65 =>
 chk (fitsAt zInt e65 0) (
 nat (slLen w2) fun n66 =>
 nat (asNat x0) fun n67 =>
 chk (Bool.and (slSize w2 1) (Nat.blt n67 n66)) (
 tvs (pel w2 n67) fun e68 =>
 chk (fitsAt zInt e68 0) (
 tv (setC [] w2 n67 0 [nth hole e62 0]) fun v69 =>
 nat (slLen v69) fun n70 =>
 nat (asNat x1) fun n71 =>
 chk (Bool.and (slSize v69 1) (Nat.blt n71 n70)) (
 tvs (pel v69 n71) fun e72 =>
 chk (fitsAt zInt e72 0) (
 tv (setC [] v69 n71 0 [nth hole e65 0]) fun v73 =>
 tv (pbin (.int .i64) .add x0 (I 1)) fun v74 =>
 tv (pbin (.int .i64) .sub x1 (I 1)) fun v75 =>
 jmp [0,0,1,4,0,1,1,1,1,1] (f31_1_S v74 v75 v73 y3 y4 y5 w6 w7)))))))))) (
 chk (isOwn w2) (
 ret w2))
theorem f31_MR (x0:TV):startQ prog 31 [x0]=f31_M x0:=by kernel_rfl
theorem f31_0_J  {y0 y1 y2 w3 w4 w5:TV} {r:TV} (h:Goes prog 31 (f31_0 y0 y1 y2 w3 w4 w5) r):Goes prog 31 (.jmp [0,0,0,1,1,1,1] (f31_0_S y0 y1 y2 w3 w4 w5)) r:=Goes.jmp (by kernel_rfl) h
theorem f31_1_J  {x0 x1 w2 y3 y4 y5 w6 w7:TV} {r:TV} (h:Goes prog 31 (f31_1 x0 x1 w2 y3 y4 y5 w6 w7) r):Goes prog 31 (.jmp [0,0,1,4,0,1,1,1,1,1] (f31_1_S x0 x1 w2 y3 y4 y5 w6 w7)) r:=Goes.jmp (by kernel_rfl) h
def f32_0_S  (y0 y1 y2 w3 w4 w5 w6:TV):ASt:=⟨[AV.one CA.junk,AV.one (CA.ptr 0 0),AV.one CA.junk,AV.one (CA.sref 1 0 []),AV.one (CA.sref 2 0 []),AV.one (CA.sref 3 0 []),AV.one (CA.sref 4 0 [])] ++ List.replicate 80 (AV.one CA.junk),[some (BC.cells [CA.t y0,CA.t y1,CA.t y2]),some (BC.tree [w3]),some (BC.tree [w4]),some (BC.tree [w5]),some (BC.tree [w6])] ++ List.replicate 106 (none),[]⟩
def f32_1_S  (y0 y1 y2 w3 w4 w5 w6:TV):ASt:=⟨[AV.one CA.junk,AV.one (CA.ptr 0 0),AV.one CA.junk,AV.one (CA.sref 1 0 []),AV.one (CA.sref 2 0 []),AV.one (CA.sref 3 0 []),AV.one (CA.sref 4 0 [])] ++ List.replicate 80 (AV.one CA.junk),[some (BC.cells [CA.t y0,CA.t y1,CA.t y2]),some (BC.tree [w3]),some (BC.tree [w4]),some (BC.tree [w5]),some (BC.tree [w6])] ++ List.replicate 106 (none),[]⟩
def f32_M (x0:TV):Prg TV :=
 chk (TV.isAgg x0 3) (
 tv (plen (.slice 54) (cell x0 2)) fun v0 =>
 nat (asNat v0) fun n1 =>
 nat (asNat v0) fun n2 =>
 chk (Bool.and (Nat.ble n1 n2) (Nat.ble n2 4294967296)) (
 tv (plen (.slice 54) (cell x0 2)) fun v3 =>
 tv (pbin (.int .i64) .gtr v3 (I 0)) fun v4 =>
 Prg.ite (asBool v4) (
 rws (pelems 1 (TV.sl true 1 (chunks 1 1 [I 0]))) fun r5 =>
 tv (papp 1 (TV.lit nilV) (lfLL r5)) fun v6 =>
 rws (pelems 1 (TV.sl true 1 (chunks 1 1 [I 0]))) fun r7 =>
 tv (papp 1 (TV.lit nilV) (lfLL r7)) fun v8 =>
 nat (slLen (TV.sl true 1 (List.replicate n1 [B false]))) fun n9 =>
 nat (asNat (I 0)) fun n10 =>
 chk (Bool.and (slSize (TV.sl true 1 (List.replicate n1 [B false])) 1) (Nat.blt n10 n9)) (
 tvs (pel (TV.sl true 1 (List.replicate n1 [B false])) n10) fun e11 =>
 chk (fitsAt zBool e11 0) (
 tv (setC [] (TV.sl true 1 (List.replicate n1 [B false])) n10 0 [B true]) fun v12 =>
 chk true (
 jmp [1,1,1,1] (f32_0_S (cell x0 0) (cell x0 1) (cell x0 2) v12 v6 v8 (TV.lit nilV)))))) (
 chk true (
 chk true (
 chk true (
 jmp [1,1,1,1] (f32_0_S (cell x0 0) (cell x0 1) (cell x0 2) (TV.sl true 1 (List.replicate n1 [B false])) (TV.lit nilV) (TV.lit nilV) (TV.lit nilV))))))))
def f32_0  (y0 y1 y2 w3 w4 w5 w6:TV):Prg TV :=
 jmp [0,0,0,1,1,1,1] (f32_1_S y0 y1 y2 w3 w4 w5 w6)
def f32_1  (y0 y1 y2 w3 w4 w5 w6:TV):Prg TV :=
 tv (plen (.slice 3) w4) fun v13 =>
 tv (pbin (.int .i64) .gtr v13 (I 0)) fun v14 =>
 Prg.ite (asBool v14) (
 tv (plen (.slice 3) w4) fun v15 =>
 tv (pbin (.int .i64) .sub v15 (I 1)) fun v16 =>
 nat (slLen w4) fun n17 =>
 nat (asNat v16) fun n18 =>
 chk (Bool.and (slSize w4 1) (Nat.blt n18 n17)) (
 tvs (pel w4 n18) fun e19 =>
 chk (fitsAt zInt e19 0) (
 call 25 [agg [y0,y1,y2],nth hole e19 0] fun v20 =>
 chk (fitsAt zSl [v20] 0) (
 nat (slLen w5) fun n21 =>
 nat (asNat v16) fun n22 =>
 chk (Bool.and (slSize w5 1) (Nat.blt n22 n21)) (
 tvs (pel w5 n22) fun e23 =>
 chk (fitsAt zInt e23 0) (
 tv (plen (.slice 3) v20) fun v24 =>
 tv (pbin (.int .i64) .eql (nth hole e23 0) v24) fun v25 =>
 Prg.ite (asBool v25) (
 nat (slLen w4) fun n26 =>
 nat (asNat v16) fun n27 =>
 chk (Bool.and (slSize w4 1) (Nat.blt n27 n26)) (
 tvs (pel w4 n27) fun e28 =>
 chk (fitsAt zInt e28 0) (
 rws (pelems 1 w6) fun r29 =>
 tv (papp 1 (TV.sl true 1 (chunks 1 1 [nth hole e28 0])) (lfLL r29)) fun v30 =>
 nat (slLen w4) fun n31 =>
 nat (asNat v16) fun n32 =>
 chk (Bool.and (Bool.and (slSize w4 1) (Nat.ble 0 (Option.getD (some n32) n31))) (Nat.ble (Option.getD (some n32) n31) n31)) (
 nat (slLen w5) fun n33 =>
 nat (asNat v16) fun n34 =>
 chk (Bool.and (Bool.and (slSize w5 1) (Nat.ble 0 (Option.getD (some n34) n33))) (Nat.ble (Option.getD (some n34) n33) n33)) (
 tv (winP 0 ((Option.getD (some n32) n31) - 0) w4) fun v35 =>
 tv (winP 0 ((Option.getD (some n34) n33) - 0) w5) fun v36 =>
 jmp [0,0,0,1,1,1,1] (f32_1_S y0 y1 y2 w3 v35 v36 v30)))))) (
 nat (slLen w5) fun n37 =>
 nat (asNat v16) fun n38 =>
 chk (Bool.and (slSize w5 1) (Nat.blt n38 n37)) (
 tvs (pel w5 n38) fun e39 =>
 chk (fitsAt zInt e39 0) (
 nat (slLen v20) fun n40 =>
 nat (asNat (nth hole e39 0)) fun n41 =>
 chk (Bool.and (slSize v20 1) (Nat.blt n41 n40)) (
 tvs (pel v20 n41) fun e42 =>
 chk (fitsAt zInt e42 0) (
 nat (slLen w5) fun n43 =>
 nat (asNat v16) fun n44 =>
 chk (Bool.and (slSize w5 1) (Nat.blt n44 n43)) (
 tvs (pel w5 n44) fun e45 =>
 chk (fitsAt zInt e45 0) (
 tv (pbin (.int .i64) .add (nth hole e45 0) (I 1)) fun v46 =>
 nat (slLen w5) fun n47 =>
 nat (asNat v16) fun n48 =>
 chk (Bool.and (slSize w5 1) (Nat.blt n48 n47)) (
 tvs (pel w5 n48) fun e49 =>
 chk (fitsAt zInt e49 0) (
 tv (setC [] w5 n48 0 [v46]) fun v50 =>
 nat (slLen w3) fun n51 =>
 nat (asNat (nth hole e42 0)) fun n52 =>
 chk (Bool.and (slSize w3 1) (Nat.blt n52 n51)) (
 tvs (pel w3 n52) fun e53 =>
 chk (fitsAt zBool e53 0) (
 tv (pun .not (nth hole e53 0)) fun v54 =>
 Prg.ite (asBool v54) (
 nat (slLen w3) fun n55 =>
 nat (asNat (nth hole e42 0)) fun n56 =>
 chk (Bool.and (slSize w3 1) (Nat.blt n56 n55)) (
 tvs (pel w3 n56) fun e57 =>
 chk (fitsAt zBool e57 0) (
 tv (setC [] w3 n56 0 [B true]) fun v58 =>
 rws (pelems 1 (TV.sl true 1 (chunks 1 1 [nth hole e42 0]))) fun r59 =>
 tv (papp 1 w4 (lfLL r59)) fun v60 =>
 rws (pelems 1 (TV.sl true 1 (chunks 1 1 [I 0]))) fun r61 =>
 tv (papp 1 v50 (lfLL r61)) fun v62 =>
 jmp [0,0,0,1,1,1,1] (f32_1_S y0 y1 y2 v58 v60 v62 w6)))) (
 jmp [0,0,0,1,1,1,1] (f32_1_S y0 y1 y2 w3 w4 v50 w6))))))))))))))))))) (
 ret w6)
theorem f32_MR (x0:TV):startQ prog 32 [x0]=f32_M x0:=by kernel_rfl
theorem f32_0_J  {y0 y1 y2 w3 w4 w5 w6:TV} {r:TV} (h:Goes prog 32 (f32_0 y0 y1 y2 w3 w4 w5 w6) r):Goes prog 32 (.jmp [1,1,1,1] (f32_0_S y0 y1 y2 w3 w4 w5 w6)) r:=Goes.jmp (by kernel_rfl) h
theorem f32_1_J  {y0 y1 y2 w3 w4 w5 w6:TV} {r:TV} (h:Goes prog 32 (f32_1 y0 y1 y2 w3 w4 w5 w6) r):Goes prog 32 (.jmp [0,0,0,1,1,1,1] (f32_1_S y0 y1 y2 w3 w4 w5 w6)) r:=Goes.jmp (by kernel_rfl) h
def f33_0_S  (x0 x1 x2:TV):ASt:=⟨[AV.tv x0,AV.tv x1,AV.one CA.junk,AV.one CA.junk,AV.one CA.junk,AV.tv x2] ++ List.replicate 12 (AV.one CA.junk),List.replicate 42 (none),[]⟩
def f33_M (x0 x1:TV):Prg TV :=
 jmp [0,0,1,0,1] (f33_0_S x0 x1 (I 0))
def f33_0  (x0 x1 x2:TV):Prg TV :=
 tv (plen (.slice 3) x0) fun v0 =>
 tv (pbin (.int .i64) .lss x2 v0) fun v1 =>
 Prg.ite (asBool v1) (
 tvs (pidx 1 x0 x2) fun e2 =>
 chk (Nat.blt 0 (List.length e2)) (
 tv (pbin (.int .i64) .eql (nth hole e2 0) x1) fun v3 =>
 Prg.ite (asBool v3) (
 ret (B true)) (
 tv (pbin (.int .i64) .add x2 (I 1)) fun v4 =>
 jmp [0,0,1,0,1] (f33_0_S x0 x1 v4)))) (
 ret (B false))
theorem f33_MR (x0 x1:TV):startQ prog 33 [x0,x1]=f33_M x0 x1:=by kernel_rfl
theorem f33_0_J  {x0 x1 x2:TV} {r:TV} (h:Goes prog 33 (f33_0 x0 x1 x2) r):Goes prog 33 (.jmp [0,0,1,0,1] (f33_0_S x0 x1 x2)) r:=Goes.jmp (by kernel_rfl) h
end Go.Ab.U7
end
section
set_option linter.unusedVariables false
set_option maxRecDepth 100000
namespace Go.Ab.U7
open Go Go.Ab Go.Proofs
open Go.Ab.TV (hole cell comp isSl isSc isTup cellsL tup agg)
open Go.Ab.Prg (tv tvs rws nat chk call jmp ret)
def f45_M (x0 x1:TV):Prg TV :=
 chk (TV.isAgg x0 3) (
 tv (pbin (.int .i64) .leq (I 0) x1) fun v0 =>
 Prg.ite (asBool v0) (
 tv (plen (.slice 54) (cell x0 2)) fun v1 =>
 tv (pbin (.int .i64) .lss x1 v1) fun v2 =>
 ret v2) (
 ret (B false)))
theorem f45_MR (x0 x1:TV):startQ prog 45 [x0,x1]=f45_M x0 x1:=by kernel_rfl
def f46_0_S  (x0 y1 y2 y3 y4 y5 y6 y7 y8 y9 y10 y11 y12 y13 y14 w15:TV):ASt:=⟨[AV.one CA.junk,AV.one (CA.ptr 0 0),AV.one CA.junk,AV.one CA.junk,AV.one (CA.sref 1 0 [])] ++ List.replicate 13 (AV.one CA.junk) ++ [AV.tv x0] ++ List.replicate 7 (AV.one CA.junk),[some (BC.cells [CA.t y1,CA.t y2,CA.t y3,CA.t y4,CA.t y5,CA.t y6,CA.t y7,CA.t y8,CA.t y9,CA.t y10,CA.t y11,CA.t y12,CA.t y13,CA.t y14]),some (BC.tree [w15])] ++ List.replicate 48 (none),[]⟩
def f46_M (x0:TV):Prg TV :=
 chk (TV.isAgg x0 14) (
 call 74 [cell x0 6] fun v0 =>
 chk (fitsAt zInt [v0] 0) (
 call 75 [v0,I 64] fun v1 =>
 chk (fitsAt zBool [v1] 0) (
 Prg.ite (asBool v1) (
 rws (pelems 1 (TV.sl true 1 (chunks 1 1 [cell x0 11]))) fun r2 =>
 tv (papp 1 (TV.lit nilV) (lfLL r2)) fun v3 =>
 call 75 [v0,I 128] fun v4 =>
 chk (fitsAt zBool [v4] 0) (
 jmp [1,0,1,1,1,1] (f46_0_S v4 (cell x0 0) (cell x0 1) (cell x0 2) (cell x0 3) (cell x0 4) (cell x0 5) (cell x0 6) (cell x0 7) (cell x0 8) (cell x0 9) (cell x0 10) (cell x0 11) (cell x0 12) (cell x0 13) v3))) (
 call 75 [v0,I 128] fun v5 =>
 chk (fitsAt zBool [v5] 0) (
 chk true (
 jmp [1,0,1,1,1,1] (f46_0_S v5 (cell x0 0) (cell x0 1) (cell x0 2) (cell x0 3) (cell x0 4) (cell x0 5) (cell x0 6) (cell x0 7) (cell x0 8) (cell x0 9) (cell x0 10) (cell x0 11) (cell x0 12) (cell x0 13) (TV.lit nilV))))))))
def f46_0  (x0 y1 y2 y3 y4 y5 y6 y7 y8 y9 y10 y11 y12 y13 y14 w15:TV):Prg TV :=
 Prg.ite (asBool x0) (
 rws (pelems 1 (TV.sl true 1 (chunks 1 1 [y13]))) fun r6 =>
 tv (papp 1 w15 (lfLL r6)) fun v7 =>
 chk (isOwn v7) (
 ret v7)) (
 chk (isOwn w15) (
 ret w15))
theorem f46_MR (x0:TV):startQ prog 46 [x0]=f46_M x0:=by kernel_rfl
theorem f46_0_J  {x0 y1 y2 y3 y4 y5 y6 y7 y8 y9 y10 y11 y12 y13 y14 w15:TV} {r:TV} (h:Goes prog 46 (f46_0 x0 y1 y2 y3 y4 y5 y6 y7 y8 y9 y10 y11 y12 y13 y14 w15) r):Goes prog 46 (.jmp [1,0,1,1,1,1] (f46_0_S x0 y1 y2 y3 y4 y5 y6 y7 y8 y9 y10 y11 y12 y13 y14 w15)) r:=Goes.jmp (by kernel_rfl) h
def f49_M (x0 x1:TV):Prg TV :=
 call 77 [x0,x1] fun v0 =>
 chk (fitsAt zInt [v0] 0) (
 tv (pbin (.int .i64) .geq v0 (I 0)) fun v1 =>
 ret v1)
theorem f49_MR (x0 x1:TV):startQ prog 49 [x0,x1]=f49_M x0 x1:=by kernel_rfl
def f50_0_S  (x0 x1 y2 y3 y4 w5:TV):ASt:=⟨[AV.one CA.junk,AV.tv x0,AV.one (CA.ptr 0 0),AV.one CA.junk,AV.one CA.junk,AV.one (CA.sref 1 0 []),AV.tv x1] ++ List.replicate 62 (AV.one CA.junk),[some (BC.cells [CA.t y2,CA.t y3,CA.t y4]),some (BC.tree [w5])] ++ List.replicate 91 (none),[]⟩
def f50_1_S  (x0 x1 x2 y3 y4 y5 w6:TV):ASt:=⟨[AV.one CA.junk,AV.tv x0,AV.one (CA.ptr 0 0),AV.one CA.junk,AV.one CA.junk,AV.one (CA.sref 1 0 []),AV.tv x1,AV.tv x2] ++ List.replicate 61 (AV.one CA.junk),[some (BC.cells [CA.t y3,CA.t y4,CA.t y5]),some (BC.tree [w6])] ++ List.replicate 91 (none),[]⟩
def f50_2_S  (x0 x1 x2 x3 y4 y5 y6 w7 w8:TV):ASt:=⟨[AV.one CA.junk,AV.tv x0,AV.one (CA.ptr 0 0),AV.one CA.junk,AV.one CA.junk,AV.one (CA.sref 1 0 []),AV.tv x1,AV.tv x2,AV.one (CA.sref 2 0 []),AV.tv x3] ++ List.replicate 59 (AV.one CA.junk),[some (BC.cells [CA.t y4,CA.t y5,CA.t y6]),some (BC.tree [w7]),some (BC.tree [w8])] ++ List.replicate 90 (none),[]⟩
def f50_M (x0 x1:TV):Prg TV :=
 chk (TV.isAgg x0 3) (
 tv (plen (.slice 54) (cell x0 2)) fun v0 =>
 nat (asNat v0) fun n1 =>
 nat (asNat v0) fun n2 =>
 chk (Bool.and (Nat.ble n1 n2) (Nat.ble n2 4294967296)) (
 tv (plen (.slice 4) (TV.sl true 1 (List.replicate n1 [B false]))) fun v3 =>
 tv (pbin (.int .i64) .eql v3 (I 0)) fun v4 =>
 Prg.ite (asBool v4) (
 ret (TV.sl true 1 (List.replicate n1 [B false]))) (
 tv (pbin (.int .i64) .eql x1 (I 0)) fun v5 =>
 Prg.ite (asBool v5) (
 ret (TV.sl true 1 (List.replicate n1 [B false]))) (
 nat (slLen (TV.sl true 1 (List.replicate n1 [B false]))) fun n6 =>
 nat (asNat (I 0)) fun n7 =>
 chk (Bool.and (slSize (TV.sl true 1 (List.replicate n1 [B false])) 1) (Nat.blt n7 n6)) (
 tvs (pel (TV.sl true 1 (List.replicate n1 [B false])) n7) fun e8 =>
 chk (fitsAt zBool e8 0) (
 tv (setC [] (TV.sl true 1 (List.replicate n1 [B false])) n7 0 [B true]) fun v9 =>
 jmp [0,0,1,0,1,1,1,1] (f50_0_S x1 (B true) (cell x0 0) (cell x0 1) (cell x0 2) v9)))))))
def f50_0  (x0 x1 y2 y3 y4 w5:TV):Prg TV :=
 Prg.ite (asBool x1) (
 jmp [0,0,1,1,0,1,0,0,1,0,1,1,1,1] (f50_1_S x0 (B false) (I 0) y2 y3 y4 w5)) (
 ret w5)
def f50_1  (x0 x1 x2 y3 y4 y5 w6:TV):Prg TV :=
 tv (plen (.slice 4) w6) fun v10 =>
 tv (pbin (.int .i64) .lss x2 v10) fun v11 =>
 Prg.ite (asBool v11) (
 call 25 [agg [y3,y4,y5],x2] fun v12 =>
 chk (fitsAt zSl [v12] 0) (
 jmp [0,0,1,1,0,0,1,0,0,1,1,0,1,0,0,1,0,1,1,1,1] (f50_2_S x0 x1 x2 (I 0) y3 y4 y5 w6 v12))) (
 jmp [0,0,1,0,1,1,1,1] (f50_0_S x0 x1 y3 y4 y5 w6))
def f50_2  (x0 x1 x2 x3 y4 y5 y6 w7 w8:TV):Prg TV :=
 tv (plen (.slice 3) w8) fun v13 =>
 tv (pbin (.int .i64) .lss x3 v13) fun v14 =>
 Prg.ite (asBool v14) (
 nat (slLen w7) fun n15 =>
 nat (asNat x2) fun n16 =>
 chk (Bool.and (slSize w7 1) (Nat.blt n16 n15)) (
 tvs (pel w7 n16) fun e17 =>
 chk (fitsAt zBool e17 0) (
 Prg.ite (asBool (nth hole e17 0)) (
 nat (slLen w8) fun n18 =>
 nat (asNat x3) fun n19 =>
 chk (Bool.and (slSize w8 1) (Nat.blt n19 n18)) (
 tvs (pel w8 n19) fun e20 =>
 chk (fitsAt zInt e20 0) (
 tv (pbin (.int .i64) .neq (nth hole e20 0) x0) fun v21 =>
 Prg.ite (asBool v21) (
 nat (slLen w8) fun n22 =>
 nat (asNat x3) fun n23 =>
 chk (Bool.and (slSize w8 1) (Nat.blt n23 n22)) (
 tvs (pel w8 n23) fun e24 =>
 chk (fitsAt zInt e24 0) (
 nat (slLen w7) fun n25 =>
 nat (asNat (nth hole e24 0)) fun n26 =>
 chk (Bool.and (slSize w7 1) (Nat.blt n26 n25)) (
 tvs (pel w7 n26) fun e27 =>
 chk (fitsAt zBool e27 0) (
 tv (pun .not (nth hole e27 0)) fun v28 =>
 Prg.ite (asBool v28) (
 nat (slLen w8) fun n29 =>
 nat (asNat x3) fun n30 =>
 chk (Bool.and (slSize w8 1) (Nat.blt n30 n29)) (
 tvs (pel w8 n30) fun e31 =>
 chk (fitsAt zInt e31 0) (
 nat (slLen w7) fun n32 =>
 nat (asNat (nth hole e31 0)) fun n33 =>
 chk (Bool.and (slSize w7 1) (Nat.blt n33 n32)) (
 tvs (pel w7 n33) fun e34 =>
 chk (fitsAt zBool e34 0) (
 tv (setC [] w7 n33 0 [B true]) fun v35 =>
 tv (pbin (.int .i64) .add x3 (I 1)) fun v36 =>
 jmp [0,0,1,1,0,0,1,0,0,1,1,0,1,0,0,1,0,1,1,1,1] (f50_2_S x0 (B true) x2 v36 y4 y5 y6 v35 w8)))))) (
 tv (pbin (.int .i64) .add x3 (I 1)) fun v37 =>
 jmp [0,0,1,1,0,0,1,0,0,1,1,0,1,0,0,1,0,1,1,1,1] (f50_2_S x0 x1 x2 v37 y4 y5 y6 w7 w8))))))) (
 tv (pbin (.int .i64) .add x3 (I 1)) fun v38 =>
 jmp [0,0,1,1,0,0,1,0,0,1,1,0,1,0,0,1,0,1,1,1,1] (f50_2_S x0 x1 x2 v38 y4 y5 y6 w7 w8))))) (
 tv (pbin (.int .i64) .add x3 (I 1)) fun v39 =>
 jmp [0,0,1,1,0,0,1,0,0,1,1,0,1,0,0,1,0,1,1,1,1] (f50_2_S x0 x1 x2 v39 y4 y5 y6 w7 w8))))) (
 tv (pbin (.int .i64) .add x2 (I 1)) fun v40 =>
 jmp [0,0,1,1,0,1,0,0,1,0,1,1,1,1] (f50_1_S x0 x1 v40 y4 y5 y6 w7))
theorem f50_MR (x0 x1:TV):startQ prog 50 [x0,x1]=f50_M x0 x1:=by kernel_rfl
theorem f50_0_J  {x0 x1 y2 y3 y4 w5:TV} {r:TV} (h:Goes prog 50 (f50_0 x0 x1 y2 y3 y4 w5) r):Goes prog 50 (.jmp [0,0,1,0,1,1,1,1] (f50_0_S x0 x1 y2 y3 y4 w5)) r:=Goes.jmp (by kernel_rfl) h
theorem f50_1_J  {x0 x1 x2 y3 y4 y5 w6:TV} {r:TV} (h:Goes prog 50 (f50_1 x0 x1 x2 y3 y4 y5 w6) r):Goes prog 50 (.jmp [0,0,1,1,0,1,0,0,1,0,1,1,1,1] (f50_1_S x0 x1 x2 y3 y4 y5 w6)) r:=Goes.jmp (by kernel_rfl) h
theorem f50_2_J  {x0 x1 x2 x3 y4 y5 y6 w7 w8:TV} {r:TV} (h:Goes prog 50 (f50_2 x0 x1 x2 x3 y4 y5 y6 w7 w8) r):Goes prog 50 (.jmp [0,0,1,1,0,0,1,0,0,1,1,0,1,0,0,1,0,1,1,1,1] (f50_2_S x0 x1 x2 x3 y4 y5 y6 w7 w8)) r:=Goes.jmp (by kernel_rfl) h
def f74_M (x0:TV):Prg TV :=
 tv (pbin (.int .i64) .eql x0 (I 1)) fun v0 =>
 Prg.ite (asBool v0) (
 Prg.ite (asBool v0) (
 ret (I 5)) (
 tv (pbin (.int .i64) .eql x0 (I 2)) fun v1 =>
 Prg.ite (asBool v1) (
 ret (I 65)) (
 tv (pbin (.int .i64) .eql x0 (I 3)) fun v2 =>
 Prg.ite (asBool v2) (
 ret (I 197)) (
 tv (pbin (.int .i64) .eql x0 (I 4)) fun v3 =>
 Prg.ite (asBool v3) (
 ret (I 355)) (
 tv (pbin (.int .i64) .eql x0 (I 6)) fun v4 =>
 Prg.ite (asBool v4) (
 ret (I 1)) (
 ret (I 0))))))) (
 tv (pbin (.int .i64) .eql x0 (I 5)) fun v5 =>
 Prg.ite (asBool v5) (
 ret (I 5)) (
 tv (pbin (.int .i64) .eql x0 (I 2)) fun v6 =>
 Prg.ite (asBool v6) (
 ret (I 65)) (
 tv (pbin (.int .i64) .eql x0 (I 3)) fun v7 =>
 Prg.ite (asBool v7) (
 ret (I 197)) (
 tv (pbin (.int .i64) .eql x0 (I 4)) fun v8 =>
 Prg.ite (asBool v8) (
 ret (I 355)) (
 tv (pbin (.int .i64) .eql x0 (I 6)) fun v9 =>
 Prg.ite (asBool v9) (
 ret (I 1)) (
 ret (I 0)))))))
theorem f74_MR (x0:TV):startQ prog 74 [x0]=f74_M x0:=by kernel_rfl
end Go.Ab.U7
end
section
set_option linter.unusedVariables false
set_option maxRecDepth 100000
namespace Go.Ab.U7
open Go Go.Ab Go.Proofs
open Go.Ab.TV (hole cell comp isSl isSc isTup cellsL tup agg)
open Go.Ab.Prg (tv tvs rws nat chk call jmp ret)
def f75_M (x0 x1:TV):Prg TV :=
 tv (pbin (.int .i64) .and x0 x1) fun v0 =>
 tv (pbin (.int .i64) .neq v0 (I 0)) fun v1 =>
 ret v1
theorem f75_MR (x0 x1:TV):startQ prog 75 [x0,x1]=f75_M x0 x1:=by kernel_rfl
def f77_0_S  (x0 x1 x2 x3:TV):ASt:=⟨[AV.tv x0,AV.tv x1] ++ List.replicate 5 (AV.one CA.junk) ++ [AV.tv x2,AV.tv x3] ++ List.replicate 10 (AV.one CA.junk),List.replicate 43 (none),[]⟩
def f77_M (x0 x1:TV):Prg TV :=
 tv (plen (.slice 3) x0) fun v0 =>
 jmp [0,0,1,0,1] (f77_0_S x0 x1 v0 (I 0))
def f77_0  (x0 x1 x2 x3:TV):Prg TV :=
 tv (pbin (.int .i64) .lss x3 x2) fun v1 =>
 Prg.ite (asBool v1) (
 tvs (pidx 1 x0 x3) fun e2 =>
 chk (Nat.blt 0 (List.length e2)) (
 tv (pbin (.int .i64) .eql x1 (nth hole e2 0)) fun v3 =>
 Prg.ite (asBool v3) (
 ret x3) (
 tv (pbin (.int .i64) .add x3 (I 1)) fun v4 =>
 jmp [0,0,1,0,1] (f77_0_S x0 x1 x2 v4)))) (
 ret (TV.lit (Value.int IntKind.i64 (-1))))
theorem f77_MR (x0 x1:TV):startQ prog 77 [x0,x1]=f77_M x0 x1:=by kernel_rfl
theorem f77_0_J  {x0 x1 x2 x3:TV} {r:TV} (h:Goes prog 77 (f77_0 x0 x1 x2 x3) r):Goes prog 77 (.jmp [0,0,1,0,1] (f77_0_S x0 x1 x2 x3)) r:=Goes.jmp (by kernel_rfl) h
end Go.Ab.U7
end
section
set_option linter.unusedVariables false
set_option maxRecDepth 10000
namespace Go.Ab.U7
open Go Go.Ab Go.Proofs
theorem r14 {q q':Option Bool} {x y:TV} {l m:List Int} (hx:RInts q x l) (hy:RInts q' y m):Runs prog 23 [x,y] (B (tt (l=m))):=by
 refine Runs.of (f23_MR _ _) ?_
 unfold f23_M
 repeat' (first
  | refine Goes.chk rfl ?_
  | refine Goes.tv rfl ?_
  | refine Goes.tv (RL.len (by assumption)) ?_
  | refine Goes.nat rfl ?_
  | refine Goes.ite rfl (fun _=>?_) (fun _=>?_)
  | refine Goes.call (by assumption) ?_
  | refine Goes.tvs (by assumption) ?_)
 ·rename_i h
  have h:¬ l=m:=by rintro rfl; simp at h
  exact ret_no h
 ·rename_i h
  have hlen:l.length=m.length:=by simp at h; omega
  refine f23_0_J ?_
  rw [tt_congr (list_eq_iff' hlen)]
  refine allLoop' (g:=fun k=>f23_0 x y (I k)) ?_ ?_
  ·unfold f23_0
   refine Goes.tv hx.len (Goes.tv rfl (Goes.ite asB_end (fun h=>nomatch h) fun _=>Goes.ret))
  ·intro k hk r h1 h2
   have hk':k < m.length:=by omega
   have ha:l[k]? = some l[k]:=List.getElem?_eq_getElem hk
   have hb:m[k]? = some m[k]:=List.getElem?_eq_getElem hk'
   obtain ⟨e,he,rfl,_⟩:=hx.idx (k:=.i64) ha
   obtain ⟨e',he',rfl,_⟩:=hy.idx (k:=.i64) hb
   unfold f23_0
   refine Goes.tv hx.len (Goes.tv rfl (Goes.ite (asB_lt hk) (fun _=>?_) fun h=>nomatch h))
   refine Goes.tvs he (Goes.chk rfl (Goes.tvs he' (Goes.chk rfl (Goes.tv rfl (Goes.ite rfl (fun h=>?_) fun h=>?_)))))
   ·rw [h1 (by rw [ha,hb]; simpa using h)]; exact Goes.ret
   ·refine Goes.tv (inc hk hx.bnd) (f23_0_J (h2 ?_))
    rw [ha,hb]; simpa using h
end Go.Ab.U7
end
section
set_option linter.unusedVariables false
set_option maxRecDepth 10000
namespace Go.Ab
end Go.Ab
namespace Go.Ab.U7
open Go Go.Ab Go.Proofs
def usesE (k:Int):Int :=
 if k=1 then 5 else if k=5 then 5 else if k=2 then 65 else if k=3 then 197 else if k=4 then 355 else if k=6 then 1 else 0
def has (u f:Int):Bool:=decide (¬ IntKind.i64.wrap ((BitVec.ofInt 64 u &&& BitVec.ofInt 64 f).toNat:Int)=0)
theorem r25 (u f:Int):Runs prog 75 [I u,I f] (B (has u f)):=by
 refine Runs.of (f75_MR _ _) ?_
 unfold f75_M
 repeat' (first
  | refine Goes.chk rfl ?_
  | refine Goes.tv rfl ?_
  | refine Goes.tv (RL.len (by assumption)) ?_
  | refine Goes.nat rfl ?_
  | refine Goes.ite rfl (fun _=>?_) (fun _=>?_)
  | refine Goes.call (by assumption) ?_
  | refine Goes.tvs (by assumption) ?_)
 refine goes_ret.2 ?_
 simp [has]
 rfl
theorem r24 (k:Int):Runs prog 74 [I k] (I (usesE k)):=by
 refine Runs.of (f74_MR _) ?_
 unfold f74_M
 repeat' (first
  | refine Goes.chk rfl ?_
  | refine Goes.tv rfl ?_
  | refine Goes.tv (RL.len (by assumption)) ?_
  | refine Goes.nat rfl ?_
  | refine Goes.ite rfl (fun _=>?_) (fun _=>?_)
  | refine Goes.call (by assumption) ?_
  | refine Goes.tvs (by assumption) ?_)
 all_goals (refine goes_ret.2 ?_; simp_all [usesE])
end Go.Ab.U7
end
section
set_option linter.unusedVariables false
set_option maxRecDepth 10000
namespace Go.Ab
theorem asNat_nat {k:Nat} (h:k≤9223372036854775807):asNat (I (k:Int))=some k:=by
 simp [asNat]; omega
end Go.Ab
namespace Go.Ab.U7
open Go Go.Ab Go.Proofs
end Go.Ab.U7
end
section
set_option linter.unusedVariables false
set_option maxRecDepth 10000
namespace Go.Ab
section
variable {α:Type} {s:Nat} {R S:Nat→List TV→α→Prop} {x:TV} {l:List α}
theorem setNth_len {β:Type}:∀ (l:List β) (n:Nat) (b:β),(setNth l n b).length=l.length
 | [],_,_=>rfl
 | _ :: _,0,_=>rfl
 | a :: l,n + 1,b=>by simp [setNth,setNth_len l n b]
end
theorem RL.isFr {α:Type} {s:Nat} {R:List TV→α→Prop} {x:TV} {l:List α} (h:RL (some false) s R x l):x.isFr=true:=by
 rcases h with ⟨rfl,rfl⟩ | ⟨o,xs,rfl,hq,h,hb⟩
 ·rfl
 ·rw [hq false rfl]; rfl
theorem isOwnLL_all:∀ (xs:List (List TV)),(∀ e ∈ xs,isOwnL e=true)→isOwnLL xs=true
 | [],_=>rfl
 | e :: xs,h=>by
  simp only [isOwnLL,Bool.and_eq_true]
  exact ⟨h e List.mem_cons_self,isOwnLL_all xs fun e he=>h e (List.mem_cons_of_mem _ he)⟩
theorem F2.memL {α β:Type} {R:α→β→Prop} {xs:List α} {l:List β} (h:F2 R xs l) {e:α} (he:e ∈ xs):∃ a,a ∈ l∧R e a:=by
 obtain ⟨i,hi,rfl⟩:=List.mem_iff_getElem.1 he
 obtain ⟨a,ha,hr⟩:=h.getL (List.getElem?_eq_getElem hi)
 exact ⟨a,List.mem_of_getElem? ha,hr⟩
theorem RL.own {α:Type} {s:Nat} {R:List TV→α→Prop} {x:TV} {l:List α} (h:RL (some true) s R x l) (hm:∀ e a,R e a→isOwnL e=true):isOwn x=true:=by
 rcases h with ⟨rfl,rfl⟩ | ⟨o,xs,rfl,hq,h,hb⟩
 ·rfl
 ·rw [hq true rfl]
  simp only [isOwn,Bool.true_and]
  refine isOwnLL_all _ fun e he=>?_
  obtain ⟨a,_,hr⟩:=h.memL he
  exact hm _ _ hr
theorem RI1.own {e:List TV} {n:Int} (h:RI1 e n):isOwnL e=true:=by obtain ⟨rfl,_⟩:=h; rfl
end Go.Ab
namespace Go.Ab.U7
open Go Go.Ab Go.Proofs
end Go.Ab.U7
end
section
set_option linter.unusedVariables false
set_option maxRecDepth 10000
namespace Go.Ab
section
variable {α β:Type} {p:Way} {w y:TV} {s:Nat} {R:List TV→α→Prop} {Q:TV→β→Prop} {G:List α→DMod} {l:List α}
theorem RL.at (hy:RL (some true) s R y l) {k:Nat} {e:List TV} (he:Go.Ab.pel y k=some e):∃ xs,y=.sl true s xs∧xs[k]? = some e∧F2 R xs l∧xs.length≤9223372036854775807:=by
 rcases hy with ⟨rfl,rfl⟩ | ⟨o,xs,rfl,hq,h,hb⟩
 ·simp [Go.Ab.pel] at he
 ·have:o=true:=hq true rfl
  subst this
  exact ⟨xs,rfl,he,h,hb⟩
end
end Go.Ab
namespace Go.Ab.U7
open Go Go.Ab Go.Proofs
end Go.Ab.U7
end
section
set_option linter.unusedVariables false
set_option maxRecDepth 10000
namespace Go.Ab
def gl (b:DBlock):List Int:=(if b.fin.kind=2∨b.fin.kind=3∨b.fin.kind=4 then [b.fin.to] else []) ++ (if b.fin.kind=3 then [b.fin.els] else [])
theorem set_get {M:List Bool} {g i:Nat} (hg:g < M.length):(M.set g true)[i]? = some true ↔ i=g∨M[i]? = some true:=by
 rw [List.getElem?_set]
 by_cases h:g=i
 ·subst h; simp [hg]
 ·simp [h]; intro h'; exact absurd h'.symm h
theorem set_count {M:List Bool} {g:Nat} (hg:M[g]? = some false):(M.set g true).count true=M.count true + 1:=by
 have hlt:=(List.getElem?_eq_some_iff.1 hg).1
 have hv:=(List.getElem?_eq_some_iff.1 hg).2
 rw [List.count_set hlt]
 simp [hv]
theorem count_le (M:List Bool):M.count true≤M.length:=List.count_le_length
section
variable {α:Type} {s:Nat} {R:List TV→α→Prop} {y:TV} {l:List α}
theorem RL.setAt (hy:RL (some true) s R y l) {i:Nat} {e:List TV} (he:Go.Ab.pel y i=some e) {d:Nat} {ys:List TV} {a:α} (hR:R (setCells e d ys) a):∃ y',setC [] y i d ys=some y'∧RL (some true) s R y' (l.set i a):=by
 obtain ⟨xs,rfl,hk,hf,hb⟩:=hy.at he
 refine ⟨.sl true s (setNth xs i (setCells e d ys)),by simp only [setC,getP,setEl,hk,setP],.sl (by simp) (hf.set hR) (by rw [setNth_len]; exact hb)⟩
theorem RL.app (hy:RL (some true) s R y l) {e:List TV} {a:α} (hR:R e a) (hl:l.length + 1≤4294967296):∃ y',papp s y [e]=some y'∧RL (some true) s R y' (l ++ [a]):=by
 rcases hy with ⟨rfl,rfl⟩ | ⟨o,xs,rfl,hq,h,hb⟩
 ·refine ⟨.sl true s [e],by simp [papp,nilV,room,rowT],.sl (by simp) (.cons hR .nil) (by simp)⟩
 ·have:o=true:=hq true rfl
  subst this
  have hxl:=h.length
  refine ⟨.sl true s (xs ++ [e]),?_,.sl (by simp) (h.append (.cons hR .nil)) (by simp; omega)⟩
  simp [papp,room]; omega
theorem RL.win {q:Option Bool} (hy:RL q s R y l) {k:Nat} (hk:k≤l.length):∃ y',winP 0 k y=some y'∧RL q s R y' (l.take k):=by
 rcases hy with ⟨rfl,rfl⟩ | ⟨o,xs,rfl,hq,h,hb⟩
 ·have:k=0:=by simpa using hk
  subst this
  exact ⟨.lit nilV,rfl,by simpa using RL.nil⟩
 ·have hxl:=h.length
  refine ⟨.sl o s ((xs.drop 0).take k),?_,.sl hq (by simpa using h.take k) (by simp; omega)⟩
  simp [winP]; omega
end
end Go.Ab
namespace Go.Ab.U7
open Go Go.Ab Go.Proofs
theorem has64 (k:Int):has (usesE k) 64=true ↔ k=2∨k=3∨k=4:=by
 by_cases h1:k=1
 ·subst h1; exact ⟨fun h=>absurd h (by decide +kernel),fun h=>absurd h (by decide)⟩
 by_cases h5:k=5
 ·subst h5; exact ⟨fun h=>absurd h (by decide +kernel),fun h=>absurd h (by decide)⟩
 by_cases h2:k=2
 ·subst h2; exact ⟨fun _=>.inl rfl,fun _=>by decide +kernel⟩
 by_cases h3:k=3
 ·subst h3; exact ⟨fun _=>.inr (.inl rfl),fun _=>by decide +kernel⟩
 by_cases h4:k=4
 ·subst h4; exact ⟨fun _=>.inr (.inr rfl),fun _=>by decide +kernel⟩
 have:has (usesE k) 64=false:=by
  by_cases h6:k=6
  ·subst h6; decide +kernel
  ·have:usesE k=0:=by simp [usesE, *]
   rw [this]; decide +kernel
 simp [this,h2,h3,h4]
theorem has128 (k:Int):has (usesE k) 128=true ↔ k=3:=by
 by_cases h1:k=1
 ·subst h1; exact ⟨fun h=>absurd h (by decide +kernel),fun h=>absurd h (by decide)⟩
 by_cases h5:k=5
 ·subst h5; exact ⟨fun h=>absurd h (by decide +kernel),fun h=>absurd h (by decide)⟩
 by_cases h2:k=2
 ·subst h2; exact ⟨fun h=>absurd h (by decide +kernel),fun h=>absurd h (by decide)⟩
 by_cases h3:k=3
 ·subst h3; exact ⟨fun _=>rfl,fun _=>by decide +kernel⟩
 by_cases h4:k=4
 ·subst h4; exact ⟨fun h=>absurd h (by decide +kernel),fun h=>absurd h (by decide)⟩
 have:has (usesE k) 128=false:=by
  by_cases h6:k=6
  ·subst h6; decide +kernel
  ·have:usesE k=0:=by simp [usesE, *]
   rw [this]; decide +kernel
 simp [this,h3]
theorem r15 {q:Option Bool} {e:List TV} {b:DBlock} (he:RBlock q e b):∃ y,Runs prog 46 [.agg e] y∧RInts (some true) y (gl b):=by
 obtain ⟨c,i,g,rfl,hc,hd,hi,hg,ho⟩:=he
 obtain ⟨o1,o2,o3,o4,o5,o6,o7⟩:=ho
 have tail:∀ (w:TV) (l:List Int) (u:Bool),RInts (some true) w l→l.length≤1→(u=true ↔ b.fin.kind=3)→∃ y,Goes prog 46 (f46_0 (B u) (B b.landing) (I b.pad.dst) c (B b.pad.all) (B b.pad.cleanup) i (I b.fin.kind) (I b.fin.a) (I b.fin.dst) (I b.fin.f) g (I b.fin.to) (I b.fin.els) (I b.fin.pad) w) y∧RInts (some true) y (l ++ (if b.fin.kind=3 then [b.fin.els] else [])):=by
  intro w l u hw hl hu
  by_cases h:b.fin.kind=3
  ·have hut:u=true:=hu.2 h
   subst hut
   obtain ⟨w',hw',hr⟩:=hw.app (e:=[I b.fin.els]) (a:=b.fin.els) ⟨rfl,o6⟩ (by omega)
   refine ⟨w',?_,by simpa [h] using hr⟩
   unfold f46_0
   exact Goes.ite rfl (fun _=>Goes.rws rfl (Goes.tv hw' (Goes.chk (hr.own fun _ _ h=>h.own) Goes.ret))) fun h=>nomatch h
  ·have huf:u=false:=by cases u with
    | false=>rfl
    | true=>exact absurd (hu.1 rfl) h
   subst huf
   refine ⟨w,?_,by simpa [h] using hw⟩
   unfold f46_0
   exact Goes.ite rfl (fun h=>nomatch h) fun _=>Goes.chk (hw.own fun _ _ h=>h.own) Goes.ret
 by_cases h:b.fin.kind=2∨b.fin.kind=3∨b.fin.kind=4
 ·obtain ⟨y,hy,hr⟩:=tail (.sl true 1 [[I b.fin.to]]) [b.fin.to] (has (usesE b.fin.kind) 128) (.sl (by simp) (.cons ⟨rfl,o5⟩ .nil) (by simp)) (by simp) (has128 _)
  refine ⟨y,?_,by simpa [gl,h] using hr⟩
  refine Runs.of (f46_MR _) ?_
  unfold f46_M
  refine Goes.chk rfl (Goes.call (r24 _) (Goes.chk rfl (Goes.call (r25 _ _) (Goes.chk rfl (Goes.ite (v:=true) (by rw [(has64 _).2 h]; rfl) (fun _=>?_) fun h=>nomatch h)))))
  exact Goes.rws rfl (Goes.tv rfl (Goes.call (r25 _ _) (Goes.chk rfl (f46_0_J hy))))
 ·obtain ⟨y,hy,hr⟩:=tail (.lit nilV) [] (has (usesE b.fin.kind) 128) .nil (by simp) (has128 _)
  refine ⟨y,?_,by simpa [gl,h] using hr⟩
  refine Runs.of (f46_MR _) ?_
  unfold f46_M
  have hf:has (usesE b.fin.kind) 64=false:=by
   cases hh:has (usesE b.fin.kind) 64 with
   | false=>rfl
   | true=>exact absurd ((has64 _).1 hh) h
  refine Goes.chk rfl (Goes.call (r24 _) (Goes.chk rfl (Goes.call (r25 _ _) (Goes.chk rfl (Goes.ite (v:=false) (by rw [hf]; rfl) (fun h=>nomatch h) fun _=>?_)))))
  exact Goes.call (r25 _ _) (Goes.chk rfl (Goes.chk rfl (f46_0_J hy)))
end Go.Ab.U7
end

import Derived.Test.YtfegofaelmhnbaaRL9Xa
set_option linter.unusedVariables false
set_option maxRecDepth 100000
namespace Go.Ab.L9
open Go Go.Ab Go.Proofs
open Go.Ab.TV (hole cell comp isSl isSc isTup cellsL tup agg)
open Go.Ab.Prg (tv tvs rws nat chk call jmp ret)
def f19_0_S  (x0 y1 y2 y3 w4 w5:TV):ASt:=⟨[AV.one CA.junk,AV.one (CA.ptr 0 0),AV.one CA.junk,AV.one (CA.sref 1 0 []),AV.one (CA.sref 2 0 []),AV.tv x0] ++ List.replicate 50 (AV.one CA.junk),[some (BC.cells [CA.t y1,CA.t y2,CA.t y3]),some (BC.tree [w4]),some (BC.tree [w5])] ++ List.replicate 77 (none),[]⟩
def f19_1_S  (x0 x1 y2 y3 y4 w5 w6 w7 w8:TV):ASt:=⟨[AV.one CA.junk,AV.one (CA.ptr 0 0),AV.one CA.junk,AV.one (CA.sref 1 0 []),AV.one (CA.sref 2 0 []),AV.tv x0,AV.one (CA.sref 3 0 []),AV.one (CA.sref 4 0 []),AV.tv x1] ++ List.replicate 47 (AV.one CA.junk),[some (BC.cells [CA.t y2,CA.t y3,CA.t y4]),some (BC.tree [w5]),some (BC.tree [w6]),some (BC.tree [w7]),some (BC.tree [w8])] ++ List.replicate 75 (none),[]⟩
def f19_2_S  (x0 y1 y2 y3 w4 w5 w6:TV):ASt:=⟨[AV.one CA.junk,AV.one (CA.ptr 0 0),AV.one CA.junk,AV.one (CA.sref 1 0 []),AV.one (CA.sref 2 0 []),AV.tv x0,AV.one CA.junk,AV.one (CA.sref 3 0 [])] ++ List.replicate 48 (AV.one CA.junk),[some (BC.cells [CA.t y1,CA.t y2,CA.t y3]),some (BC.tree [w4]),some (BC.tree [w5]),some (BC.tree [w6])] ++ List.replicate 76 (none),[]⟩
def f19_M (x0:TV):Prg TV :=
 chk (TV.isAgg x0 3) (
 call 33 [agg [cell x0 0,cell x0 1,cell x0 2]] fun v0 =>
 chk (fitsAt zSl [v0] 0) (
 chk true (
 jmp [0,0,1,0,1,1,1] (f19_0_S (I 0) (cell x0 0) (cell x0 1) (cell x0 2) v0 (TV.lit nilV)))))
def f19_0  (x0 y1 y2 y3 w4 w5:TV):Prg TV :=
 tv (plen (.slice 47) y3) fun v1 =>
 tv (pbin (.int .i64) .lss x0 v1) fun v2 =>
 Prg.ite (asBool v2) (
 call 34 [agg [y1,y2,y3],x0] fun v3 =>
 chk (fitsAt zSl [v3] 0) (
 tv (plen (.slice 47) y3) fun v4 =>
 nat (asNat v4) fun n5 =>
 nat (asNat v4) fun n6 =>
 chk (Bool.and (Nat.ble n5 n6) (Nat.ble n6 4294967296)) (
 jmp [0,0,1,0,1,1,0,0,1,0,0,1,0,1,1,1] (f19_1_S x0 (I 0) y1 y2 y3 w4 w5 v3 (TV.sl true 1 (List.replicate n5 [B false])))))) (
 ret w5)
def f19_1  (x0 x1 y2 y3 y4 w5 w6 w7 w8:TV):Prg TV :=
 tv (plen (.slice 47) y4) fun v7 =>
 tv (pbin (.int .i64) .lss x1 v7) fun v8 =>
 Prg.ite (asBool v8) (
 nat (slLen w5) fun n9 =>
 nat (asNat x1) fun n10 =>
 chk (Bool.and (slSize w5 1) (Nat.blt n10 n9)) (
 tvs (pel w5 n10) fun e11 =>
 chk (fitsAt zBool e11 0) (
 Prg.ite (asBool (nth hole e11 0)) (
 tv (pbin (.int .i64) .eql x0 x1) fun v12 =>
 Prg.ite (asBool v12) (
 nat (slLen w8) fun n13 =>
 nat (asNat x1) fun n14 =>
 chk (Bool.and (slSize w8 1) (Nat.blt n14 n13)) (
 tvs (pel w8 n14) fun e15 =>
 chk (fitsAt zBool e15 0) (
 tv (setC [] w8 n14 0 [B true]) fun v16 =>
 tv (pbin (.int .i64) .add x1 (I 1)) fun v17 =>
 jmp [0,0,1,0,1,1,0,0,1,0,0,1,0,1,1,1] (f19_1_S x0 v17 y2 y3 y4 w5 w6 w7 v16)))) (
 nat (slLen w7) fun n18 =>
 nat (asNat x1) fun n19 =>
 chk (Bool.and (slSize w7 1) (Nat.blt n19 n18)) (
 tvs (pel w7 n19) fun e20 =>
 chk (fitsAt zBool e20 0) (
 tv (pun .not (nth hole e20 0)) fun v21 =>
 nat (slLen w8) fun n22 =>
 nat (asNat x1) fun n23 =>
 chk (Bool.and (slSize w8 1) (Nat.blt n23 n22)) (
 tvs (pel w8 n23) fun e24 =>
 chk (fitsAt zBool e24 0) (
 tv (setC [] w8 n23 0 [v21]) fun v25 =>
 tv (pbin (.int .i64) .add x1 (I 1)) fun v26 =>
 jmp [0,0,1,0,1,1,0,0,1,0,0,1,0,1,1,1] (f19_1_S x0 v26 y2 y3 y4 w5 w6 w7 v25))))))) (
 nat (slLen w8) fun n27 =>
 nat (asNat x1) fun n28 =>
 chk (Bool.and (slSize w8 1) (Nat.blt n28 n27)) (
 tvs (pel w8 n28) fun e29 =>
 chk (fitsAt zBool e29 0) (
 tv (setC [] w8 n28 0 [B false]) fun v30 =>
 tv (pbin (.int .i64) .add x1 (I 1)) fun v31 =>
 jmp [0,0,1,0,1,1,0,0,1,0,0,1,0,1,1,1] (f19_1_S x0 v31 y2 y3 y4 w5 w6 w7 v30))))))) (
 jmp [1,1,1,0,0,1,0,0,1,0,1,1,1] (f19_2_S x0 y2 y3 y4 w5 w6 w8))
def f19_2  (x0 y1 y2 y3 w4 w5 w6:TV):Prg TV :=
 rws (pelems 1 (TV.sl true 1 (chunks 1 1 [w6]))) fun r32 =>
 tv (papp 1 w5 r32) fun v33 =>
 tv (pbin (.int .i64) .add x0 (I 1)) fun v34 =>
 jmp [0,0,1,0,1,1,1] (f19_0_S v34 y1 y2 y3 w4 v33)
theorem f19_MR (x0:TV):startQ prog 19 [x0]=f19_M x0:=by kernel_rfl
theorem f19_0_J  {x0 y1 y2 y3 w4 w5:TV} {r:TV} (h:Goes prog 19 (f19_0 x0 y1 y2 y3 w4 w5) r):Goes prog 19 (.jmp [0,0,1,0,1,1,1] (f19_0_S x0 y1 y2 y3 w4 w5)) r:=Goes.jmp (by kernel_rfl) h
theorem f19_1_J  {x0 x1 y2 y3 y4 w5 w6 w7 w8:TV} {r:TV} (h:Goes prog 19 (f19_1 x0 x1 y2 y3 y4 w5 w6 w7 w8) r):Goes prog 19 (.jmp [0,0,1,0,1,1,0,0,1,0,0,1,0,1,1,1] (f19_1_S x0 x1 y2 y3 y4 w5 w6 w7 w8)) r:=Goes.jmp (by kernel_rfl) h
theorem f19_2_J  {x0 y1 y2 y3 w4 w5 w6:TV} {r:TV} (h:Goes prog 19 (f19_2 x0 y1 y2 y3 w4 w5 w6) r):Goes prog 19 (.jmp [1,1,1,0,0,1,0,0,1,0,1,1,1] (f19_2_S x0 y1 y2 y3 w4 w5 w6)) r:=Goes.jmp (by kernel_rfl) h
def f20_0_S  (x0 y1 y2 y3 y4 y5 y6 y7 y8 y9 y10 y11 w12:TV):ASt:=⟨[AV.one CA.junk,AV.one CA.junk,AV.one (CA.ptr 0 0),AV.one CA.junk,AV.one CA.junk,AV.one (CA.ptr 1 0),AV.one (CA.sref 2 0 [])] ++ List.replicate 29 (AV.one CA.junk) ++ [AV.tv x0] ++ List.replicate 50 (AV.one CA.junk),[some (BC.cells [CA.t y1,CA.t y2,CA.t y3]),some (BC.cells [CA.t y4,CA.t y5,CA.t y6,CA.t y7,CA.t y8,CA.t y9,CA.t y10,CA.t y11]),some (BC.tree [w12])] ++ List.replicate 108 (none),[]⟩
def f20_1_S  (x0 y1 y2 y3 y4 y5 y6 y7 y8 y9 y10 y11 w12:TV):ASt:=⟨[AV.one CA.junk,AV.one CA.junk,AV.one (CA.ptr 0 0),AV.one CA.junk,AV.one CA.junk,AV.one (CA.ptr 1 0),AV.one (CA.sref 2 0 [])] ++ List.replicate 37 (AV.one CA.junk) ++ [AV.tv x0] ++ List.replicate 42 (AV.one CA.junk),[some (BC.cells [CA.t y1,CA.t y2,CA.t y3]),some (BC.cells [CA.t y4,CA.t y5,CA.t y6,CA.t y7,CA.t y8,CA.t y9,CA.t y10,CA.t y11]),some (BC.tree [w12])] ++ List.replicate 108 (none),[]⟩
def f20_2_S  (x0 y1 y2 y3 y4 y5 y6 y7 y8 y9 y10 y11 w12:TV):ASt:=⟨[AV.one CA.junk,AV.one CA.junk,AV.one (CA.ptr 0 0),AV.one CA.junk,AV.one CA.junk,AV.one (CA.ptr 1 0),AV.one (CA.sref 2 0 [])] ++ List.replicate 45 (AV.one CA.junk) ++ [AV.tv x0] ++ List.replicate 34 (AV.one CA.junk),[some (BC.cells [CA.t y1,CA.t y2,CA.t y3]),some (BC.cells [CA.t y4,CA.t y5,CA.t y6,CA.t y7,CA.t y8,CA.t y9,CA.t y10,CA.t y11]),some (BC.tree [w12])] ++ List.replicate 108 (none),[]⟩
def f20_3_S  (x0 y1 y2 y3 w4 w5:TV):ASt:=⟨[AV.one CA.junk,AV.one CA.junk,AV.one (CA.ptr 0 0),AV.one CA.junk,AV.one CA.junk,AV.one CA.junk,AV.one (CA.sref 1 0 []),AV.one (CA.sref 2 0 []),AV.tv x0] ++ List.replicate 78 (AV.one CA.junk),[some (BC.cells [CA.t y1,CA.t y2,CA.t y3]),some (BC.tree [w4]),some (BC.tree [w5])] ++ List.replicate 108 (none),[]⟩
def f20_4_S  (x0 y1 y2 y3 w4 w5:TV):ASt:=⟨[AV.one CA.junk,AV.one CA.junk,AV.one (CA.ptr 0 0),AV.one CA.junk,AV.one CA.junk,AV.one CA.junk,AV.one (CA.sref 1 0 []),AV.one (CA.sref 2 0 []),AV.tv x0] ++ List.replicate 78 (AV.one CA.junk),[some (BC.cells [CA.t y1,CA.t y2,CA.t y3]),some (BC.tree [w4]),some (BC.tree [w5])] ++ List.replicate 108 (none),[]⟩
def f20_M (x0 x1:TV):Prg TV :=
 chk (TV.isAgg x0 3) (
 tv (pbin (.int .i64) .lss x1 (I 0)) fun v0 =>
 Prg.ite (asBool v0) (
 ret (TV.lit nilV)) (
 tv (plen (.slice 47) (cell x0 2)) fun v1 =>
 tv (pbin (.int .i64) .geq x1 v1) fun v2 =>
 Prg.ite (asBool v2) (
 ret (TV.lit nilV)) (
 tvs (pidx 14 (cell x0 2) x1) fun e3 =>
 chk (Nat.ble 14 (List.length e3)) (
 tv (pbin (.int .i64) .eql (nth hole e3 6) (I 2)) fun v4 =>
 Prg.ite (asBool v4) (
 chk true (
 jmp [1,0,1,1,1,1] (f20_0_S (B true) (cell x0 0) (cell x0 1) (cell x0 2) (nth hole e3 6) (nth hole e3 7) (nth hole e3 8) (nth hole e3 9) (nth hole e3 10) (nth hole e3 11) (nth hole e3 12) (nth hole e3 13) (TV.lit nilV)))) (
 tv (pbin (.int .i64) .eql (nth hole e3 6) (I 3)) fun v5 =>
 Prg.ite (asBool v5) (
 chk true (
 jmp [1,0,1,1,1,1] (f20_0_S (B true) (cell x0 0) (cell x0 1) (cell x0 2) (nth hole e3 6) (nth hole e3 7) (nth hole e3 8) (nth hole e3 9) (nth hole e3 10) (nth hole e3 11) (nth hole e3 12) (nth hole e3 13) (TV.lit nilV)))) (
 tv (pbin (.int .i64) .eql (nth hole e3 6) (I 4)) fun v6 =>
 chk true (
 jmp [1,0,1,1,1,1] (f20_0_S v6 (cell x0 0) (cell x0 1) (cell x0 2) (nth hole e3 6) (nth hole e3 7) (nth hole e3 8) (nth hole e3 9) (nth hole e3 10) (nth hole e3 11) (nth hole e3 12) (nth hole e3 13) (TV.lit nilV)))))))))
def f20_0  (x0 y1 y2 y3 y4 y5 y6 y7 y8 y9 y10 y11 w12:TV):Prg TV :=
 Prg.ite (asBool x0) (
 rws (pelems 1 (TV.sl true 1 (chunks 1 1 [y9]))) fun r7 =>
 tv (papp 1 w12 (lfLL r7)) fun v8 =>
 tv (pbin (.int .i64) .eql y4 (I 3)) fun v9 =>
 jmp [1,0,1,1,1,1,1] (f20_1_S v9 y1 y2 y3 y4 y5 y6 y7 y8 y9 y10 y11 v8)) (
 tv (pbin (.int .i64) .eql y4 (I 3)) fun v10 =>
 jmp [1,0,1,1,1,1,1] (f20_1_S v10 y1 y2 y3 y4 y5 y6 y7 y8 y9 y10 y11 w12))
def f20_1  (x0 y1 y2 y3 y4 y5 y6 y7 y8 y9 y10 y11 w12:TV):Prg TV :=
 Prg.ite (asBool x0) (
 rws (pelems 1 (TV.sl true 1 (chunks 1 1 [y10]))) fun r11 =>
 tv (papp 1 w12 (lfLL r11)) fun v12 =>
 tv (pbin (.int .i64) .eql y4 (I 4)) fun v13 =>
 jmp [1,0,1,1,1,1,1,1] (f20_2_S v13 y1 y2 y3 y4 y5 y6 y7 y8 y9 y10 y11 v12)) (
 tv (pbin (.int .i64) .eql y4 (I 4)) fun v14 =>
 jmp [1,0,1,1,1,1,1,1] (f20_2_S v14 y1 y2 y3 y4 y5 y6 y7 y8 y9 y10 y11 w12))
def f20_2  (x0 y1 y2 y3 y4 y5 y6 y7 y8 y9 y10 y11 w12:TV):Prg TV :=
 Prg.ite (asBool x0) (
 rws (pelems 1 (TV.sl true 1 (chunks 1 1 [y11]))) fun r15 =>
 tv (papp 1 w12 (lfLL r15)) fun v16 =>
 chk true (
 jmp [1,0,1,1,1,1,1,1,1,1] (f20_3_S (I 0) y1 y2 y3 v16 (TV.lit nilV)))) (
 chk true (
 jmp [1,0,1,1,1,1,1,1,1,1] (f20_3_S (I 0) y1 y2 y3 w12 (TV.lit nilV))))
def f20_3  (x0 y1 y2 y3 w4 w5:TV):Prg TV :=
 jmp [0,0,1,0,1,1,1,1,1,1,1,1] (f20_4_S x0 y1 y2 y3 w4 w5)
def f20_4  (x0 y1 y2 y3 w4 w5:TV):Prg TV :=
 tv (plen (.slice 3) w4) fun v17 =>
 tv (pbin (.int .i64) .lss x0 v17) fun v18 =>
 Prg.ite (asBool v18) (
 nat (slLen w4) fun n19 =>
 nat (asNat x0) fun n20 =>
 chk (Bool.and (slSize w4 1) (Nat.blt n20 n19)) (
 tvs (pel w4 n20) fun e21 =>
 chk (fitsAt zInt e21 0) (
 tv (pbin (.int .i64) .geq (nth hole e21 0) (I 0)) fun v22 =>
 Prg.ite (asBool v22) (
 nat (slLen w4) fun n23 =>
 nat (asNat x0) fun n24 =>
 chk (Bool.and (slSize w4 1) (Nat.blt n24 n23)) (
 tvs (pel w4 n24) fun e25 =>
 chk (fitsAt zInt e25 0) (
 tv (plen (.slice 47) y3) fun v26 =>
 tv (pbin (.int .i64) .lss (nth hole e25 0) v26) fun v27 =>
 Prg.ite (asBool v27) (
 nat (slLen w4) fun n28 =>
 nat (asNat x0) fun n29 =>
 chk (Bool.and (slSize w4 1) (Nat.blt n29 n28)) (
 tvs (pel w4 n29) fun e30 =>
 chk (fitsAt zInt e30 0) (
 rws (pelems 1 (TV.sl true 1 (chunks 1 1 [nth hole e30 0]))) fun r31 =>
 tv (papp 1 w5 (lfLL r31)) fun v32 =>
 tv (pbin (.int .i64) .add x0 (I 1)) fun v33 =>
 jmp [0,0,1,0,1,1,1,1,1,1,1,1] (f20_4_S v33 y1 y2 y3 w4 v32)))) (
 tv (pbin (.int .i64) .add x0 (I 1)) fun v34 =>
 jmp [0,0,1,0,1,1,1,1,1,1,1,1] (f20_4_S v34 y1 y2 y3 w4 w5))))) (
 tv (pbin (.int .i64) .add x0 (I 1)) fun v35 =>
 jmp [0,0,1,0,1,1,1,1,1,1,1,1] (f20_4_S v35 y1 y2 y3 w4 w5))))) (
 ret w5)
theorem f20_MR (x0 x1:TV):startQ prog 20 [x0,x1]=f20_M x0 x1:=by kernel_rfl
theorem f20_0_J  {x0 y1 y2 y3 y4 y5 y6 y7 y8 y9 y10 y11 w12:TV} {r:TV} (h:Goes prog 20 (f20_0 x0 y1 y2 y3 y4 y5 y6 y7 y8 y9 y10 y11 w12) r):Goes prog 20 (.jmp [1,0,1,1,1,1] (f20_0_S x0 y1 y2 y3 y4 y5 y6 y7 y8 y9 y10 y11 w12)) r:=Goes.jmp (by kernel_rfl) h
theorem f20_1_J  {x0 y1 y2 y3 y4 y5 y6 y7 y8 y9 y10 y11 w12:TV} {r:TV} (h:Goes prog 20 (f20_1 x0 y1 y2 y3 y4 y5 y6 y7 y8 y9 y10 y11 w12) r):Goes prog 20 (.jmp [1,0,1,1,1,1,1] (f20_1_S x0 y1 y2 y3 y4 y5 y6 y7 y8 y9 y10 y11 w12)) r:=Goes.jmp (by kernel_rfl) h
theorem f20_2_J  {x0 y1 y2 y3 y4 y5 y6 y7 y8 y9 y10 y11 w12:TV} {r:TV} (h:Goes prog 20 (f20_2 x0 y1 y2 y3 y4 y5 y6 y7 y8 y9 y10 y11 w12) r):Goes prog 20 (.jmp [1,0,1,1,1,1,1,1] (f20_2_S x0 y1 y2 y3 y4 y5 y6 y7 y8 y9 y10 y11 w12)) r:=Goes.jmp (by kernel_rfl) h
theorem f20_3_J  {x0 y1 y2 y3 w4 w5:TV} {r:TV} (h:Goes prog 20 (f20_3 x0 y1 y2 y3 w4 w5) r):Goes prog 20 (.jmp [1,0,1,1,1,1,1,1,1,1] (f20_3_S x0 y1 y2 y3 w4 w5)) r:=Goes.jmp (by kernel_rfl) h
theorem f20_4_J  {x0 y1 y2 y3 w4 w5:TV} {r:TV} (h:Goes prog 20 (f20_4 x0 y1 y2 y3 w4 w5) r):Goes prog 20 (.jmp [0,0,1,0,1,1,1,1,1,1,1,1] (f20_4_S x0 y1 y2 y3 w4 w5)) r:=Goes.jmp (by kernel_rfl) h
def f21_0_S  (x0 x1 y2 y3 y4 w5:TV):ASt:=⟨[AV.one CA.junk,AV.one CA.junk,AV.tv x0,AV.one (CA.ptr 0 0),AV.one CA.junk,AV.one CA.junk,AV.one CA.junk,AV.one (CA.sref 1 0 []),AV.tv x1] ++ List.replicate 50 (AV.one CA.junk),[some (BC.cells [CA.t y2,CA.t y3,CA.t y4]),some (BC.tree [w5])] ++ List.replicate 81 (none),[]⟩
def f21_1_S  (x0 x1 x2 y3 y4 y5 w6:TV):ASt:=⟨[AV.one CA.junk,AV.one CA.junk,AV.tv x0,AV.one (CA.ptr 0 0),AV.one CA.junk,AV.one CA.junk,AV.one CA.junk,AV.one (CA.sref 1 0 []),AV.tv x1,AV.tv x2] ++ List.replicate 49 (AV.one CA.junk),[some (BC.cells [CA.t y3,CA.t y4,CA.t y5]),some (BC.tree [w6])] ++ List.replicate 81 (none),[]⟩
def f21_2_S  (x0 x1 x2 x3 y4 y5 y6 w7 w8:TV):ASt:=⟨[AV.one CA.junk,AV.one CA.junk,AV.tv x0,AV.one (CA.ptr 0 0),AV.one CA.junk,AV.one CA.junk,AV.one CA.junk,AV.one (CA.sref 1 0 []),AV.tv x1,AV.tv x2,AV.one (CA.sref 2 0 []),AV.tv x3] ++ List.replicate 47 (AV.one CA.junk),[some (BC.cells [CA.t y4,CA.t y5,CA.t y6]),some (BC.tree [w7]),some (BC.tree [w8])] ++ List.replicate 80 (none),[]⟩
def f21_M (x0 x1 x2:TV):Prg TV :=
 chk (TV.isAgg x0 3) (
 tv (plen (.slice 47) (cell x0 2)) fun v0 =>
 nat (asNat v0) fun n1 =>
 nat (asNat v0) fun n2 =>
 chk (Bool.and (Nat.ble n1 n2) (Nat.ble n2 4294967296)) (
 tv (pbin (.int .i64) .eql x1 x2) fun v3 =>
 Prg.ite (asBool v3) (
 ret (TV.sl true 1 (List.replicate n1 [B false]))) (
 nat (slLen (TV.sl true 1 (List.replicate n1 [B false]))) fun n4 =>
 nat (asNat x1) fun n5 =>
 chk (Bool.and (slSize (TV.sl true 1 (List.replicate n1 [B false])) 1) (Nat.blt n5 n4)) (
 tvs (pel (TV.sl true 1 (List.replicate n1 [B false])) n5) fun e6 =>
 chk (fitsAt zBool e6 0) (
 tv (setC [] (TV.sl true 1 (List.replicate n1 [B false])) n5 0 [B true]) fun v7 =>
 jmp [0,0,1,0,1,1,1,1] (f21_0_S x2 (B true) (cell x0 0) (cell x0 1) (cell x0 2) v7))))))
def f21_0  (x0 x1 y2 y3 y4 w5:TV):Prg TV :=
 Prg.ite (asBool x1) (
 jmp [0,0,1,1,0,1,0,0,1,0,1,1,1,1] (f21_1_S x0 (B false) (I 0) y2 y3 y4 w5)) (
 ret w5)
def f21_1  (x0 x1 x2 y3 y4 y5 w6:TV):Prg TV :=
 tv (plen (.slice 4) w6) fun v8 =>
 tv (pbin (.int .i64) .lss x2 v8) fun v9 =>
 Prg.ite (asBool v9) (
 nat (slLen w6) fun n10 =>
 nat (asNat x2) fun n11 =>
 chk (Bool.and (slSize w6 1) (Nat.blt n11 n10)) (
 tvs (pel w6 n11) fun e12 =>
 chk (fitsAt zBool e12 0) (
 Prg.ite (asBool (nth hole e12 0)) (
 tv (pbin (.int .i64) .add x2 (I 1)) fun v13 =>
 jmp [0,0,1,1,0,1,0,0,1,0,1,1,1,1] (f21_1_S x0 x1 v13 y3 y4 y5 w6)) (
 tv (pbin (.int .i64) .eql x2 x0) fun v14 =>
 Prg.ite (asBool v14) (
 tv (pbin (.int .i64) .add x2 (I 1)) fun v15 =>
 jmp [0,0,1,1,0,1,0,0,1,0,1,1,1,1] (f21_1_S x0 x1 v15 y3 y4 y5 w6)) (
 call 20 [agg [y3,y4,y5],x2] fun v16 =>
 chk (fitsAt zSl [v16] 0) (
 jmp [0,0,1,1,1,0,0,1,0,0,1,1,0,1,0,0,1,0,1,1,1,1] (f21_2_S x0 x1 x2 (I 0) y3 y4 y5 w6 v16))))))) (
 jmp [0,0,1,0,1,1,1,1] (f21_0_S x0 x1 y3 y4 y5 w6))
def f21_2  (x0 x1 x2 x3 y4 y5 y6 w7 w8:TV):Prg TV :=
 tv (plen (.slice 3) w8) fun v17 =>
 tv (pbin (.int .i64) .lss x3 v17) fun v18 =>
 Prg.ite (asBool v18) (
 nat (slLen w8) fun n19 =>
 nat (asNat x3) fun n20 =>
 chk (Bool.and (slSize w8 1) (Nat.blt n20 n19)) (
 tvs (pel w8 n20) fun e21 =>
 chk (fitsAt zInt e21 0) (
 nat (slLen w7) fun n22 =>
 nat (asNat (nth hole e21 0)) fun n23 =>
 chk (Bool.and (slSize w7 1) (Nat.blt n23 n22)) (
 tvs (pel w7 n23) fun e24 =>
 chk (fitsAt zBool e24 0) (
 Prg.ite (asBool (nth hole e24 0)) (
 nat (slLen w7) fun n25 =>
 nat (asNat x2) fun n26 =>
 chk (Bool.and (slSize w7 1) (Nat.blt n26 n25)) (
 tvs (pel w7 n26) fun e27 =>
 chk (fitsAt zBool e27 0) (
 tv (setC [] w7 n26 0 [B true]) fun v28 =>
 tv (pbin (.int .i64) .add x3 (I 1)) fun v29 =>
 jmp [0,0,1,1,1,0,0,1,0,0,1,1,0,1,0,0,1,0,1,1,1,1] (f21_2_S x0 (B true) x2 v29 y4 y5 y6 v28 w8)))) (
 tv (pbin (.int .i64) .add x3 (I 1)) fun v30 =>
 jmp [0,0,1,1,1,0,0,1,0,0,1,1,0,1,0,0,1,0,1,1,1,1] (f21_2_S x0 x1 x2 v30 y4 y5 y6 w7 w8))))))) (
 tv (pbin (.int .i64) .add x2 (I 1)) fun v31 =>
 jmp [0,0,1,1,0,1,0,0,1,0,1,1,1,1] (f21_1_S x0 x1 v31 y4 y5 y6 w7))
theorem f21_MR (x0 x1 x2:TV):startQ prog 21 [x0,x1,x2]=f21_M x0 x1 x2:=by kernel_rfl
theorem f21_0_J  {x0 x1 y2 y3 y4 w5:TV} {r:TV} (h:Goes prog 21 (f21_0 x0 x1 y2 y3 y4 w5) r):Goes prog 21 (.jmp [0,0,1,0,1,1,1,1] (f21_0_S x0 x1 y2 y3 y4 w5)) r:=Goes.jmp (by kernel_rfl) h
theorem f21_1_J  {x0 x1 x2 y3 y4 y5 w6:TV} {r:TV} (h:Goes prog 21 (f21_1 x0 x1 x2 y3 y4 y5 w6) r):Goes prog 21 (.jmp [0,0,1,1,0,1,0,0,1,0,1,1,1,1] (f21_1_S x0 x1 x2 y3 y4 y5 w6)) r:=Goes.jmp (by kernel_rfl) h
theorem f21_2_J  {x0 x1 x2 x3 y4 y5 y6 w7 w8:TV} {r:TV} (h:Goes prog 21 (f21_2 x0 x1 x2 x3 y4 y5 y6 w7 w8) r):Goes prog 21 (.jmp [0,0,1,1,1,0,0,1,0,0,1,1,0,1,0,0,1,0,1,1,1,1] (f21_2_S x0 x1 x2 x3 y4 y5 y6 w7 w8)) r:=Goes.jmp (by kernel_rfl) h
def f24_0_S  (y0 y1 y2 w3 w4 w5:TV):ASt:=⟨[AV.one CA.junk,AV.one CA.junk,AV.one CA.junk,AV.one (CA.ptr 0 0)] ++ List.replicate 21 (AV.one CA.junk),[some (BC.cells [CA.t y0,CA.t y1,CA.t y2,CA.sref 1 0 [],CA.sref 2 0 [],CA.sref 3 0 []]),some (BC.tree [w3]),some (BC.tree [w4]),some (BC.tree [w5])] ++ List.replicate 45 (none),[]⟩
def f24_1_S  (x0 x1 w2 y3 y4 y5 w6 w7:TV):ASt:=⟨[AV.one (CA.sref 0 0 []),AV.one CA.junk,AV.tv x0,AV.tv x1] ++ List.replicate 24 (AV.one CA.junk),[some (BC.tree [w2]),some (BC.cells [CA.t y3,CA.t y4,CA.t y5,CA.sref 2 0 [],CA.sref 3 0 [],CA.sref 0 0 []]),some (BC.tree [w6]),some (BC.tree [w7])] ++ List.replicate 73 (none),([AV.one CA.junk,AV.one CA.junk,AV.one CA.junk,AV.one (CA.ptr 1 0)] ++ List.replicate 21 (AV.one CA.junk))⟩
def f24_M (x0:TV):Prg TV :=
 chk (TV.isAgg x0 3) (
 tv (plen (.slice 47) (cell x0 2)) fun v0 =>
 tv (pbin (.int .i64) .eql v0 (I 0)) fun v1 =>
 Prg.ite (asBool v1) (
 chk true (
 ret (TV.lit nilV))) (
 tv (plen (.slice 47) (cell x0 2)) fun v2 =>
 nat (asNat v2) fun n3 =>
 nat (asNat v2) fun n4 =>
 chk (Bool.and (Nat.ble n3 n4) (Nat.ble n4 4294967296)) (
 nat (slLen (TV.sl true 1 (List.replicate n3 [B false]))) fun n5 =>
 nat (asNat (I 0)) fun n6 =>
 chk (Bool.and (slSize (TV.sl true 1 (List.replicate n3 [B false])) 1) (Nat.blt n6 n5)) (
 tvs (pel (TV.sl true 1 (List.replicate n3 [B false])) n6) fun e7 =>
 chk (fitsAt zBool e7 0) (
 tv (setC [] (TV.sl true 1 (List.replicate n3 [B false])) n6 0 [B true]) fun v8 =>
 call 16 [agg [cell x0 0,cell x0 1,cell x0 2],I 0] fun v9 =>
 chk (fitsAt zSl [v9] 0) (
 rws (pelems 2 (TV.sl true 2 (chunks 2 1 [I 0,v9]))) fun r10 =>
 tv (papp 2 (TV.lit nilV) r10) fun v11 =>
 chk true (
 jmp [0,0,0,1,1,1,1] (f24_0_S (cell x0 0) (cell x0 1) (cell x0 2) v8 (coolT v11) (TV.lit nilV)))))))))
def f24_0  (y0 y1 y2 w3 w4 w5:TV):Prg TV :=
 tv (plen (.slice 88) w4) fun v12 =>
 tv (pbin (.int .i64) .gtr v12 (I 0)) fun v13 =>
 Prg.ite (asBool v13) (
 tv (plen (.slice 88) w4) fun v14 =>
 tv (pbin (.int .i64) .sub v14 (I 1)) fun v15 =>
 nat (slLen w4) fun n16 =>
 nat (asNat v15) fun n17 =>
 chk (Bool.and (slSize w4 2) (Nat.blt n17 n16)) (
 tvs (pel w4 n17) fun e18 =>
 chk (fitsAt zSl e18 1) (
 tv (getP [(n17,1)] w4) fun v19 =>
 tv (plen (.slice 3) v19) fun v20 =>
 tv (pbin (.int .i64) .eql v20 (I 0)) fun v21 =>
 Prg.ite (asBool v21) (
 tv (plen (.slice 88) w4) fun v22 =>
 tv (pbin (.int .i64) .sub v22 (I 1)) fun v23 =>
 nat (slLen w4) fun n24 =>
 nat (asNat v23) fun n25 =>
 chk (Bool.and (slSize w4 2) (Nat.blt n25 n24)) (
 tvs (pel w4 n25) fun e26 =>
 chk (fitsAt zInt e26 0) (
 rws (pelems 1 (TV.sl true 1 (chunks 1 1 [nth hole e26 0]))) fun r27 =>
 tv (papp 1 w5 (lfLL r27)) fun v28 =>
 nat (slLen w4) fun n29 =>
 nat (asNat v23) fun n30 =>
 chk (Bool.and (Bool.and (slSize w4 2) (Nat.ble 0 (Option.getD (some n30) n29))) (Nat.ble (Option.getD (some n30) n29) n29)) (
 tv (winP 0 ((Option.getD (some n30) n29) - 0) w4) fun v31 =>
 jmp [0,0,0,1,1,1,1] (f24_0_S y0 y1 y2 w3 (coolT v31) v28))))) (
 tvs (pel w4 n17) fun e32 =>
 chk (fitsAt zSl e32 1) (
 tv (getP [(n17,1)] w4) fun v33 =>
 nat (slLen v33) fun n34 =>
 nat (asNat (I 0)) fun n35 =>
 chk (Bool.and (slSize v33 1) (Nat.blt n35 n34)) (
 tv (getP [(n17,1)] w4) fun v36 =>
 tvs (pel v36 n35) fun e37 =>
 chk (fitsAt zInt e37 0) (
 tvs (pel w4 n17) fun e38 =>
 chk (fitsAt zSl e38 1) (
 tv (getP [(n17,1)] w4) fun v39 =>
 nat (slLen v39) fun n40 =>
 nat (asNat (I 1)) fun n41 =>
 chk (Bool.and (Bool.and (slSize v39 1) (Nat.ble (Option.getD (some n41) 0) (Option.getD none n40))) (Nat.ble (Option.getD none n40) n40)) (
 tv (getP [(n17,1)] w4) fun v42 =>
 tv (winP (Option.getD (some n41) 0) ((Option.getD none n40) - (Option.getD (some n41) 0)) v42) fun v43 =>
 chk (TV.isFr v43) (
 tvs (pel w4 n17) fun e44 =>
 chk (Bool.and (fitsOld zSl e44 1) (fitsAt zSl [v43] 0)) (
 tv (setC [] w4 n17 1 [v43]) fun v45 =>
 nat (slLen w3) fun n46 =>
 nat (asNat (nth hole e37 0)) fun n47 =>
 chk (Bool.and (slSize w3 1) (Nat.blt n47 n46)) (
 tvs (pel w3 n47) fun e48 =>
 chk (fitsAt zBool e48 0) (
 tv (pun .not (nth hole e48 0)) fun v49 =>
 Prg.ite (asBool v49) (
 nat (slLen w3) fun n50 =>
 nat (asNat (nth hole e37 0)) fun n51 =>
 chk (Bool.and (slSize w3 1) (Nat.blt n51 n50)) (
 tvs (pel w3 n51) fun e52 =>
 chk (fitsAt zBool e52 0) (
 tv (setC [] w3 n51 0 [B true]) fun v53 =>
 call 16 [agg [y0,y1,y2],nth hole e37 0] fun v54 =>
 chk (fitsAt zSl [v54] 0) (
 rws (pelems 2 (TV.sl true 2 (chunks 2 1 [nth hole e37 0,v54]))) fun r55 =>
 tv (papp 2 v45 r55) fun v56 =>
 jmp [0,0,0,1,1,1,1] (f24_0_S y0 y1 y2 v53 (coolT v56) w5))))) (
 jmp [0,0,0,1,1,1,1] (f24_0_S y0 y1 y2 w3 (coolT v45) w5))))))))))))))) (
 tv (plen (.slice 3) w5) fun v57 =>
 tv (pbin (.int .i64) .sub v57 (I 1)) fun v58 =>
 jmp [0,0,1,6,0,1,1,1,1,1] (f24_1_S (I 0) v58 w5 y0 y1 y2 w3 w4))
def f24_1  (x0 x1 w2 y3 y4 y5 w6 w7:TV):Prg TV :=
 tv (pbin (.int .i64) .lss x0 x1) fun v59 =>
 Prg.ite (asBool v59) (
 nat (slLen w2) fun n60 =>
 nat (asNat x1) fun n61 =>
 chk (Bool.and (slSize w2 1) (Nat.blt n61 n60)) (
 tvs (pel w2 n61) fun e62 =>
 chk (fitsAt zInt e62 0) (
 nat (slLen w2) fun n63 =>
 nat (asNat x0) fun n64 =>
 chk (Bool.and (slSize w2 1) (Nat.blt n64 n63)) (
 tvs (pel w2 n64) fun e65 =>
 chk (fitsAt zInt e65 0) (
 nat (slLen w2) fun n66 =>
 nat (asNat x0) fun n67 =>
 chk (Bool.and (slSize w2 1) (Nat.blt n67 n66)) (
 tvs (pel w2 n67) fun e68 =>
 chk (fitsAt zInt e68 0) (
 tv (setC [] w2 n67 0 [nth hole e62 0]) fun v69 =>
 nat (slLen v69) fun n70 =>
 nat (asNat x1) fun n71 =>
 chk (Bool.and (slSize v69 1) (Nat.blt n71 n70)) (
 tvs (pel v69 n71) fun e72 =>
 chk (fitsAt zInt e72 0) (
 tv (setC [] v69 n71 0 [nth hole e65 0]) fun v73 =>
 tv (pbin (.int .i64) .add x0 (I 1)) fun v74 =>
 tv (pbin (.int .i64) .sub x1 (I 1)) fun v75 =>
 jmp [0,0,1,6,0,1,1,1,1,1] (f24_1_S v74 v75 v73 y3 y4 y5 w6 w7)))))))))) (
 chk (isOwn w2) (
 ret w2))
theorem f24_MR (x0:TV):startQ prog 24 [x0]=f24_M x0:=by kernel_rfl
theorem f24_0_J  {y0 y1 y2 w3 w4 w5:TV} {r:TV} (h:Goes prog 24 (f24_0 y0 y1 y2 w3 w4 w5) r):Goes prog 24 (.jmp [0,0,0,1,1,1,1] (f24_0_S y0 y1 y2 w3 w4 w5)) r:=Goes.jmp (by kernel_rfl) h
theorem f24_1_J  {x0 x1 w2 y3 y4 y5 w6 w7:TV} {r:TV} (h:Goes prog 24 (f24_1 x0 x1 w2 y3 y4 y5 w6 w7) r):Goes prog 24 (.jmp [0,0,1,6,0,1,1,1,1,1] (f24_1_S x0 x1 w2 y3 y4 y5 w6 w7)) r:=Goes.jmp (by kernel_rfl) h
def f25_M (x0 x1:TV):Prg TV :=
 chk (TV.isAgg x0 3) (
 tv (pbin (.int .i64) .leq (I 0) x1) fun v0 =>
 Prg.ite (asBool v0) (
 tv (plen (.slice 47) (cell x0 2)) fun v1 =>
 tv (pbin (.int .i64) .lss x1 v1) fun v2 =>
 ret v2) (
 ret (B false)))
theorem f25_MR (x0 x1:TV):startQ prog 25 [x0,x1]=f25_M x0 x1:=by kernel_rfl
def f26_0_S  (x0 y1 y2 y3 y4 y5 y6 y7 y8 y9 y10 y11 y12 y13 y14 w15:TV):ASt:=⟨[AV.one CA.junk,AV.one (CA.ptr 0 0),AV.one CA.junk,AV.one CA.junk,AV.one (CA.sref 1 0 [])] ++ List.replicate 13 (AV.one CA.junk) ++ [AV.tv x0] ++ List.replicate 7 (AV.one CA.junk),[some (BC.cells [CA.t y1,CA.t y2,CA.t y3,CA.t y4,CA.t y5,CA.t y6,CA.t y7,CA.t y8,CA.t y9,CA.t y10,CA.t y11,CA.t y12,CA.t y13,CA.t y14]),some (BC.tree [w15])] ++ List.replicate 48 (none),[]⟩
def f26_M (x0:TV):Prg TV :=
 chk (TV.isAgg x0 14) (
 call 40 [cell x0 6] fun v0 =>
 chk (fitsAt zInt [v0] 0) (
 call 41 [v0,I 64] fun v1 =>
 chk (fitsAt zBool [v1] 0) (
 Prg.ite (asBool v1) (
 rws (pelems 1 (TV.sl true 1 (chunks 1 1 [cell x0 11]))) fun r2 =>
 tv (papp 1 (TV.lit nilV) (lfLL r2)) fun v3 =>
 call 41 [v0,I 128] fun v4 =>
 chk (fitsAt zBool [v4] 0) (
 jmp [1,0,1,1,1,1] (f26_0_S v4 (cell x0 0) (cell x0 1) (cell x0 2) (cell x0 3) (cell x0 4) (cell x0 5) (cell x0 6) (cell x0 7) (cell x0 8) (cell x0 9) (cell x0 10) (cell x0 11) (cell x0 12) (cell x0 13) v3))) (
 call 41 [v0,I 128] fun v5 =>
 chk (fitsAt zBool [v5] 0) (
 chk true (
 jmp [1,0,1,1,1,1] (f26_0_S v5 (cell x0 0) (cell x0 1) (cell x0 2) (cell x0 3) (cell x0 4) (cell x0 5) (cell x0 6) (cell x0 7) (cell x0 8) (cell x0 9) (cell x0 10) (cell x0 11) (cell x0 12) (cell x0 13) (TV.lit nilV))))))))
def f26_0  (x0 y1 y2 y3 y4 y5 y6 y7 y8 y9 y10 y11 y12 y13 y14 w15:TV):Prg TV :=
 Prg.ite (asBool x0) (
 rws (pelems 1 (TV.sl true 1 (chunks 1 1 [y13]))) fun r6 =>
 tv (papp 1 w15 (lfLL r6)) fun v7 =>
 chk (isOwn v7) (
 ret v7)) (
 chk (isOwn w15) (
 ret w15))
theorem f26_MR (x0:TV):startQ prog 26 [x0]=f26_M x0:=by kernel_rfl
theorem f26_0_J  {x0 y1 y2 y3 y4 y5 y6 y7 y8 y9 y10 y11 y12 y13 y14 w15:TV} {r:TV} (h:Goes prog 26 (f26_0 x0 y1 y2 y3 y4 y5 y6 y7 y8 y9 y10 y11 y12 y13 y14 w15) r):Goes prog 26 (.jmp [1,0,1,1,1,1] (f26_0_S x0 y1 y2 y3 y4 y5 y6 y7 y8 y9 y10 y11 y12 y13 y14 w15)) r:=Goes.jmp (by kernel_rfl) h
def f29_0_S  (x0 y1 y2 y3 w4 w5 w6 x7 x8:TV):ASt:=⟨[AV.one (CA.yl 0),AV.one (CA.ptr 0 0),AV.one CA.junk,AV.tv x0] ++ List.replicate 15 (AV.one CA.junk),[some (BC.cells [CA.t y1]),some (BC.cells [CA.t y2,CA.t y3]),some (BC.cells [CA.sref 4 0 []]),some (BC.cells [CA.sref 5 0 [],CA.sref 6 0 []]),some (BC.tree [w4]),some (BC.tree [w5]),some (BC.tree [w6])] ++ List.replicate 133 (none),([AV.one CA.junk,AV.tv x7,AV.one CA.junk,AV.one CA.junk,AV.one (CA.ptr 1 0),AV.one (CA.ptr 2 0),AV.tv x8,AV.one (CA.ptr 3 0)] ++ List.replicate 16 (AV.one CA.junk) ++ [AV.clo 43 [CA.ptr 0 0]] ++ List.replicate 72 (AV.one CA.junk))⟩
def f29_1_S  (x0 x1 w2 w3 w4:TV):ASt:=⟨[AV.one CA.junk,AV.tv x0,AV.one CA.junk,AV.one CA.junk,AV.one (CA.ptr 0 0),AV.one (CA.ptr 1 0),AV.tv x1,AV.one (CA.ptr 2 0)] ++ List.replicate 89 (AV.one CA.junk),[some (BC.cells [CA.junk,CA.junk]),some (BC.cells [CA.sref 3 0 []]),some (BC.cells [CA.sref 4 0 [],CA.sref 5 0 []]),some (BC.tree [w2]),some (BC.tree [w3]),some (BC.tree [w4])] ++ List.replicate 115 (none),[]⟩
def f29_2_S  (x0 x1 x2 w3 w4 w5 w6:TV):ASt:=⟨List.replicate 4 (AV.one CA.junk) ++ [AV.one (CA.ptr 0 0),AV.one (CA.ptr 1 0),AV.one CA.junk,AV.one (CA.ptr 2 0),AV.one CA.junk,AV.one CA.junk,AV.one (CA.sref 3 0 [])] ++ List.replicate 42 (AV.one CA.junk) ++ [AV.tv x0,AV.tv x1,AV.tv x2] ++ List.replicate 41 (AV.one CA.junk),[some (BC.cells [CA.junk,CA.junk]),some (BC.cells [CA.sref 4 0 []]),some (BC.cells [CA.sref 5 0 [],CA.sref 6 0 []]),some (BC.tree [w3]),some (BC.tree [w4]),some (BC.tree [w5]),some (BC.tree [w6])] ++ List.replicate 114 (none),[]⟩
def f29_3_S  (x0 x1 x2 x3 w4 w5 w6 w7:TV):ASt:=⟨List.replicate 4 (AV.one CA.junk) ++ [AV.one (CA.ptr 0 0),AV.one (CA.ptr 1 0),AV.one CA.junk,AV.one (CA.ptr 2 0),AV.one CA.junk,AV.one CA.junk,AV.one (CA.sref 3 0 []),AV.one CA.junk,AV.tv x0] ++ List.replicate 40 (AV.one CA.junk) ++ [AV.tv x1,AV.tv x2,AV.tv x3] ++ List.replicate 41 (AV.one CA.junk),[some (BC.cells [CA.junk,CA.junk]),some (BC.cells [CA.sref 4 0 []]),some (BC.cells [CA.sref 5 0 [],CA.sref 6 0 []]),some (BC.tree [w4]),some (BC.tree [w5]),some (BC.tree [w6]),some (BC.tree [w7])] ++ List.replicate 114 (none),[]⟩
def f29_M (x0 x1:TV):Prg TV :=
 chk (TV.isAgg x0 3) (
 call 35 [agg [cell x0 0,cell x0 1,cell x0 2]] fun v0 =>
 chk (fitsAt zSl [v0] 0) (
 tv (plen (.slice 47) (cell x0 2)) fun v1 =>
 nat (asNat v1) fun n2 =>
 nat (asNat v1) fun n3 =>
 chk (Bool.and (Nat.ble n2 n3) (Nat.ble n3 4294967296)) (
 nat (asNat v1) fun n4 =>
 nat (asNat v1) fun n5 =>
 chk (Bool.and (Nat.ble n4 n5) (Nat.ble n5 4294967296)) (
 chk (TV.isOne x1) (
 tv (plen (.slice 3) x1) fun v6 =>
 tv (pbin (.int .i64) .sub v6 (I 1)) fun v7 =>
 jmp [0,0,1,43,0,1,0,1,1,1] (f29_0_S v7 x1 (TV.lit nilV) (TV.lit nilV) v0 (TV.sl true 1 (List.replicate n2 [I 0])) (TV.sl true 1 (List.replicate n4 [I 0])) x1 v1))))))
def f29_0  (x0 y1 y2 y3 w4 w5 w6 x7 x8:TV):Prg TV :=
 tv (pbin (.int .i64) .geq x0 (I 0)) fun v8 =>
 Prg.ite (asBool v8) (
 tvs (pidx 1 y1 x0) fun e9 =>
 chk (Nat.blt 0 (List.length e9)) (
 nat (slLen w6) fun n10 =>
 nat (asNat (nth hole e9 0)) fun n11 =>
 chk (Bool.and (slSize w6 1) (Nat.blt n11 n10)) (
 tvs (pel w6 n11) fun e12 =>
 chk (fitsAt zInt e12 0) (
 tv (pbin (.int .i64) .add (nth hole e12 0) (I 1)) fun v13 =>
 nat (slLen w6) fun n14 =>
 nat (asNat (nth hole e9 0)) fun n15 =>
 chk (Bool.and (slSize w6 1) (Nat.blt n15 n14)) (
 tvs (pel w6 n15) fun e16 =>
 chk (fitsAt zInt e16 0) (
 tv (setC [] w6 n15 0 [v13]) fun v17 =>
 tv (pbin (.int .i64) .neq (nth hole e9 0) (I 0)) fun v18 =>
 Prg.ite (asBool v18) (
 nat (slLen w4) fun n19 =>
 nat (asNat (nth hole e9 0)) fun n20 =>
 chk (Bool.and (slSize w4 1) (Nat.blt n20 n19)) (
 tvs (pel w4 n20) fun e21 =>
 chk (fitsAt zInt e21 0) (
 nat (slLen v17) fun n22 =>
 nat (asNat (nth hole e21 0)) fun n23 =>
 chk (Bool.and (slSize v17 1) (Nat.blt n23 n22)) (
 tvs (pel v17 n23) fun e24 =>
 chk (fitsAt zInt e24 0) (
 nat (slLen v17) fun n25 =>
 nat (asNat (nth hole e9 0)) fun n26 =>
 chk (Bool.and (slSize v17 1) (Nat.blt n26 n25)) (
 tvs (pel v17 n26) fun e27 =>
 chk (fitsAt zInt e27 0) (
 tv (pbin (.int .i64) .add (nth hole e24 0) (nth hole e27 0)) fun v28 =>
 nat (slLen v17) fun n29 =>
 nat (asNat (nth hole e21 0)) fun n30 =>
 chk (Bool.and (slSize v17 1) (Nat.blt n30 n29)) (
 tvs (pel v17 n30) fun e31 =>
 chk (fitsAt zInt e31 0) (
 tv (setC [] v17 n30 0 [v28]) fun v32 =>
 tv (pbin (.int .i64) .sub x0 (I 1)) fun v33 =>
 jmp [0,0,1,43,0,1,0,1,1,1] (f29_0_S v33 y1 y2 y3 w4 w5 v32 x7 x8)))))))))) (
 tv (pbin (.int .i64) .sub x0 (I 1)) fun v34 =>
 jmp [0,0,1,43,0,1,0,1,1,1] (f29_0_S v34 y1 y2 y3 w4 w5 v17 x7 x8)))))))) (
 jmp [1,1,1,1] (f29_1_S x7 x8 w4 w5 w6))
def f29_1  (x0 x1 w2 w3 w4:TV):Prg TV :=
 nat (asNat x1) fun n35 =>
 nat (asNat x1) fun n36 =>
 chk (Bool.and (Nat.ble n35 n36) (Nat.ble n36 4294967296)) (
 tv (plen (.slice 3) x0) fun v37 =>
 jmp [0,0,1,0,1,1,1,1,1] (f29_2_S x0 v37 (I 0) (TV.sl true 1 (List.replicate n35 [I 0])) w2 w3 w4))
def f29_2  (x0 x1 x2 w3 w4 w5 w6:TV):Prg TV :=
 tv (pbin (.int .i64) .lss x2 x1) fun v38 =>
 Prg.ite (asBool v38) (
 tvs (pidx 1 x0 x2) fun e39 =>
 chk (Nat.blt 0 (List.length e39)) (
 tv (pbin (.int .i64) .neq (nth hole e39 0) (I 0)) fun v40 =>
 Prg.ite (asBool v40) (
 nat (slLen w4) fun n41 =>
 nat (asNat (nth hole e39 0)) fun n42 =>
 chk (Bool.and (slSize w4 1) (Nat.blt n42 n41)) (
 tvs (pel w4 n42) fun e43 =>
 chk (fitsAt zInt e43 0) (
 nat (slLen w3) fun n44 =>
 nat (asNat (nth hole e43 0)) fun n45 =>
 chk (Bool.and (slSize w3 1) (Nat.blt n45 n44)) (
 tvs (pel w3 n45) fun e46 =>
 chk (fitsAt zInt e46 0) (
 nat (slLen w5) fun n47 =>
 nat (asNat (nth hole e39 0)) fun n48 =>
 chk (Bool.and (slSize w5 1) (Nat.blt n48 n47)) (
 tvs (pel w5 n48) fun e49 =>
 chk (fitsAt zInt e49 0) (
 tv (setC [] w5 n48 0 [nth hole e46 0]) fun v50 =>
 nat (slLen w4) fun n51 =>
 nat (asNat (nth hole e39 0)) fun n52 =>
 chk (Bool.and (slSize w4 1) (Nat.blt n52 n51)) (
 tvs (pel w4 n52) fun e53 =>
 chk (fitsAt zInt e53 0) (
 nat (slLen w3) fun n54 =>
 nat (asNat (nth hole e53 0)) fun n55 =>
 chk (Bool.and (slSize w3 1) (Nat.blt n55 n54)) (
 tvs (pel w3 n55) fun e56 =>
 chk (fitsAt zInt e56 0) (
 nat (slLen w6) fun n57 =>
 nat (asNat (nth hole e39 0)) fun n58 =>
 chk (Bool.and (slSize w6 1) (Nat.blt n58 n57)) (
 tvs (pel w6 n58) fun e59 =>
 chk (fitsAt zInt e59 0) (
 tv (pbin (.int .i64) .add (nth hole e56 0) (nth hole e59 0)) fun v60 =>
 nat (slLen w3) fun n61 =>
 nat (asNat (nth hole e53 0)) fun n62 =>
 chk (Bool.and (slSize w3 1) (Nat.blt n62 n61)) (
 tvs (pel w3 n62) fun e63 =>
 chk (fitsAt zInt e63 0) (
 tv (setC [] w3 n62 0 [v60]) fun v64 =>
 jmp [1,1,0,0,1,1,0,0,1,0,1,1,1,1,1] (f29_3_S (nth hole e39 0) x0 x1 x2 v64 w4 v50 w6)))))))))))))))) (
 jmp [1,1,0,0,1,1,0,0,1,0,1,1,1,1,1] (f29_3_S (nth hole e39 0) x0 x1 x2 w3 w4 w5 w6)))) (
 chk (isOwn (agg [w5,w6])) (
 ret (agg [w5,w6])))
def f29_3  (x0 x1 x2 x3 w4 w5 w6 w7:TV):Prg TV :=
 nat (slLen w6) fun n65 =>
 nat (asNat x0) fun n66 =>
 chk (Bool.and (slSize w6 1) (Nat.blt n66 n65)) (
 tvs (pel w6 n66) fun e67 =>
 chk (fitsAt zInt e67 0) (
 tv (pbin (.int .i64) .add (nth hole e67 0) (I 1)) fun v68 =>
 nat (slLen w4) fun n69 =>
 nat (asNat x0) fun n70 =>
 chk (Bool.and (slSize w4 1) (Nat.blt n70 n69)) (
 tvs (pel w4 n70) fun e71 =>
 chk (fitsAt zInt e71 0) (
 tv (setC [] w4 n70 0 [v68]) fun v72 =>
 tv (pbin (.int .i64) .add x3 (I 1)) fun v73 =>
 jmp [0,0,1,0,1,1,1,1,1] (f29_2_S x1 x2 v73 v72 w5 w6 w7)))))
theorem f29_MR (x0 x1:TV):startQ prog 29 [x0,x1]=f29_M x0 x1:=by kernel_rfl
theorem f29_0_J  {x0 y1 y2 y3 w4 w5 w6 x7 x8:TV} {r:TV} (h:Goes prog 29 (f29_0 x0 y1 y2 y3 w4 w5 w6 x7 x8) r):Goes prog 29 (.jmp [0,0,1,43,0,1,0,1,1,1] (f29_0_S x0 y1 y2 y3 w4 w5 w6 x7 x8)) r:=Goes.jmp (by kernel_rfl) h
theorem f29_1_J  {x0 x1 w2 w3 w4:TV} {r:TV} (h:Goes prog 29 (f29_1 x0 x1 w2 w3 w4) r):Goes prog 29 (.jmp [1,1,1,1] (f29_1_S x0 x1 w2 w3 w4)) r:=Goes.jmp (by kernel_rfl) h
theorem f29_2_J  {x0 x1 x2 w3 w4 w5 w6:TV} {r:TV} (h:Goes prog 29 (f29_2 x0 x1 x2 w3 w4 w5 w6) r):Goes prog 29 (.jmp [0,0,1,0,1,1,1,1,1] (f29_2_S x0 x1 x2 w3 w4 w5 w6)) r:=Goes.jmp (by kernel_rfl) h
theorem f29_3_J  {x0 x1 x2 x3 w4 w5 w6 w7:TV} {r:TV} (h:Goes prog 29 (f29_3 x0 x1 x2 x3 w4 w5 w6 w7) r):Goes prog 29 (.jmp [1,1,0,0,1,1,0,0,1,0,1,1,1,1,1] (f29_3_S x0 x1 x2 x3 w4 w5 w6 w7)) r:=Goes.jmp (by kernel_rfl) h
def f33_M (x0:TV):Prg TV :=
 chk (TV.isAgg x0 3) (
 call 34 [agg [cell x0 0,cell x0 1,cell x0 2],TV.lit (Value.int IntKind.i64 (-1))] fun v0 =>
 chk (fitsAt zSl [v0] 0) (
 ret v0))
theorem f33_MR (x0:TV):startQ prog 33 [x0]=f33_M x0:=by kernel_rfl
def f34_0_S  (x0 x1 y2 y3 y4 w5:TV):ASt:=⟨[AV.one CA.junk,AV.tv x0,AV.one (CA.ptr 0 0),AV.one CA.junk,AV.one CA.junk,AV.one (CA.sref 1 0 []),AV.tv x1] ++ List.replicate 62 (AV.one CA.junk),[some (BC.cells [CA.t y2,CA.t y3,CA.t y4]),some (BC.tree [w5])] ++ List.replicate 91 (none),[]⟩
def f34_1_S  (x0 x1 x2 y3 y4 y5 w6:TV):ASt:=⟨[AV.one CA.junk,AV.tv x0,AV.one (CA.ptr 0 0),AV.one CA.junk,AV.one CA.junk,AV.one (CA.sref 1 0 []),AV.tv x1,AV.tv x2] ++ List.replicate 61 (AV.one CA.junk),[some (BC.cells [CA.t y3,CA.t y4,CA.t y5]),some (BC.tree [w6])] ++ List.replicate 91 (none),[]⟩
def f34_2_S  (x0 x1 x2 x3 y4 y5 y6 w7 w8:TV):ASt:=⟨[AV.one CA.junk,AV.tv x0,AV.one (CA.ptr 0 0),AV.one CA.junk,AV.one CA.junk,AV.one (CA.sref 1 0 []),AV.tv x1,AV.tv x2,AV.one (CA.sref 2 0 []),AV.tv x3] ++ List.replicate 59 (AV.one CA.junk),[some (BC.cells [CA.t y4,CA.t y5,CA.t y6]),some (BC.tree [w7]),some (BC.tree [w8])] ++ List.replicate 90 (none),[]⟩
def f34_M (x0 x1:TV):Prg TV :=
 chk (TV.isAgg x0 3) (
 tv (plen (.slice 47) (cell x0 2)) fun v0 =>
 nat (asNat v0) fun n1 =>
 nat (asNat v0) fun n2 =>
 chk (Bool.and (Nat.ble n1 n2) (Nat.ble n2 4294967296)) (
 tv (plen (.slice 4) (TV.sl true 1 (List.replicate n1 [B false]))) fun v3 =>
 tv (pbin (.int .i64) .eql v3 (I 0)) fun v4 =>
 Prg.ite (asBool v4) (
 ret (TV.sl true 1 (List.replicate n1 [B false]))) (
 tv (pbin (.int .i64) .eql x1 (I 0)) fun v5 =>
 Prg.ite (asBool v5) (
 ret (TV.sl true 1 (List.replicate n1 [B false]))) (
 nat (slLen (TV.sl true 1 (List.replicate n1 [B false]))) fun n6 =>
 nat (asNat (I 0)) fun n7 =>
 chk (Bool.and (slSize (TV.sl true 1 (List.replicate n1 [B false])) 1) (Nat.blt n7 n6)) (
 tvs (pel (TV.sl true 1 (List.replicate n1 [B false])) n7) fun e8 =>
 chk (fitsAt zBool e8 0) (
 tv (setC [] (TV.sl true 1 (List.replicate n1 [B false])) n7 0 [B true]) fun v9 =>
 jmp [0,0,1,0,1,1,1,1] (f34_0_S x1 (B true) (cell x0 0) (cell x0 1) (cell x0 2) v9)))))))
def f34_0  (x0 x1 y2 y3 y4 w5:TV):Prg TV :=
 Prg.ite (asBool x1) (
 jmp [0,0,1,1,0,1,0,0,1,0,1,1,1,1] (f34_1_S x0 (B false) (I 0) y2 y3 y4 w5)) (
 ret w5)
def f34_1  (x0 x1 x2 y3 y4 y5 w6:TV):Prg TV :=
 tv (plen (.slice 4) w6) fun v10 =>
 tv (pbin (.int .i64) .lss x2 v10) fun v11 =>
 Prg.ite (asBool v11) (
 call 20 [agg [y3,y4,y5],x2] fun v12 =>
 chk (fitsAt zSl [v12] 0) (
 jmp [0,0,1,1,0,0,1,0,0,1,1,0,1,0,0,1,0,1,1,1,1] (f34_2_S x0 x1 x2 (I 0) y3 y4 y5 w6 v12))) (
 jmp [0,0,1,0,1,1,1,1] (f34_0_S x0 x1 y3 y4 y5 w6))
def f34_2  (x0 x1 x2 x3 y4 y5 y6 w7 w8:TV):Prg TV :=
 tv (plen (.slice 3) w8) fun v13 =>
 tv (pbin (.int .i64) .lss x3 v13) fun v14 =>
 Prg.ite (asBool v14) (
 nat (slLen w7) fun n15 =>
 nat (asNat x2) fun n16 =>
 chk (Bool.and (slSize w7 1) (Nat.blt n16 n15)) (
 tvs (pel w7 n16) fun e17 =>
 chk (fitsAt zBool e17 0) (
 Prg.ite (asBool (nth hole e17 0)) (
 nat (slLen w8) fun n18 =>
 nat (asNat x3) fun n19 =>
 chk (Bool.and (slSize w8 1) (Nat.blt n19 n18)) (
 tvs (pel w8 n19) fun e20 =>
 chk (fitsAt zInt e20 0) (
 tv (pbin (.int .i64) .neq (nth hole e20 0) x0) fun v21 =>
 Prg.ite (asBool v21) (
 nat (slLen w8) fun n22 =>
 nat (asNat x3) fun n23 =>
 chk (Bool.and (slSize w8 1) (Nat.blt n23 n22)) (
 tvs (pel w8 n23) fun e24 =>
 chk (fitsAt zInt e24 0) (
 nat (slLen w7) fun n25 =>
 nat (asNat (nth hole e24 0)) fun n26 =>
 chk (Bool.and (slSize w7 1) (Nat.blt n26 n25)) (
 tvs (pel w7 n26) fun e27 =>
 chk (fitsAt zBool e27 0) (
 tv (pun .not (nth hole e27 0)) fun v28 =>
 Prg.ite (asBool v28) (
 nat (slLen w8) fun n29 =>
 nat (asNat x3) fun n30 =>
 chk (Bool.and (slSize w8 1) (Nat.blt n30 n29)) (
 tvs (pel w8 n30) fun e31 =>
 chk (fitsAt zInt e31 0) (
 nat (slLen w7) fun n32 =>
 nat (asNat (nth hole e31 0)) fun n33 =>
 chk (Bool.and (slSize w7 1) (Nat.blt n33 n32)) (
 tvs (pel w7 n33) fun e34 =>
 chk (fitsAt zBool e34 0) (
 tv (setC [] w7 n33 0 [B true]) fun v35 =>
 tv (pbin (.int .i64) .add x3 (I 1)) fun v36 =>
 jmp [0,0,1,1,0,0,1,0,0,1,1,0,1,0,0,1,0,1,1,1,1] (f34_2_S x0 (B true) x2 v36 y4 y5 y6 v35 w8)))))) (
 tv (pbin (.int .i64) .add x3 (I 1)) fun v37 =>
 jmp [0,0,1,1,0,0,1,0,0,1,1,0,1,0,0,1,0,1,1,1,1] (f34_2_S x0 x1 x2 v37 y4 y5 y6 w7 w8))))))) (
 tv (pbin (.int .i64) .add x3 (I 1)) fun v38 =>
 jmp [0,0,1,1,0,0,1,0,0,1,1,0,1,0,0,1,0,1,1,1,1] (f34_2_S x0 x1 x2 v38 y4 y5 y6 w7 w8))))) (
 tv (pbin (.int .i64) .add x3 (I 1)) fun v39 =>
 jmp [0,0,1,1,0,0,1,0,0,1,1,0,1,0,0,1,0,1,1,1,1] (f34_2_S x0 x1 x2 v39 y4 y5 y6 w7 w8))))) (
 tv (pbin (.int .i64) .add x2 (I 1)) fun v40 =>
 jmp [0,0,1,1,0,1,0,0,1,0,1,1,1,1] (f34_1_S x0 x1 v40 y4 y5 y6 w7))
theorem f34_MR (x0 x1:TV):startQ prog 34 [x0,x1]=f34_M x0 x1:=by kernel_rfl
theorem f34_0_J  {x0 x1 y2 y3 y4 w5:TV} {r:TV} (h:Goes prog 34 (f34_0 x0 x1 y2 y3 y4 w5) r):Goes prog 34 (.jmp [0,0,1,0,1,1,1,1] (f34_0_S x0 x1 y2 y3 y4 w5)) r:=Goes.jmp (by kernel_rfl) h
theorem f34_1_J  {x0 x1 x2 y3 y4 y5 w6:TV} {r:TV} (h:Goes prog 34 (f34_1 x0 x1 x2 y3 y4 y5 w6) r):Goes prog 34 (.jmp [0,0,1,1,0,1,0,0,1,0,1,1,1,1] (f34_1_S x0 x1 x2 y3 y4 y5 w6)) r:=Goes.jmp (by kernel_rfl) h
theorem f34_2_J  {x0 x1 x2 x3 y4 y5 y6 w7 w8:TV} {r:TV} (h:Goes prog 34 (f34_2 x0 x1 x2 x3 y4 y5 y6 w7 w8) r):Goes prog 34 (.jmp [0,0,1,1,0,0,1,0,0,1,1,0,1,0,0,1,0,1,1,1,1] (f34_2_S x0 x1 x2 x3 y4 y5 y6 w7 w8)) r:=Goes.jmp (by kernel_rfl) h
end Go.Ab.L9

import Derived.Test.YtjdjnejdjhfmcabNN10T
import Derived.Test.YtjdjnejdjhfmcabNN10Xb
import Derived.OpenShut
section
set_option linter.unusedVariables false
set_option maxRecDepth 100000
namespace Go.Ab.N10
open Go Go.Ab Go.Proofs
open Go.Ab.TV (hole cell comp isSl isSc isTup cellsL tup agg)
open Go.Ab.Prg (tv tvs rws nat chk call jmp ret)
def f11_0_S  (x0 y1 y2 y3 w4 w5 w6 x7 x8:TV):ASt:=⟨[AV.one (CA.yl 0),AV.one (CA.ptr 0 0),AV.one CA.junk,AV.tv x0] ++ List.replicate 15 (AV.one CA.junk),[some (BC.cells [CA.t y1]),some (BC.cells [CA.t y2,CA.t y3]),some (BC.cells [CA.sref 4 0 []]),some (BC.cells [CA.sref 5 0 [],CA.sref 6 0 []]),some (BC.tree [w4]),some (BC.tree [w5]),some (BC.tree [w6])] ++ List.replicate 133 (none),([AV.one CA.junk,AV.tv x7,AV.one CA.junk,AV.one CA.junk,AV.one (CA.ptr 1 0),AV.one (CA.ptr 2 0),AV.tv x8,AV.one (CA.ptr 3 0)] ++ List.replicate 16 (AV.one CA.junk) ++ [AV.clo 24 [CA.ptr 0 0]] ++ List.replicate 72 (AV.one CA.junk))⟩
def f11_1_S  (x0 x1 w2 w3 w4:TV):ASt:=⟨[AV.one CA.junk,AV.tv x0,AV.one CA.junk,AV.one CA.junk,AV.one (CA.ptr 0 0),AV.one (CA.ptr 1 0),AV.tv x1,AV.one (CA.ptr 2 0)] ++ List.replicate 89 (AV.one CA.junk),[some (BC.cells [CA.junk,CA.junk]),some (BC.cells [CA.sref 3 0 []]),some (BC.cells [CA.sref 4 0 [],CA.sref 5 0 []]),some (BC.tree [w2]),some (BC.tree [w3]),some (BC.tree [w4])] ++ List.replicate 115 (none),[]⟩
def f11_2_S  (x0 x1 x2 w3 w4 w5 w6:TV):ASt:=⟨List.replicate 4 (AV.one CA.junk) ++ [AV.one (CA.ptr 0 0),AV.one (CA.ptr 1 0),AV.one CA.junk,AV.one (CA.ptr 2 0),AV.one CA.junk,AV.one CA.junk,AV.one (CA.sref 3 0 [])] ++ List.replicate 42 (AV.one CA.junk) ++ [AV.tv x0,AV.tv x1,AV.tv x2] ++ List.replicate 41 (AV.one CA.junk),[some (BC.cells [CA.junk,CA.junk]),some (BC.cells [CA.sref 4 0 []]),some (BC.cells [CA.sref 5 0 [],CA.sref 6 0 []]),some (BC.tree [w3]),some (BC.tree [w4]),some (BC.tree [w5]),some (BC.tree [w6])] ++ List.replicate 114 (none),[]⟩
def f11_3_S  (x0 x1 x2 x3 w4 w5 w6 w7:TV):ASt:=⟨List.replicate 4 (AV.one CA.junk) ++ [AV.one (CA.ptr 0 0),AV.one (CA.ptr 1 0),AV.one CA.junk,AV.one (CA.ptr 2 0),AV.one CA.junk,AV.one CA.junk,AV.one (CA.sref 3 0 []),AV.one CA.junk,AV.tv x0] ++ List.replicate 40 (AV.one CA.junk) ++ [AV.tv x1,AV.tv x2,AV.tv x3] ++ List.replicate 41 (AV.one CA.junk),[some (BC.cells [CA.junk,CA.junk]),some (BC.cells [CA.sref 4 0 []]),some (BC.cells [CA.sref 5 0 [],CA.sref 6 0 []]),some (BC.tree [w4]),some (BC.tree [w5]),some (BC.tree [w6]),some (BC.tree [w7])] ++ List.replicate 114 (none),[]⟩
def f11_M (x0 x1:TV):Prg TV :=
 chk (TV.isAgg x0 3) (
 call 19 [agg [cell x0 0,cell x0 1,cell x0 2]] fun v0 =>
 chk (fitsAt zSl [v0] 0) (
 tv (plen (.slice 34) (cell x0 2)) fun v1 =>
 nat (asNat v1) fun n2 =>
 nat (asNat v1) fun n3 =>
 chk (Bool.and (Nat.ble n2 n3) (Nat.ble n3 4294967296)) (
 nat (asNat v1) fun n4 =>
 nat (asNat v1) fun n5 =>
 chk (Bool.and (Nat.ble n4 n5) (Nat.ble n5 4294967296)) (
 chk (TV.isOne x1) (
 tv (plen (.slice 3) x1) fun v6 =>
 tv (pbin (.int .i64) .sub v6 (I 1)) fun v7 =>
 jmp [0,0,1,24,0,1,0,1,1,1] (f11_0_S v7 x1 (TV.lit nilV) (TV.lit nilV) v0 (TV.sl true 1 (List.replicate n2 [I 0])) (TV.sl true 1 (List.replicate n4 [I 0])) x1 v1))))))
def f11_0  (x0 y1 y2 y3 w4 w5 w6 x7 x8:TV):Prg TV :=
 tv (pbin (.int .i64) .geq x0 (I 0)) fun v8 =>
 Prg.ite (asBool v8) (
 tvs (pidx 1 y1 x0) fun e9 =>
 chk (Nat.blt 0 (List.length e9)) (
 nat (slLen w6) fun n10 =>
 nat (asNat (nth hole e9 0)) fun n11 =>
 chk (Bool.and (slSize w6 1) (Nat.blt n11 n10)) (
 tvs (pel w6 n11) fun e12 =>
 chk (fitsAt zInt e12 0) (
 tv (pbin (.int .i64) .add (nth hole e12 0) (I 1)) fun v13 =>
 nat (slLen w6) fun n14 =>
 nat (asNat (nth hole e9 0)) fun n15 =>
 chk (Bool.and (slSize w6 1) (Nat.blt n15 n14)) (
 tvs (pel w6 n15) fun e16 =>
 chk (fitsAt zInt e16 0) (
 tv (setC [] w6 n15 0 [v13]) fun v17 =>
 tv (pbin (.int .i64) .neq (nth hole e9 0) (I 0)) fun v18 =>
 Prg.ite (asBool v18) (
 nat (slLen w4) fun n19 =>
 nat (asNat (nth hole e9 0)) fun n20 =>
 chk (Bool.and (slSize w4 1) (Nat.blt n20 n19)) (
 tvs (pel w4 n20) fun e21 =>
 chk (fitsAt zInt e21 0) (
 nat (slLen v17) fun n22 =>
 nat (asNat (nth hole e21 0)) fun n23 =>
 chk (Bool.and (slSize v17 1) (Nat.blt n23 n22)) (
 tvs (pel v17 n23) fun e24 =>
 chk (fitsAt zInt e24 0) (
 nat (slLen v17) fun n25 =>
 nat (asNat (nth hole e9 0)) fun n26 =>
 chk (Bool.and (slSize v17 1) (Nat.blt n26 n25)) (
 tvs (pel v17 n26) fun e27 =>
 chk (fitsAt zInt e27 0) (
 tv (pbin (.int .i64) .add (nth hole e24 0) (nth hole e27 0)) fun v28 =>
 nat (slLen v17) fun n29 =>
 nat (asNat (nth hole e21 0)) fun n30 =>
 chk (Bool.and (slSize v17 1) (Nat.blt n30 n29)) (
 tvs (pel v17 n30) fun e31 =>
 chk (fitsAt zInt e31 0) (
 tv (setC [] v17 n30 0 [v28]) fun v32 =>
 tv (pbin (.int .i64) .sub x0 (I 1)) fun v33 =>
 jmp [0,0,1,24,0,1,0,1,1,1] (f11_0_S v33 y1 y2 y3 w4 w5 v32 x7 x8)))))))))) (
 tv (pbin (.int .i64) .sub x0 (I 1)) fun v34 =>
 jmp [0,0,1,24,0,1,0,1,1,1] (f11_0_S v34 y1 y2 y3 w4 w5 v17 x7 x8)))))))) (
 jmp [1,1,1,1] (f11_1_S x7 x8 w4 w5 w6))
def f11_1  (x0 x1 w2 w3 w4:TV):Prg TV :=
 nat (asNat x1) fun n35 =>
 nat (asNat x1) fun n36 =>
 chk (Bool.and (Nat.ble n35 n36) (Nat.ble n36 4294967296)) (
 tv (plen (.slice 3) x0) fun v37 =>
 jmp [0,0,1,0,1,1,1,1,1] (f11_2_S x0 v37 (I 0) (TV.sl true 1 (List.replicate n35 [I 0])) w2 w3 w4))
def f11_2  (x0 x1 x2 w3 w4 w5 w6:TV):Prg TV :=
 tv (pbin (.int .i64) .lss x2 x1) fun v38 =>
 Prg.ite (asBool v38) (
 tvs (pidx 1 x0 x2) fun e39 =>
 chk (Nat.blt 0 (List.length e39)) (
 tv (pbin (.int .i64) .neq (nth hole e39 0) (I 0)) fun v40 =>
 Prg.ite (asBool v40) (
 nat (slLen w4) fun n41 =>
 nat (asNat (nth hole e39 0)) fun n42 =>
 chk (Bool.and (slSize w4 1) (Nat.blt n42 n41)) (
 tvs (pel w4 n42) fun e43 =>
 chk (fitsAt zInt e43 0) (
 nat (slLen w3) fun n44 =>
 nat (asNat (nth hole e43 0)) fun n45 =>
 chk (Bool.and (slSize w3 1) (Nat.blt n45 n44)) (
 tvs (pel w3 n45) fun e46 =>
 chk (fitsAt zInt e46 0) (
 nat (slLen w5) fun n47 =>
 nat (asNat (nth hole e39 0)) fun n48 =>
 chk (Bool.and (slSize w5 1) (Nat.blt n48 n47)) (
 tvs (pel w5 n48) fun e49 =>
 chk (fitsAt zInt e49 0) (
 tv (setC [] w5 n48 0 [nth hole e46 0]) fun v50 =>
 nat (slLen w4) fun n51 =>
 nat (asNat (nth hole e39 0)) fun n52 =>
 chk (Bool.and (slSize w4 1) (Nat.blt n52 n51)) (
 tvs (pel w4 n52) fun e53 =>
 chk (fitsAt zInt e53 0) (
 nat (slLen w3) fun n54 =>
 nat (asNat (nth hole e53 0)) fun n55 =>
 chk (Bool.and (slSize w3 1) (Nat.blt n55 n54)) (
 tvs (pel w3 n55) fun e56 =>
 chk (fitsAt zInt e56 0) (
 nat (slLen w6) fun n57 =>
 nat (asNat (nth hole e39 0)) fun n58 =>
 chk (Bool.and (slSize w6 1) (Nat.blt n58 n57)) (
 tvs (pel w6 n58) fun e59 =>
 chk (fitsAt zInt e59 0) (
 tv (pbin (.int .i64) .add (nth hole e56 0) (nth hole e59 0)) fun v60 =>
 nat (slLen w3) fun n61 =>
 nat (asNat (nth hole e53 0)) fun n62 =>
 chk (Bool.and (slSize w3 1) (Nat.blt n62 n61)) (
 tvs (pel w3 n62) fun e63 =>
 chk (fitsAt zInt e63 0) (
 tv (setC [] w3 n62 0 [v60]) fun v64 =>
 jmp [1,1,0,0,1,1,0,0,1,0,1,1,1,1,1] (f11_3_S (nth hole e39 0) x0 x1 x2 v64 w4 v50 w6)))))))))))))))) (
 jmp [1,1,0,0,1,1,0,0,1,0,1,1,1,1,1] (f11_3_S (nth hole e39 0) x0 x1 x2 w3 w4 w5 w6)))) (
 chk (isOwn (agg [w5,w6])) (
 ret (agg [w5,w6])))
def f11_3  (x0 x1 x2 x3 w4 w5 w6 w7:TV):Prg TV :=
 nat (slLen w6) fun n65 =>
 nat (asNat x0) fun n66 =>
 chk (Bool.and (slSize w6 1) (Nat.blt n66 n65)) (
 tvs (pel w6 n66) fun e67 =>
 chk (fitsAt zInt e67 0) (
 tv (pbin (.int .i64) .add (nth hole e67 0) (I 1)) fun v68 =>
 nat (slLen w4) fun n69 =>
 nat (asNat x0) fun n70 =>
 chk (Bool.and (slSize w4 1) (Nat.blt n70 n69)) (
 tvs (pel w4 n70) fun e71 =>
 chk (fitsAt zInt e71 0) (
 tv (setC [] w4 n70 0 [v68]) fun v72 =>
 tv (pbin (.int .i64) .add x3 (I 1)) fun v73 =>
 jmp [0,0,1,0,1,1,1,1,1] (f11_2_S x1 x2 v73 v72 w5 w6 w7)))))
theorem f11_MR (x0 x1:TV):startQ prog 11 [x0,x1]=f11_M x0 x1:=by kernel_rfl
theorem f11_0_J  {x0 y1 y2 y3 w4 w5 w6 x7 x8:TV} {r:TV} (h:Goes prog 11 (f11_0 x0 y1 y2 y3 w4 w5 w6 x7 x8) r):Goes prog 11 (.jmp [0,0,1,24,0,1,0,1,1,1] (f11_0_S x0 y1 y2 y3 w4 w5 w6 x7 x8)) r:=Goes.jmp (by kernel_rfl) h
theorem f11_1_J  {x0 x1 w2 w3 w4:TV} {r:TV} (h:Goes prog 11 (f11_1 x0 x1 w2 w3 w4) r):Goes prog 11 (.jmp [1,1,1,1] (f11_1_S x0 x1 w2 w3 w4)) r:=Goes.jmp (by kernel_rfl) h
theorem f11_2_J  {x0 x1 x2 w3 w4 w5 w6:TV} {r:TV} (h:Goes prog 11 (f11_2 x0 x1 x2 w3 w4 w5 w6) r):Goes prog 11 (.jmp [0,0,1,0,1,1,1,1,1] (f11_2_S x0 x1 x2 w3 w4 w5 w6)) r:=Goes.jmp (by kernel_rfl) h
theorem f11_3_J  {x0 x1 x2 x3 w4 w5 w6 w7:TV} {r:TV} (h:Goes prog 11 (f11_3 x0 x1 x2 x3 w4 w5 w6 w7) r):Goes prog 11 (.jmp [1,1,0,0,1,1,0,0,1,0,1,1,1,1,1] (f11_3_S x0 x1 x2 x3 w4 w5 w6 w7)) r:=Goes.jmp (by kernel_rfl) h
def f12_0_S  (y0 y1 y2 w3:TV):ASt:=⟨[AV.one CA.junk,AV.one CA.junk,AV.one (CA.ptr 0 0),AV.one CA.junk,AV.one CA.junk,AV.one CA.junk,AV.one (CA.sref 1 0 [])] ++ List.replicate 24 (AV.one CA.junk),[some (BC.cells [CA.t y0,CA.t y1,CA.t y2]),some (BC.tree [w3])] ++ List.replicate 53 (none),[]⟩
def f12_1_S  (x0 x1 w2 y3 y4 y5:TV):ASt:=⟨[AV.one (CA.sref 0 0 []),AV.clo 23 [CA.ptr 1 0]] ++ List.replicate 5 (AV.one CA.junk) ++ [AV.tv x0,AV.tv x1] ++ List.replicate 10 (AV.one CA.junk),[some (BC.tree [w2]),some (BC.cells [CA.t y3,CA.t y4,CA.t y5])] ++ List.replicate 114 (none),(List.replicate 31 (AV.one CA.junk) ++ [AV.one (CA.sref 0 0 []),AV.clo 23 [CA.ptr 1 0]] ++ List.replicate 40 (AV.one CA.junk))⟩
def f12_2_S  (x0 x1 w2 y3 y4 y5:TV):ASt:=⟨[AV.one (CA.sref 0 0 []),AV.clo 23 [CA.ptr 1 0],AV.one CA.junk,AV.one CA.junk,AV.one CA.junk,AV.tv x0,AV.tv x1] ++ List.replicate 35 (AV.one CA.junk),[some (BC.tree [w2]),some (BC.cells [CA.t y3,CA.t y4,CA.t y5])] ++ List.replicate 95 (none),List.replicate 31 (AV.one CA.junk)⟩
def f12_3_S  (x0 w1:TV):ASt:=⟨[AV.one (CA.sref 0 0 [])] ++ List.replicate 4 (AV.one CA.junk) ++ [AV.tv x0] ++ List.replicate 36 (AV.one CA.junk),[some (BC.tree [w1])] ++ List.replicate 96 (none),List.replicate 31 (AV.one CA.junk)⟩
def f12_M (x0 x1:TV):Prg TV :=
 chk (TV.isAgg x0 3) (
 call 20 [agg [cell x0 0,cell x0 1,cell x0 2],x1] fun v0 =>
 chk (fitsAt zBool [v0] 0) (
 tv (pun .not v0) fun v1 =>
 Prg.ite (asBool v1) (
 chk true (
 ret (TV.lit nilV))) (
 tvs (pidx 14 (cell x0 2) x1) fun e2 =>
 chk (Nat.ble 14 (List.length e2)) (
 call 21 [agg [nth hole e2 0,nth hole e2 1,nth hole e2 2,nth hole e2 3,nth hole e2 4,nth hole e2 5,nth hole e2 6,nth hole e2 7,nth hole e2 8,nth hole e2 9,nth hole e2 10,nth hole e2 11,nth hole e2 12,nth hole e2 13]] fun v3 =>
 chk (fitsAt zSl [v3] 0) (
 tv (pbin (.int .i64) .eql (nth hole e2 6) (I 4)) fun v4 =>
 Prg.ite (asBool v4) (
 rws (pelems 1 (TV.sl true 1 (chunks 1 1 [nth hole e2 13]))) fun r5 =>
 tv (papp 1 v3 (lfLL r5)) fun v6 =>
 jmp [1,1,1,1,1] (f12_0_S (cell x0 0) (cell x0 1) (cell x0 2) v6)) (
 jmp [1,1,1,1,1] (f12_0_S (cell x0 0) (cell x0 1) (cell x0 2) v3)))))))
def f12_0  (y0 y1 y2 w3:TV):Prg TV :=
 tv (plen (.slice 3) w3) fun v7 =>
 jmp [0,0,1,0,1,6,0,1,6,0,1,1,1,1,1] (f12_1_S v7 (I 0) w3 y0 y1 y2)
def f12_1  (x0 x1 w2 y3 y4 y5:TV):Prg TV :=
 tv (pbin (.int .i64) .lss x1 x0) fun v8 =>
 Prg.ite (asBool v8) (
 nat (slLen w2) fun n9 =>
 nat (asNat x1) fun n10 =>
 chk (Bool.and (slSize w2 1) (Nat.blt n10 n9)) (
 tvs (pel w2 n10) fun e11 =>
 chk (fitsAt zInt e11 0) (
 call 20 [agg [y3,y4,y5],nth hole e11 0] fun v12 =>
 chk (fitsAt zBool [v12] 0) (
 tv (pun .not v12) fun v13 =>
 Prg.ite (asBool v13) (
 tv (pbin (.int .i64) .eql x1 (TV.lit (Value.int IntKind.i64 (-1)))) fun v14 =>
 Prg.ite (asBool v14) (
 chk (isOwn w2) (
 ret w2)) (
 tv (pbin (.int .i64) .add x1 (I 1)) fun v15 =>
 jmp [0,0,1,0,1,1,1,6,0,1,1,1,1,1] (f12_2_S x1 v15 w2 y3 y4 y5))) (
 tv (pbin (.int .i64) .add x1 (I 1)) fun v16 =>
 jmp [0,0,1,0,1,6,0,1,6,0,1,1,1,1,1] (f12_1_S x0 v16 w2 y3 y4 y5)))))) (
 tv (pbin (.int .i64) .eql (TV.lit (Value.int IntKind.i64 (-1))) (TV.lit (Value.int IntKind.i64 (-1)))) fun v17 =>
 Prg.ite (asBool v17) (
 chk (isOwn w2) (
 ret w2)) (
 tv (pbin (.int .i64) .add (TV.lit (Value.int IntKind.i64 (-1))) (I 1)) fun v18 =>
 jmp [0,0,1,0,1,1,1,6,0,1,1,1,1,1] (f12_2_S (TV.lit (Value.int IntKind.i64 (-1))) v18 w2 y3 y4 y5)))
def f12_2  (x0 x1 w2 y3 y4 y5:TV):Prg TV :=
 tv (plen (.slice 3) w2) fun v19 =>
 tv (pbin (.int .i64) .lss x1 v19) fun v20 =>
 Prg.ite (asBool v20) (
 nat (slLen w2) fun n21 =>
 nat (asNat x1) fun n22 =>
 chk (Bool.and (slSize w2 1) (Nat.blt n22 n21)) (
 tvs (pel w2 n22) fun e23 =>
 chk (fitsAt zInt e23 0) (
 call 20 [agg [y3,y4,y5],nth hole e23 0] fun v24 =>
 chk (fitsAt zBool [v24] 0) (
 tv (pun .not v24) fun v25 =>
 tv (pun .not v25) fun v26 =>
 Prg.ite (asBool v26) (
 nat (slLen w2) fun n27 =>
 nat (asNat x0) fun n28 =>
 chk (Bool.and (slSize w2 1) (Nat.blt n28 n27)) (
 tvs (pel w2 n28) fun e29 =>
 chk (fitsAt zInt e29 0) (
 tv (setC [] w2 n28 0 [nth hole e23 0]) fun v30 =>
 tv (pbin (.int .i64) .add x0 (I 1)) fun v31 =>
 tv (pbin (.int .i64) .add x1 (I 1)) fun v32 =>
 jmp [0,0,1,0,1,1,1,6,0,1,1,1,1,1] (f12_2_S v31 v32 v30 y3 y4 y5)))) (
 tv (pbin (.int .i64) .add x1 (I 1)) fun v33 =>
 jmp [0,0,1,0,1,1,1,6,0,1,1,1,1,1] (f12_2_S x0 v33 w2 y3 y4 y5)))))) (
 jmp [1,1,1,1,6,0,1,1,1,1,1] (f12_3_S x0 w2))
def f12_3  (x0 w1:TV):Prg TV :=
 nat (slLen w1) fun n34 =>
 nat (asNat x0) fun n35 =>
 chk (Bool.and (Bool.and (slSize w1 1) (Nat.ble (Option.getD (some n35) 0) (Option.getD none n34))) (Nat.ble (Option.getD none n34) n34)) (
 tv (pclear 1 [I 0] (Option.getD (some n35) 0) ((Option.getD none n34) - (Option.getD (some n35) 0)) w1) fun v36 =>
 nat (slLen v36) fun n37 =>
 nat (asNat x0) fun n38 =>
 chk (Bool.and (Bool.and (slSize v36 1) (Nat.ble 0 (Option.getD (some n38) n37))) (Nat.ble (Option.getD (some n38) n37) n37)) (
 tv (winP 0 ((Option.getD (some n38) n37) - 0) v36) fun v39 =>
 chk (isOwn v39) (
 ret v39)))
theorem f12_MR (x0 x1:TV):startQ prog 12 [x0,x1]=f12_M x0 x1:=by kernel_rfl
theorem f12_0_J  {y0 y1 y2 w3:TV} {r:TV} (h:Goes prog 12 (f12_0 y0 y1 y2 w3) r):Goes prog 12 (.jmp [1,1,1,1,1] (f12_0_S y0 y1 y2 w3)) r:=Goes.jmp (by kernel_rfl) h
theorem f12_1_J  {x0 x1 w2 y3 y4 y5:TV} {r:TV} (h:Goes prog 12 (f12_1 x0 x1 w2 y3 y4 y5) r):Goes prog 12 (.jmp [0,0,1,0,1,6,0,1,6,0,1,1,1,1,1] (f12_1_S x0 x1 w2 y3 y4 y5)) r:=Goes.jmp (by kernel_rfl) h
theorem f12_2_J  {x0 x1 w2 y3 y4 y5:TV} {r:TV} (h:Goes prog 12 (f12_2 x0 x1 w2 y3 y4 y5) r):Goes prog 12 (.jmp [0,0,1,0,1,1,1,6,0,1,1,1,1,1] (f12_2_S x0 x1 w2 y3 y4 y5)) r:=Goes.jmp (by kernel_rfl) h
theorem f12_3_J  {x0 w1:TV} {r:TV} (h:Goes prog 12 (f12_3 x0 w1) r):Goes prog 12 (.jmp [1,1,1,1,6,0,1,1,1,1,1] (f12_3_S x0 w1)) r:=Goes.jmp (by kernel_rfl) h
def f19_0_S  (y0 y1 y2 w3 w4 w5:TV):ASt:=⟨[AV.one CA.junk,AV.one (CA.ptr 0 0),AV.one CA.junk,AV.one (CA.ptr 1 0)] ++ List.replicate 44 (AV.one CA.junk),[some (BC.cells [CA.t y0,CA.t y1,CA.t y2]),some (BC.cells [CA.sref 2 0 [],CA.sref 2 1 [],CA.sref 2 2 []]),some (BC.tree [w3,w4,w5])] ++ List.replicate 69 (none),[]⟩
def f19_1_S  (x0 x1 y2 y3 y4 w5 w6 w7:TV):ASt:=⟨[AV.one CA.junk,AV.one (CA.ptr 0 0),AV.one CA.junk,AV.tv x0,AV.tv x1] ++ List.replicate 28 (AV.one CA.junk),[some (BC.cells [CA.sref 3 0 [],CA.sref 3 1 [],CA.sref 3 2 []]),some (BC.cells [CA.t y2,CA.t y3,CA.t y4]),some (BC.cells [CA.sref 3 0 [],CA.sref 3 1 [],CA.sref 3 2 []]),some (BC.tree [w5,w6,w7])] ++ List.replicate 101 (none),([AV.one CA.junk,AV.one (CA.ptr 1 0),AV.one CA.junk,AV.one (CA.ptr 2 0)] ++ List.replicate 44 (AV.one CA.junk))⟩
def f19_2_S  (y0 y1 y2 w3 w4 w5:TV):ASt:=⟨[AV.one CA.junk,AV.one (CA.ptr 0 0),AV.one CA.junk,AV.one (CA.ptr 1 0)] ++ List.replicate 44 (AV.one CA.junk),[some (BC.cells [CA.t y0,CA.t y1,CA.t y2]),some (BC.cells [CA.sref 2 0 [],CA.sref 2 1 [],CA.sref 2 2 []]),some (BC.tree [w3,w4,w5])] ++ List.replicate 69 (none),[]⟩
def f19_3_S  (x0 x1 w2 w3 w4 w5:TV):ASt:=⟨[AV.one CA.junk,AV.one CA.junk,AV.one CA.junk,AV.one (CA.ptr 0 0),AV.one (CA.sref 1 0 [])] ++ List.replicate 11 (AV.one CA.junk) ++ [AV.tv x0,AV.tv x1] ++ List.replicate 30 (AV.one CA.junk),[some (BC.cells [CA.sref 2 0 [],CA.sref 2 1 [],CA.sref 2 2 []]),some (BC.tree [w2]),some (BC.tree [w3,w4,w5])] ++ List.replicate 69 (none),[]⟩
def f19_4_S  (w0 w1 w2 w3:TV):ASt:=⟨[AV.one CA.junk,AV.one CA.junk,AV.one CA.junk,AV.one (CA.ptr 0 0),AV.one (CA.sref 1 0 [])] ++ List.replicate 43 (AV.one CA.junk),[some (BC.cells [CA.sref 2 0 [],CA.sref 2 1 [],CA.sref 2 2 []]),some (BC.tree [w0]),some (BC.tree [w1,w2,w3])] ++ List.replicate 69 (none),[]⟩
def f19_5_S  (x0 w1 w2 w3 w4:TV):ASt:=⟨[AV.one CA.junk,AV.one CA.junk,AV.one CA.junk,AV.one (CA.ptr 0 0),AV.one (CA.sref 1 0 []),AV.one CA.junk,AV.tv x0] ++ List.replicate 41 (AV.one CA.junk),[some (BC.cells [CA.sref 2 0 [],CA.sref 2 1 [],CA.sref 2 2 []]),some (BC.tree [w1]),some (BC.tree [w2,w3,w4])] ++ List.replicate 69 (none),[]⟩
def f19_M (x0:TV):Prg TV :=
 chk (TV.isAgg x0 3) (
 call 28 [agg [cell x0 0,cell x0 1,cell x0 2]] fun v0 =>
 chk (Bool.and (TV.isAgg v0 3) (fitsAt z74 (cellsL true v0) 0)) (
 jmp [0,0,0,1,1] (f19_0_S (cell x0 0) (cell x0 1) (cell x0 2) (cell v0 0) (cell v0 1) (cell v0 2))))
def f19_0  (y0 y1 y2 w3 w4 w5:TV):Prg TV :=
 jmp [0,0,1,0,1,1,4,0,0,0,0,0,1,1] (f19_1_S (B false) (I 1) y0 y1 y2 w3 w4 w5)
def f19_1  (x0 x1 y2 y3 y4 w5 w6 w7:TV):Prg TV :=
 tv (plen (.slice 3) w7) fun v1 =>
 tv (pbin (.int .i64) .lss x1 v1) fun v2 =>
 Prg.ite (asBool v2) (
 nat (slLen w6) fun n3 =>
 nat (asNat x1) fun n4 =>
 chk (Bool.and (slSize w6 1) (Nat.blt n4 n3)) (
 tvs (pel w6 n4) fun e5 =>
 chk (fitsAt zSl e5 0) (
 tv (getP [(n4,0)] w6) fun v6 =>
 call 35 [agg [frz w5,frz w6,frz w7],frz v6] fun v7 =>
 chk (fitsAt zInt [v7] 0) (
 nat (slLen w7) fun n8 =>
 nat (asNat x1) fun n9 =>
 chk (Bool.and (slSize w7 1) (Nat.blt n9 n8)) (
 tvs (pel w7 n9) fun e10 =>
 chk (fitsAt zInt e10 0) (
 tv (pbin (.int .i64) .neq v7 (nth hole e10 0)) fun v11 =>
 Prg.ite (asBool v11) (
 nat (slLen w7) fun n12 =>
 nat (asNat x1) fun n13 =>
 chk (Bool.and (slSize w7 1) (Nat.blt n13 n12)) (
 tvs (pel w7 n13) fun e14 =>
 chk (fitsAt zInt e14 0) (
 tv (setC [] w7 n13 0 [v7]) fun v15 =>
 tv (pbin (.int .i64) .add x1 (I 1)) fun v16 =>
 jmp [0,0,1,0,1,1,4,0,0,0,0,0,1,1] (f19_1_S (B true) v16 y2 y3 y4 w5 w6 v15)))) (
 tv (pbin (.int .i64) .add x1 (I 1)) fun v17 =>
 jmp [0,0,1,0,1,1,4,0,0,0,0,0,1,1] (f19_1_S x0 v17 y2 y3 y4 w5 w6 w7)))))))) (
 Prg.ite (asBool x0) (
 jmp [0,0,0,1,1] (f19_0_S y2 y3 y4 w5 w6 w7)) (
 jmp [1,1,1] (f19_2_S y2 y3 y4 w5 w6 w7)))
def f19_2  (y0 y1 y2 w3 w4 w5:TV):Prg TV :=
 tv (plen (.slice 34) y2) fun v18 =>
 nat (asNat v18) fun n19 =>
 nat (asNat v18) fun n20 =>
 chk (Bool.and (Nat.ble n19 n20) (Nat.ble n20 4294967296)) (
 tv (plen (.slice 3) (TV.sl true 1 (List.replicate n19 [I 0]))) fun v21 =>
 jmp [0,0,1,0,1,1,1,1] (f19_3_S v21 (I 0) (TV.sl true 1 (List.replicate n19 [I 0])) w3 w4 w5))
def f19_3  (x0 x1 w2 w3 w4 w5:TV):Prg TV :=
 tv (pbin (.int .i64) .lss x1 x0) fun v22 =>
 Prg.ite (asBool v22) (
 nat (slLen w2) fun n23 =>
 nat (asNat x1) fun n24 =>
 chk (Bool.and (slSize w2 1) (Nat.blt n24 n23)) (
 tvs (pel w2 n24) fun e25 =>
 chk (fitsAt zInt e25 0) (
 tv (setC [] w2 n24 0 [TV.lit (Value.int IntKind.i64 (-1))]) fun v26 =>
 tv (pbin (.int .i64) .add x1 (I 1)) fun v27 =>
 jmp [0,0,1,0,1,1,1,1] (f19_3_S x0 v27 v26 w3 w4 w5)))) (
 jmp [1,1,1,1,1] (f19_4_S w2 w3 w4 w5))
def f19_4  (w0 w1 w2 w3:TV):Prg TV :=
 jmp [0,0,1,0,1,1,1,1,1] (f19_5_S (I 1) w0 w1 w2 w3)
def f19_5  (x0 w1 w2 w3 w4:TV):Prg TV :=
 tv (plen (.slice 3) w2) fun v28 =>
 tv (pbin (.int .i64) .lss x0 v28) fun v29 =>
 Prg.ite (asBool v29) (
 nat (slLen w2) fun n30 =>
 nat (asNat x0) fun n31 =>
 chk (Bool.and (slSize w2 1) (Nat.blt n31 n30)) (
 tvs (pel w2 n31) fun e32 =>
 chk (fitsAt zInt e32 0) (
 nat (slLen w4) fun n33 =>
 nat (asNat x0) fun n34 =>
 chk (Bool.and (slSize w4 1) (Nat.blt n34 n33)) (
 tvs (pel w4 n34) fun e35 =>
 chk (fitsAt zInt e35 0) (
 nat (slLen w2) fun n36 =>
 nat (asNat (nth hole e35 0)) fun n37 =>
 chk (Bool.and (slSize w2 1) (Nat.blt n37 n36)) (
 tvs (pel w2 n37) fun e38 =>
 chk (fitsAt zInt e38 0) (
 nat (slLen w1) fun n39 =>
 nat (asNat (nth hole e32 0)) fun n40 =>
 chk (Bool.and (slSize w1 1) (Nat.blt n40 n39)) (
 tvs (pel w1 n40) fun e41 =>
 chk (fitsAt zInt e41 0) (
 tv (setC [] w1 n40 0 [nth hole e38 0]) fun v42 =>
 tv (pbin (.int .i64) .add x0 (I 1)) fun v43 =>
 jmp [0,0,1,0,1,1,1,1,1] (f19_5_S v43 v42 w2 w3 w4)))))))))) (
 chk (isOwn w1) (
 ret w1))
theorem f19_MR (x0:TV):startQ prog 19 [x0]=f19_M x0:=by kernel_rfl
theorem f19_0_J  {y0 y1 y2 w3 w4 w5:TV} {r:TV} (h:Goes prog 19 (f19_0 y0 y1 y2 w3 w4 w5) r):Goes prog 19 (.jmp [0,0,0,1,1] (f19_0_S y0 y1 y2 w3 w4 w5)) r:=Goes.jmp (by kernel_rfl) h
theorem f19_1_J  {x0 x1 y2 y3 y4 w5 w6 w7:TV} {r:TV} (h:Goes prog 19 (f19_1 x0 x1 y2 y3 y4 w5 w6 w7) r):Goes prog 19 (.jmp [0,0,1,0,1,1,4,0,0,0,0,0,1,1] (f19_1_S x0 x1 y2 y3 y4 w5 w6 w7)) r:=Goes.jmp (by kernel_rfl) h
theorem f19_2_J  {y0 y1 y2 w3 w4 w5:TV} {r:TV} (h:Goes prog 19 (f19_2 y0 y1 y2 w3 w4 w5) r):Goes prog 19 (.jmp [1,1,1] (f19_2_S y0 y1 y2 w3 w4 w5)) r:=Goes.jmp (by kernel_rfl) h
theorem f19_3_J  {x0 x1 w2 w3 w4 w5:TV} {r:TV} (h:Goes prog 19 (f19_3 x0 x1 w2 w3 w4 w5) r):Goes prog 19 (.jmp [0,0,1,0,1,1,1,1] (f19_3_S x0 x1 w2 w3 w4 w5)) r:=Goes.jmp (by kernel_rfl) h
theorem f19_4_J  {w0 w1 w2 w3:TV} {r:TV} (h:Goes prog 19 (f19_4 w0 w1 w2 w3) r):Goes prog 19 (.jmp [1,1,1,1,1] (f19_4_S w0 w1 w2 w3)) r:=Goes.jmp (by kernel_rfl) h
theorem f19_5_J  {x0 w1 w2 w3 w4:TV} {r:TV} (h:Goes prog 19 (f19_5 x0 w1 w2 w3 w4) r):Goes prog 19 (.jmp [0,0,1,0,1,1,1,1,1] (f19_5_S x0 w1 w2 w3 w4)) r:=Goes.jmp (by kernel_rfl) h
end Go.Ab.N10
end
section
set_option linter.unusedVariables false
set_option maxRecDepth 100000
namespace Go.Ab.N10
open Go Go.Ab Go.Proofs
open Go.Ab.TV (hole cell comp isSl isSc isTup cellsL tup agg)
open Go.Ab.Prg (tv tvs rws nat chk call jmp ret)
def f20_M (x0 x1:TV):Prg TV :=
 chk (TV.isAgg x0 3) (
 tv (pbin (.int .i64) .leq (I 0) x1) fun v0 =>
 Prg.ite (asBool v0) (
 tv (plen (.slice 34) (cell x0 2)) fun v1 =>
 tv (pbin (.int .i64) .lss x1 v1) fun v2 =>
 ret v2) (
 ret (B false)))
theorem f20_MR (x0 x1:TV):startQ prog 20 [x0,x1]=f20_M x0 x1:=by kernel_rfl
def f21_0_S  (x0 y1 y2 y3 y4 y5 y6 y7 y8 y9 y10 y11 y12 y13 y14 w15:TV):ASt:=⟨[AV.one CA.junk,AV.one (CA.ptr 0 0),AV.one CA.junk,AV.one CA.junk,AV.one (CA.sref 1 0 [])] ++ List.replicate 13 (AV.one CA.junk) ++ [AV.tv x0] ++ List.replicate 7 (AV.one CA.junk),[some (BC.cells [CA.t y1,CA.t y2,CA.t y3,CA.t y4,CA.t y5,CA.t y6,CA.t y7,CA.t y8,CA.t y9,CA.t y10,CA.t y11,CA.t y12,CA.t y13,CA.t y14]),some (BC.tree [w15])] ++ List.replicate 48 (none),[]⟩
def f21_M (x0:TV):Prg TV :=
 chk (TV.isAgg x0 14) (
 call 30 [cell x0 6] fun v0 =>
 chk (fitsAt zInt [v0] 0) (
 call 31 [v0,I 64] fun v1 =>
 chk (fitsAt zBool [v1] 0) (
 Prg.ite (asBool v1) (
 rws (pelems 1 (TV.sl true 1 (chunks 1 1 [cell x0 11]))) fun r2 =>
 tv (papp 1 (TV.lit nilV) (lfLL r2)) fun v3 =>
 call 31 [v0,I 128] fun v4 =>
 chk (fitsAt zBool [v4] 0) (
 jmp [1,0,1,1,1,1] (f21_0_S v4 (cell x0 0) (cell x0 1) (cell x0 2) (cell x0 3) (cell x0 4) (cell x0 5) (cell x0 6) (cell x0 7) (cell x0 8) (cell x0 9) (cell x0 10) (cell x0 11) (cell x0 12) (cell x0 13) v3))) (
 call 31 [v0,I 128] fun v5 =>
 chk (fitsAt zBool [v5] 0) (
 chk true (
 jmp [1,0,1,1,1,1] (f21_0_S v5 (cell x0 0) (cell x0 1) (cell x0 2) (cell x0 3) (cell x0 4) (cell x0 5) (cell x0 6) (cell x0 7) (cell x0 8) (cell x0 9) (cell x0 10) (cell x0 11) (cell x0 12) (cell x0 13) (TV.lit nilV))))))))
def f21_0  (x0 y1 y2 y3 y4 y5 y6 y7 y8 y9 y10 y11 y12 y13 y14 w15:TV):Prg TV :=
 Prg.ite (asBool x0) (
 rws (pelems 1 (TV.sl true 1 (chunks 1 1 [y13]))) fun r6 =>
 tv (papp 1 w15 (lfLL r6)) fun v7 =>
 chk (isOwn v7) (
 ret v7)) (
 chk (isOwn w15) (
 ret w15))
theorem f21_MR (x0:TV):startQ prog 21 [x0]=f21_M x0:=by kernel_rfl
theorem f21_0_J  {x0 y1 y2 y3 y4 y5 y6 y7 y8 y9 y10 y11 y12 y13 y14 w15:TV} {r:TV} (h:Goes prog 21 (f21_0 x0 y1 y2 y3 y4 y5 y6 y7 y8 y9 y10 y11 y12 y13 y14 w15) r):Goes prog 21 (.jmp [1,0,1,1,1,1] (f21_0_S x0 y1 y2 y3 y4 y5 y6 y7 y8 y9 y10 y11 y12 y13 y14 w15)) r:=Goes.jmp (by kernel_rfl) h
def f25_0_S  (x0 x1 x2 x3 y4 y5 y6 y7 y8 y9 w10:TV):ASt:=⟨[AV.one CA.junk,AV.tv x0,AV.one (CA.ptr 0 0),AV.one CA.junk,AV.one CA.junk,AV.one (CA.sref 1 0 [])] ++ List.replicate 6 (AV.one CA.junk) ++ [AV.tv x1,AV.tv x2,AV.tv x3] ++ List.replicate 14 (AV.one CA.junk),[some (BC.cells [CA.t y4,CA.t y5,CA.t y6,CA.t y7,CA.t y8,CA.t y9]),some (BC.tree [w10])] ++ List.replicate 51 (none),[]⟩
def f25_M (x0 x1:TV):Prg TV :=
 chk (TV.isAgg x0 6) (
 tvs (pidx 1 (cell x0 0) x1) fun e0 =>
 chk (Nat.blt 0 (List.length e0)) (
 tv (plen (.slice 3) (nth hole e0 0)) fun v1 =>
 chk true (
 jmp [0,0,1,0,1,1] (f25_0_S x1 (nth hole e0 0) v1 (I 0) (cell x0 0) (cell x0 1) (cell x0 2) (cell x0 3) (cell x0 4) (cell x0 5) (TV.lit nilV)))))
def f25_0  (x0 x1 x2 x3 y4 y5 y6 y7 y8 y9 w10:TV):Prg TV :=
 tv (pbin (.int .i64) .lss x3 x2) fun v2 =>
 Prg.ite (asBool v2) (
 tvs (pidx 1 x1 x3) fun e3 =>
 chk (Nat.blt 0 (List.length e3)) (
 call 33 [agg [y5,y6],x0,nth hole e3 0] fun v4 =>
 chk (fitsAt zBool [v4] 0) (
 Prg.ite (asBool v4) (
 rws (pelems 1 (TV.sl true 1 (chunks 1 1 [nth hole e3 0]))) fun r5 =>
 tv (papp 1 w10 (lfLL r5)) fun v6 =>
 tv (pbin (.int .i64) .add x3 (I 1)) fun v7 =>
 jmp [0,0,1,0,1,1] (f25_0_S x0 x1 x2 v7 y4 y5 y6 y7 y8 y9 v6)) (
 tv (pbin (.int .i64) .add x3 (I 1)) fun v8 =>
 jmp [0,0,1,0,1,1] (f25_0_S x0 x1 x2 v8 y4 y5 y6 y7 y8 y9 w10))))) (
 chk (isOwn w10) (
 ret w10))
theorem f25_MR (x0 x1:TV):startQ prog 25 [x0,x1]=f25_M x0 x1:=by kernel_rfl
theorem f25_0_J  {x0 x1 x2 x3 y4 y5 y6 y7 y8 y9 w10:TV} {r:TV} (h:Goes prog 25 (f25_0 x0 x1 x2 x3 y4 y5 y6 y7 y8 y9 w10) r):Goes prog 25 (.jmp [0,0,1,0,1,1] (f25_0_S x0 x1 x2 x3 y4 y5 y6 y7 y8 y9 w10)) r:=Goes.jmp (by kernel_rfl) h
def f28_0_S  (x0 w1 w2 w3:TV):ASt:=⟨[AV.one CA.junk,AV.one CA.junk,AV.one (CA.ptr 0 0),AV.one (CA.sref 1 0 []),AV.one (CA.ptr 2 0),AV.tv x0] ++ List.replicate 28 (AV.one CA.junk),[some (BC.cells [CA.junk,CA.junk,CA.junk]),some (BC.tree [w1]),some (BC.cells [CA.sref 1 0 [],CA.sref 3 0 [],CA.sref 4 0 []]),some (BC.tree [w2]),some (BC.tree [w3])] ++ List.replicate 53 (none),[]⟩
def f28_M (x0:TV):Prg TV :=
 chk (TV.isAgg x0 3) (
 call 10 [agg [cell x0 0,cell x0 1,cell x0 2]] fun v0 =>
 chk (fitsAt zSl [v0] 0) (
 call 34 [agg [cell x0 0,cell x0 1,cell x0 2],frz v0] fun v1 =>
 chk (fitsAt zSl [v1] 0) (
 tv (plen (.slice 3) v0) fun v2 =>
 nat (asNat v2) fun n3 =>
 nat (asNat v2) fun n4 =>
 chk (Bool.and (Nat.ble n3 n4) (Nat.ble n4 4294967296)) (
 jmp [0,0,1,0,1,1,1] (f28_0_S (I 1) v0 v1 (TV.sl true 1 (List.replicate n3 [I 0])))))))
def f28_0  (x0 w1 w2 w3:TV):Prg TV :=
 tv (plen (.slice 3) w1) fun v5 =>
 tv (pbin (.int .i64) .lss x0 v5) fun v6 =>
 Prg.ite (asBool v6) (
 nat (slLen w2) fun n7 =>
 nat (asNat x0) fun n8 =>
 chk (Bool.and (slSize w2 1) (Nat.blt n8 n7)) (
 tvs (pel w2 n8) fun e9 =>
 chk (fitsAt zSl e9 0) (
 tv (getP [(n8,0)] w2) fun v10 =>
 nat (slLen v10) fun n11 =>
 nat (asNat (I 0)) fun n12 =>
 chk (Bool.and (slSize v10 1) (Nat.blt n12 n11)) (
 tv (getP [(n8,0)] w2) fun v13 =>
 tvs (pel v13 n12) fun e14 =>
 chk (fitsAt zInt e14 0) (
 nat (slLen w3) fun n15 =>
 nat (asNat x0) fun n16 =>
 chk (Bool.and (slSize w3 1) (Nat.blt n16 n15)) (
 tvs (pel w3 n16) fun e17 =>
 chk (fitsAt zInt e17 0) (
 tv (setC [] w3 n16 0 [nth hole e14 0]) fun v18 =>
 tv (pbin (.int .i64) .add x0 (I 1)) fun v19 =>
 jmp [0,0,1,0,1,1,1] (f28_0_S v19 w1 w2 v18)))))))) (
 chk (isOwn (agg [w1,w2,w3])) (
 ret (agg [w1,w2,w3])))
theorem f28_MR (x0:TV):startQ prog 28 [x0]=f28_M x0:=by kernel_rfl
theorem f28_0_J  {x0 w1 w2 w3:TV} {r:TV} (h:Goes prog 28 (f28_0 x0 w1 w2 w3) r):Goes prog 28 (.jmp [0,0,1,0,1,1,1] (f28_0_S x0 w1 w2 w3)) r:=Goes.jmp (by kernel_rfl) h
def f30_M (x0:TV):Prg TV :=
 tv (pbin (.int .i64) .eql x0 (I 1)) fun v0 =>
 Prg.ite (asBool v0) (
 Prg.ite (asBool v0) (
 ret (I 5)) (
 tv (pbin (.int .i64) .eql x0 (I 2)) fun v1 =>
 Prg.ite (asBool v1) (
 ret (I 65)) (
 tv (pbin (.int .i64) .eql x0 (I 3)) fun v2 =>
 Prg.ite (asBool v2) (
 ret (I 197)) (
 tv (pbin (.int .i64) .eql x0 (I 4)) fun v3 =>
 Prg.ite (asBool v3) (
 ret (I 355)) (
 tv (pbin (.int .i64) .eql x0 (I 6)) fun v4 =>
 Prg.ite (asBool v4) (
 ret (I 1)) (
 ret (I 0))))))) (
 tv (pbin (.int .i64) .eql x0 (I 5)) fun v5 =>
 Prg.ite (asBool v5) (
 ret (I 5)) (
 tv (pbin (.int .i64) .eql x0 (I 2)) fun v6 =>
 Prg.ite (asBool v6) (
 ret (I 65)) (
 tv (pbin (.int .i64) .eql x0 (I 3)) fun v7 =>
 Prg.ite (asBool v7) (
 ret (I 197)) (
 tv (pbin (.int .i64) .eql x0 (I 4)) fun v8 =>
 Prg.ite (asBool v8) (
 ret (I 355)) (
 tv (pbin (.int .i64) .eql x0 (I 6)) fun v9 =>
 Prg.ite (asBool v9) (
 ret (I 1)) (
 ret (I 0)))))))
theorem f30_MR (x0:TV):startQ prog 30 [x0]=f30_M x0:=by kernel_rfl
def f31_M (x0 x1:TV):Prg TV :=
 tv (pbin (.int .i64) .and x0 x1) fun v0 =>
 tv (pbin (.int .i64) .neq v0 (I 0)) fun v1 =>
 ret v1
theorem f31_MR (x0 x1:TV):startQ prog 31 [x0,x1]=f31_M x0 x1:=by kernel_rfl
def f33_M (x0 x1 x2:TV):Prg TV :=
 chk (TV.isAgg x0 2) (
 tvs (pidx 1 (cell x0 0) x1) fun e0 =>
 chk (Nat.blt 0 (List.length e0)) (
 tvs (pidx 1 (cell x0 0) x2) fun e1 =>
 chk (Nat.blt 0 (List.length e1)) (
 tv (pbin (.int .i64) .leq (nth hole e0 0) (nth hole e1 0)) fun v2 =>
 Prg.ite (asBool v2) (
 tvs (pidx 1 (cell x0 0) x2) fun e3 =>
 chk (Nat.blt 0 (List.length e3)) (
 tvs (pidx 1 (cell x0 0) x1) fun e4 =>
 chk (Nat.blt 0 (List.length e4)) (
 tvs (pidx 1 (cell x0 1) x1) fun e5 =>
 chk (Nat.blt 0 (List.length e5)) (
 tv (pbin (.int .i64) .add (nth hole e4 0) (nth hole e5 0)) fun v6 =>
 tv (pbin (.int .i64) .lss (nth hole e3 0) v6) fun v7 =>
 ret v7)))) (
 ret (B false)))))
theorem f33_MR (x0 x1 x2:TV):startQ prog 33 [x0,x1,x2]=f33_M x0 x1 x2:=by kernel_rfl
def f34_0_S  (x0 x1 x2 x3 y4 y5 y6 w7:TV):ASt:=⟨[AV.one CA.junk,AV.tv x0,AV.one (CA.ptr 0 0),AV.one CA.junk,AV.one CA.junk,AV.one (CA.sref 1 0 [])] ++ List.replicate 11 (AV.one CA.junk) ++ [AV.tv x1,AV.tv x2,AV.tv x3] ++ List.replicate 46 (AV.one CA.junk),[some (BC.cells [CA.t y4,CA.t y5,CA.t y6]),some (BC.tree [w7])] ++ List.replicate 88 (none),[]⟩
def f34_1_S  (x0 y1 y2 y3 w4:TV):ASt:=⟨[AV.one CA.junk,AV.tv x0,AV.one (CA.ptr 0 0),AV.one CA.junk,AV.one CA.junk,AV.one (CA.sref 1 0 [])] ++ List.replicate 60 (AV.one CA.junk),[some (BC.cells [CA.t y1,CA.t y2,CA.t y3]),some (BC.tree [w4])] ++ List.replicate 88 (none),[]⟩
def f34_2_S  (x0 x1 x2 y3 y4 y5 w6 w7:TV):ASt:=⟨[AV.one CA.junk,AV.one CA.junk,AV.one (CA.ptr 0 0),AV.one CA.junk,AV.one CA.junk,AV.one (CA.sref 1 0 []),AV.one CA.junk,AV.one CA.junk,AV.one (CA.sref 2 0 [])] ++ List.replicate 23 (AV.one CA.junk) ++ [AV.tv x0,AV.tv x1,AV.tv x2] ++ List.replicate 31 (AV.one CA.junk),[some (BC.cells [CA.t y3,CA.t y4,CA.t y5]),some (BC.tree [w6]),some (BC.tree [w7])] ++ List.replicate 87 (none),[]⟩
def f34_3_S  (x0 x1 x2 x3 x4 x5 y6 y7 y8 w9 w10 w11:TV):ASt:=⟨[AV.one CA.junk,AV.one CA.junk,AV.one (CA.ptr 0 0),AV.one CA.junk,AV.one CA.junk,AV.one (CA.sref 1 0 []),AV.one CA.junk,AV.one CA.junk,AV.one (CA.sref 2 0 []),AV.tv x0] ++ List.replicate 22 (AV.one CA.junk) ++ [AV.tv x1,AV.tv x2,AV.tv x3] ++ List.replicate 6 (AV.one CA.junk) ++ [AV.one (CA.sref 3 0 []),AV.tv x4,AV.tv x5] ++ List.replicate 22 (AV.one CA.junk),[some (BC.cells [CA.t y6,CA.t y7,CA.t y8]),some (BC.tree [w9]),some (BC.tree [w10]),some (BC.tree [w11])] ++ List.replicate 86 (none),[]⟩
def f34_M (x0 x1:TV):Prg TV :=
 chk (TV.isAgg x0 3) (
 tv (plen (.slice 34) (cell x0 2)) fun v0 =>
 nat (asNat v0) fun n1 =>
 nat (asNat v0) fun n2 =>
 chk (Bool.and (Nat.ble n1 n2) (Nat.ble n2 4294967296)) (
 tv (plen (.slice 3) x1) fun v3 =>
 jmp [0,0,1,0,1,1] (f34_0_S x1 x1 v3 (I 0) (cell x0 0) (cell x0 1) (cell x0 2) (TV.sl true 1 (List.replicate n1 [I 0])))))
def f34_0  (x0 x1 x2 x3 y4 y5 y6 w7:TV):Prg TV :=
 tv (pbin (.int .i64) .lss x3 x2) fun v4 =>
 Prg.ite (asBool v4) (
 tvs (pidx 1 x1 x3) fun e5 =>
 chk (Nat.blt 0 (List.length e5)) (
 nat (slLen w7) fun n6 =>
 nat (asNat (nth hole e5 0)) fun n7 =>
 chk (Bool.and (slSize w7 1) (Nat.blt n7 n6)) (
 chk (TV.isOne x3) (
 tvs (pel w7 n7) fun e8 =>
 chk (fitsAt zInt e8 0) (
 tv (setC [] w7 n7 0 [x3]) fun v9 =>
 tv (pbin (.int .i64) .add x3 (I 1)) fun v10 =>
 jmp [0,0,1,0,1,1] (f34_0_S x0 x1 x2 v10 y4 y5 y6 v9)))))) (
 jmp [1,1,1] (f34_1_S x0 y4 y5 y6 w7))
def f34_1  (x0 y1 y2 y3 w4:TV):Prg TV :=
 tv (plen (.slice 3) x0) fun v11 =>
 nat (asNat v11) fun n12 =>
 nat (asNat v11) fun n13 =>
 chk (Bool.and (Nat.ble n12 n13) (Nat.ble n13 4294967296)) (
 tv (plen (.slice 3) x0) fun v14 =>
 jmp [0,0,1,0,1,1,1,1] (f34_2_S x0 v14 (I 0) y1 y2 y3 w4 (TV.sl true 1 (List.replicate n12 [TV.lit nilV]))))
def f34_2  (x0 x1 x2 y3 y4 y5 w6 w7:TV):Prg TV :=
 tv (pbin (.int .i64) .lss x2 x1) fun v15 =>
 Prg.ite (asBool v15) (
 tvs (pidx 1 x0 x2) fun e16 =>
 chk (Nat.blt 0 (List.length e16)) (
 call 12 [agg [y3,y4,y5],nth hole e16 0] fun v17 =>
 chk (fitsAt zSl [v17] 0) (
 tv (plen (.slice 3) v17) fun v18 =>
 jmp [0,0,1,1,0,0,1,1,0,0,1,0,1,1,1,1] (f34_3_S x2 x0 x1 x2 v18 (I 0) y3 y4 y5 w6 w7 v17)))) (
 chk (isOwn w7) (
 ret w7))
def f34_3  (x0 x1 x2 x3 x4 x5 y6 y7 y8 w9 w10 w11:TV):Prg TV :=
 tv (pbin (.int .i64) .lss x5 x4) fun v19 =>
 Prg.ite (asBool v19) (
 nat (slLen w11) fun n20 =>
 nat (asNat x5) fun n21 =>
 chk (Bool.and (slSize w11 1) (Nat.blt n21 n20)) (
 tvs (pel w11 n21) fun e22 =>
 chk (fitsAt zInt e22 0) (
 nat (slLen w9) fun n23 =>
 nat (asNat (nth hole e22 0)) fun n24 =>
 chk (Bool.and (slSize w9 1) (Nat.blt n24 n23)) (
 tvs (pel w9 n24) fun e25 =>
 chk (fitsAt zInt e25 0) (
 nat (slLen w9) fun n26 =>
 nat (asNat (nth hole e22 0)) fun n27 =>
 chk (Bool.and (slSize w9 1) (Nat.blt n27 n26)) (
 tvs (pel w9 n27) fun e28 =>
 chk (fitsAt zInt e28 0) (
 nat (slLen w10) fun n29 =>
 nat (asNat (nth hole e28 0)) fun n30 =>
 chk (Bool.and (slSize w10 1) (Nat.blt n30 n29)) (
 tvs (pel w10 n30) fun e31 =>
 chk (fitsAt zSl e31 0) (
 chk (TV.isOne x0) (
 rws (pelems 1 (TV.sl true 1 (chunks 1 1 [x0]))) fun r32 =>
 tv (getP [(n30,0)] w10) fun v33 =>
 tv (papp 1 v33 (lfLL r32)) fun v34 =>
 tv (setP [(n30,0)] w10 hole) fun v35 =>
 nat (slLen v35) fun n36 =>
 nat (asNat (nth hole e25 0)) fun n37 =>
 chk (Bool.and (slSize v35 1) (Nat.blt n37 n36)) (
 tvs (pel v35 n37) fun e38 =>
 chk (Bool.and (fitsOld zSl e38 0) (fitsAt zSl [v34] 0)) (
 tv (setC [] v35 n37 0 [v34]) fun v39 =>
 tv (pbin (.int .i64) .add x5 (I 1)) fun v40 =>
 jmp [0,0,1,1,0,0,1,1,0,0,1,0,1,1,1,1] (f34_3_S x0 x1 x2 x3 x4 v40 y6 y7 y8 w9 v39 w11))))))))))))) (
 tv (pbin (.int .i64) .add x3 (I 1)) fun v41 =>
 jmp [0,0,1,0,1,1,1,1] (f34_2_S x1 x2 v41 y6 y7 y8 w9 w10))
theorem f34_MR (x0 x1:TV):startQ prog 34 [x0,x1]=f34_M x0 x1:=by kernel_rfl
theorem f34_0_J  {x0 x1 x2 x3 y4 y5 y6 w7:TV} {r:TV} (h:Goes prog 34 (f34_0 x0 x1 x2 x3 y4 y5 y6 w7) r):Goes prog 34 (.jmp [0,0,1,0,1,1] (f34_0_S x0 x1 x2 x3 y4 y5 y6 w7)) r:=Goes.jmp (by kernel_rfl) h
theorem f34_1_J  {x0 y1 y2 y3 w4:TV} {r:TV} (h:Goes prog 34 (f34_1 x0 y1 y2 y3 w4) r):Goes prog 34 (.jmp [1,1,1] (f34_1_S x0 y1 y2 y3 w4)) r:=Goes.jmp (by kernel_rfl) h
theorem f34_2_J  {x0 x1 x2 y3 y4 y5 w6 w7:TV} {r:TV} (h:Goes prog 34 (f34_2 x0 x1 x2 y3 y4 y5 w6 w7) r):Goes prog 34 (.jmp [0,0,1,0,1,1,1,1] (f34_2_S x0 x1 x2 y3 y4 y5 w6 w7)) r:=Goes.jmp (by kernel_rfl) h
theorem f34_3_J  {x0 x1 x2 x3 x4 x5 y6 y7 y8 w9 w10 w11:TV} {r:TV} (h:Goes prog 34 (f34_3 x0 x1 x2 x3 x4 x5 y6 y7 y8 w9 w10 w11) r):Goes prog 34 (.jmp [0,0,1,1,0,0,1,1,0,0,1,0,1,1,1,1] (f34_3_S x0 x1 x2 x3 x4 x5 y6 y7 y8 w9 w10 w11)) r:=Goes.jmp (by kernel_rfl) h
def f35_0_S  (x0 y1 y2 y3 y4 y5:TV):ASt:=⟨[AV.one (CA.yl 0),AV.one (CA.ptr 0 0),AV.one CA.junk,AV.tv x0] ++ List.replicate 15 (AV.one CA.junk),[some (BC.cells [CA.t y1]),some (BC.cells [CA.t y2,CA.t y3,CA.t y4]),some (BC.cells [CA.t y5])] ++ List.replicate 63 (none),([AV.one CA.junk,AV.one CA.junk,AV.one (CA.ptr 1 0),AV.one CA.junk,AV.one CA.junk,AV.one (CA.ptr 2 0)] ++ List.replicate 9 (AV.one CA.junk) ++ [AV.clo 24 [CA.ptr 0 0]] ++ List.replicate 7 (AV.one CA.junk))⟩
def f35_M (x0 x1:TV):Prg TV :=
 chk (TV.isAgg x0 3) (
 tv (plen (.slice 3) x1) fun v0 =>
 tv (pbin (.int .i64) .sub v0 (I 1)) fun v1 =>
 tvs (pidx 1 x1 v1) fun e2 =>
 chk (Nat.blt 0 (List.length e2)) (
 chk (TV.isOne x1) (
 tv (plen (.slice 3) x1) fun v3 =>
 tv (pbin (.int .i64) .sub v3 (I 1)) fun v4 =>
 jmp [0,0,1,24,0,1,0,1,1] (f35_0_S v4 x1 (cell x0 0) (cell x0 1) (cell x0 2) (nth hole e2 0)))))
def f35_0  (x0 y1 y2 y3 y4 y5:TV):Prg TV :=
 tv (pbin (.int .i64) .geq x0 (I 0)) fun v5 =>
 Prg.ite (asBool v5) (
 tvs (pidx 1 y1 x0) fun e6 =>
 chk (Nat.blt 0 (List.length e6)) (
 call 36 [agg [y2,y3,y4],y5,nth hole e6 0] fun v7 =>
 chk (fitsAt zInt [v7] 0) (
 tv (pbin (.int .i64) .sub x0 (I 1)) fun v8 =>
 jmp [0,0,1,24,0,1,0,1,1] (f35_0_S v8 y1 y2 y3 y4 v7)))) (
 ret y5)
theorem f35_MR (x0 x1:TV):startQ prog 35 [x0,x1]=f35_M x0 x1:=by kernel_rfl
theorem f35_0_J  {x0 y1 y2 y3 y4 y5:TV} {r:TV} (h:Goes prog 35 (f35_0 x0 y1 y2 y3 y4 y5) r):Goes prog 35 (.jmp [0,0,1,24,0,1,0,1,1] (f35_0_S x0 y1 y2 y3 y4 y5)) r:=Goes.jmp (by kernel_rfl) h
def f36_0_S  (x0 x1 y2 y3 y4:TV):ASt:=⟨[AV.one CA.junk,AV.tv x0,AV.tv x1,AV.one (CA.ptr 0 0)] ++ List.replicate 20 (AV.one CA.junk),[some (BC.cells [CA.t y2,CA.t y3,CA.t y4])] ++ List.replicate 47 (none),[]⟩
def f36_M (x0 x1 x2:TV):Prg TV :=
 chk (TV.isAgg x0 3) (
 jmp [0,0,0,1] (f36_0_S x1 x2 (cell x0 0) (cell x0 1) (cell x0 2)))
def f36_0  (x0 x1 y2 y3 y4:TV):Prg TV :=
 tv (pbin (.int .i64) .neq x0 x1) fun v0 =>
 Prg.ite (asBool v0) (
 tv (pbin (.int .i64) .gtr x0 x1) fun v1 =>
 Prg.ite (asBool v1) (
 tvs (pidx 1 y4 x0) fun e2 =>
 chk (Nat.blt 0 (List.length e2)) (
 jmp [0,0,0,1] (f36_0_S (nth hole e2 0) x1 y2 y3 y4))) (
 tvs (pidx 1 y4 x1) fun e3 =>
 chk (Nat.blt 0 (List.length e3)) (
 jmp [0,0,0,1] (f36_0_S x0 (nth hole e3 0) y2 y3 y4)))) (
 ret x0)
theorem f36_MR (x0 x1 x2:TV):startQ prog 36 [x0,x1,x2]=f36_M x0 x1 x2:=by kernel_rfl
theorem f36_0_J  {x0 x1 y2 y3 y4:TV} {r:TV} (h:Goes prog 36 (f36_0 x0 x1 y2 y3 y4) r):Goes prog 36 (.jmp [0,0,0,1] (f36_0_S x0 x1 y2 y3 y4)) r:=Goes.jmp (by kernel_rfl) h
end Go.Ab.N10
end
section
set_option linter.unusedVariables false
set_option maxRecDepth 10000
namespace Go.Ab.N10
open Go Go.Ab Go.Proofs
theorem r14 {q q':Option Bool} {x y:TV} {l m:List Int} (hx:RInts q x l) (hy:RInts q' y m):Runs prog 7 [x,y] (B (tt (l=m))):=by
 refine Runs.of (f7_MR _ _) ?_
 unfold f7_M
 repeat' (first
  | refine Goes.chk rfl ?_
  | refine Goes.tv rfl ?_
  | refine Goes.tv (RL.len (by assumption)) ?_
  | refine Goes.nat rfl ?_
  | refine Goes.ite rfl (fun _=>?_) (fun _=>?_)
  | refine Goes.call (by assumption) ?_
  | refine Goes.tvs (by assumption) ?_)
 ·rename_i h
  have h:¬ l=m:=by rintro rfl; simp at h
  exact ret_no h
 ·rename_i h
  have hlen:l.length=m.length:=by simp at h; omega
  refine f7_0_J ?_
  rw [tt_congr (list_eq_iff' hlen)]
  refine allLoop' (g:=fun k=>f7_0 x y (I k)) ?_ ?_
  ·unfold f7_0
   refine Goes.tv hx.len (Goes.tv rfl (Goes.ite asB_end (fun h=>nomatch h) fun _=>Goes.ret))
  ·intro k hk r h1 h2
   have hk':k < m.length:=by omega
   have ha:l[k]? = some l[k]:=List.getElem?_eq_getElem hk
   have hb:m[k]? = some m[k]:=List.getElem?_eq_getElem hk'
   obtain ⟨e,he,rfl,_⟩:=hx.idx (k:=.i64) ha
   obtain ⟨e',he',rfl,_⟩:=hy.idx (k:=.i64) hb
   unfold f7_0
   refine Goes.tv hx.len (Goes.tv rfl (Goes.ite (asB_lt hk) (fun _=>?_) fun h=>nomatch h))
   refine Goes.tvs he (Goes.chk rfl (Goes.tvs he' (Goes.chk rfl (Goes.tv rfl (Goes.ite rfl (fun h=>?_) fun h=>?_)))))
   ·rw [h1 (by rw [ha,hb]; simpa using h)]; exact Goes.ret
   ·refine Goes.tv (inc hk hx.bnd) (f7_0_J (h2 ?_))
    rw [ha,hb]; simpa using h
end Go.Ab.N10
end
section
set_option linter.unusedVariables false
set_option maxRecDepth 10000
namespace Go.Ab
theorem RL.idxI {α:Type} {q:Option Bool} {s:Nat} {R:List TV→α→Prop} {x:TV} {l:List α} (h:RL q s R x l) {k:IntKind} {n:Int} {a:α} (h0:0≤n) (hi:l[n.toNat]? = some a):∃ e,pidx s x (.lit (.int k n))=some e∧R e a:=by
 rcases h with ⟨rfl,rfl⟩ | ⟨o,xs,rfl,hq,h,_⟩
 ·simp at hi
 ·obtain ⟨e,he,hr⟩:=h.get hi
  exact ⟨e,by simp [pidx,he,h0],hr⟩
end Go.Ab
namespace Go.Ab.N10
open Go Go.Ab Go.Proofs
def usesE (k:Int):Int :=
 if k=1 then 5 else if k=5 then 5 else if k=2 then 65 else if k=3 then 197 else if k=4 then 355 else if k=6 then 1 else 0
def has (u f:Int):Bool:=decide (¬ IntKind.i64.wrap ((BitVec.ofInt 64 u &&& BitVec.ofInt 64 f).toNat:Int)=0)
theorem r25 (u f:Int):Runs prog 31 [I u,I f] (B (has u f)):=by
 refine Runs.of (f31_MR _ _) ?_
 unfold f31_M
 repeat' (first
  | refine Goes.chk rfl ?_
  | refine Goes.tv rfl ?_
  | refine Goes.tv (RL.len (by assumption)) ?_
  | refine Goes.nat rfl ?_
  | refine Goes.ite rfl (fun _=>?_) (fun _=>?_)
  | refine Goes.call (by assumption) ?_
  | refine Goes.tvs (by assumption) ?_)
 refine goes_ret.2 ?_
 simp [has]
 rfl
theorem r24 (k:Int):Runs prog 30 [I k] (I (usesE k)):=by
 refine Runs.of (f30_MR _) ?_
 unfold f30_M
 repeat' (first
  | refine Goes.chk rfl ?_
  | refine Goes.tv rfl ?_
  | refine Goes.tv (RL.len (by assumption)) ?_
  | refine Goes.nat rfl ?_
  | refine Goes.ite rfl (fun _=>?_) (fun _=>?_)
  | refine Goes.call (by assumption) ?_
  | refine Goes.tvs (by assumption) ?_)
 all_goals (refine goes_ret.2 ?_; simp_all [usesE])
end Go.Ab.N10
end
section
set_option linter.unusedVariables false
set_option maxRecDepth 10000
namespace Go.Ab
theorem asNat_nat {k:Nat} (h:k≤9223372036854775807):asNat (I (k:Int))=some k:=by
 simp [asNat]; omega
end Go.Ab
namespace Go.Ab.N10
open Go Go.Ab Go.Proofs
end Go.Ab.N10
end
section
set_option linter.unusedVariables false
set_option maxRecDepth 10000
namespace Go.Ab
section
variable {α:Type} {s:Nat} {R S:Nat→List TV→α→Prop} {x:TV} {l:List α}
theorem setNth_len {β:Type}:∀ (l:List β) (n:Nat) (b:β),(setNth l n b).length=l.length
 | [],_,_=>rfl
 | _ :: _,0,_=>rfl
 | a :: l,n + 1,b=>by simp [setNth,setNth_len l n b]
end
theorem RL.isFr {α:Type} {s:Nat} {R:List TV→α→Prop} {x:TV} {l:List α} (h:RL (some false) s R x l):x.isFr=true:=by
 rcases h with ⟨rfl,rfl⟩ | ⟨o,xs,rfl,hq,h,hb⟩
 ·rfl
 ·rw [hq false rfl]; rfl
theorem isOwnLL_all:∀ (xs:List (List TV)),(∀ e ∈ xs,isOwnL e=true)→isOwnLL xs=true
 | [],_=>rfl
 | e :: xs,h=>by
  simp only [isOwnLL,Bool.and_eq_true]
  exact ⟨h e List.mem_cons_self,isOwnLL_all xs fun e he=>h e (List.mem_cons_of_mem _ he)⟩
theorem F2.memL {α β:Type} {R:α→β→Prop} {xs:List α} {l:List β} (h:F2 R xs l) {e:α} (he:e ∈ xs):∃ a,a ∈ l∧R e a:=by
 obtain ⟨i,hi,rfl⟩:=List.mem_iff_getElem.1 he
 obtain ⟨a,ha,hr⟩:=h.getL (List.getElem?_eq_getElem hi)
 exact ⟨a,List.mem_of_getElem? ha,hr⟩
theorem RL.own {α:Type} {s:Nat} {R:List TV→α→Prop} {x:TV} {l:List α} (h:RL (some true) s R x l) (hm:∀ e a,R e a→isOwnL e=true):isOwn x=true:=by
 rcases h with ⟨rfl,rfl⟩ | ⟨o,xs,rfl,hq,h,hb⟩
 ·rfl
 ·rw [hq true rfl]
  simp only [isOwn,Bool.true_and]
  refine isOwnLL_all _ fun e he=>?_
  obtain ⟨a,_,hr⟩:=h.memL he
  exact hm _ _ hr
theorem RI1.own {e:List TV} {n:Int} (h:RI1 e n):isOwnL e=true:=by obtain ⟨rfl,_⟩:=h; rfl
theorem RB1.own {e:List TV} {n:Bool} (h:RB1 e n):isOwnL e=true:=by cases h; rfl
end Go.Ab
namespace Go.Ab.N10
open Go Go.Ab Go.Proofs
end Go.Ab.N10
end
section
set_option linter.unusedVariables false
set_option maxRecDepth 10000
namespace Go.Ab
section
variable {α β:Type} {p:Way} {w y:TV} {s:Nat} {R:List TV→α→Prop} {Q:TV→β→Prop} {G:List α→DMod} {l:List α}
theorem RL.at (hy:RL (some true) s R y l) {k:Nat} {e:List TV} (he:Go.Ab.pel y k=some e):∃ xs,y=.sl true s xs∧xs[k]? = some e∧F2 R xs l∧xs.length≤9223372036854775807:=by
 rcases hy with ⟨rfl,rfl⟩ | ⟨o,xs,rfl,hq,h,hb⟩
 ·simp [Go.Ab.pel] at he
 ·have:o=true:=hq true rfl
  subst this
  exact ⟨xs,rfl,he,h,hb⟩
end
end Go.Ab
namespace Go.Ab.N10
open Go Go.Ab Go.Proofs
end Go.Ab.N10
end
section
set_option linter.unusedVariables false
set_option maxRecDepth 10000
namespace Go.Ab
def gl (b:DBlock):List Int:=(if b.fin.kind=2∨b.fin.kind=3∨b.fin.kind=4 then [b.fin.to] else []) ++ (if b.fin.kind=3 then [b.fin.els] else [])
theorem set_get {M:List Bool} {g i:Nat} (hg:g < M.length):(M.set g true)[i]? = some true ↔ i=g∨M[i]? = some true:=by
 rw [List.getElem?_set]
 by_cases h:g=i
 ·subst h; simp [hg]
 ·simp [h]; intro h'; exact absurd h'.symm h
theorem set_count {M:List Bool} {g:Nat} (hg:M[g]? = some false):(M.set g true).count true=M.count true + 1:=by
 have hlt:=(List.getElem?_eq_some_iff.1 hg).1
 have hv:=(List.getElem?_eq_some_iff.1 hg).2
 rw [List.count_set hlt]
 simp [hv]
theorem count_le (M:List Bool):M.count true≤M.length:=List.count_le_length
section
variable {α:Type} {s:Nat} {R:List TV→α→Prop} {y:TV} {l:List α}
theorem RL.setAt (hy:RL (some true) s R y l) {i:Nat} {e:List TV} (he:Go.Ab.pel y i=some e) {d:Nat} {ys:List TV} {a:α} (hR:R (setCells e d ys) a):∃ y',setC [] y i d ys=some y'∧RL (some true) s R y' (l.set i a):=by
 obtain ⟨xs,rfl,hk,hf,hb⟩:=hy.at he
 refine ⟨.sl true s (setNth xs i (setCells e d ys)),by simp only [setC,getP,setEl,hk,setP],.sl (by simp) (hf.set hR) (by rw [setNth_len]; exact hb)⟩
theorem RL.app (hy:RL (some true) s R y l) {e:List TV} {a:α} (hR:R e a) (hl:l.length + 1≤4294967296):∃ y',papp s y [e]=some y'∧RL (some true) s R y' (l ++ [a]):=by
 rcases hy with ⟨rfl,rfl⟩ | ⟨o,xs,rfl,hq,h,hb⟩
 ·refine ⟨.sl true s [e],by simp [papp,nilV,room,rowT],.sl (by simp) (.cons hR .nil) (by simp)⟩
 ·have:o=true:=hq true rfl
  subst this
  have hxl:=h.length
  refine ⟨.sl true s (xs ++ [e]),?_,.sl (by simp) (h.append (.cons hR .nil)) (by simp; omega)⟩
  simp [papp,room]; omega
theorem RL.win {q:Option Bool} (hy:RL q s R y l) {k:Nat} (hk:k≤l.length):∃ y',winP 0 k y=some y'∧RL q s R y' (l.take k):=by
 rcases hy with ⟨rfl,rfl⟩ | ⟨o,xs,rfl,hq,h,hb⟩
 ·have:k=0:=by simpa using hk
  subst this
  exact ⟨.lit nilV,rfl,by simpa using RL.nil⟩
 ·have hxl:=h.length
  refine ⟨.sl o s ((xs.drop 0).take k),?_,.sl hq (by simpa using h.take k) (by simp; omega)⟩
  simp [winP]; omega
end
end Go.Ab
namespace Go.Ab.N10
open Go Go.Ab Go.Proofs
theorem has64 (k:Int):has (usesE k) 64=true ↔ k=2∨k=3∨k=4:=by
 by_cases h1:k=1
 ·subst h1; exact ⟨fun h=>absurd h (by decide +kernel),fun h=>absurd h (by decide)⟩
 by_cases h5:k=5
 ·subst h5; exact ⟨fun h=>absurd h (by decide +kernel),fun h=>absurd h (by decide)⟩
 by_cases h2:k=2
 ·subst h2; exact ⟨fun _=>.inl rfl,fun _=>by decide +kernel⟩
 by_cases h3:k=3
 ·subst h3; exact ⟨fun _=>.inr (.inl rfl),fun _=>by decide +kernel⟩
 by_cases h4:k=4
 ·subst h4; exact ⟨fun _=>.inr (.inr rfl),fun _=>by decide +kernel⟩
 have:has (usesE k) 64=false:=by
  by_cases h6:k=6
  ·subst h6; decide +kernel
  ·have:usesE k=0:=by simp [usesE, *]
   rw [this]; decide +kernel
 simp [this,h2,h3,h4]
theorem has128 (k:Int):has (usesE k) 128=true ↔ k=3:=by
 by_cases h1:k=1
 ·subst h1; exact ⟨fun h=>absurd h (by decide +kernel),fun h=>absurd h (by decide)⟩
 by_cases h5:k=5
 ·subst h5; exact ⟨fun h=>absurd h (by decide +kernel),fun h=>absurd h (by decide)⟩
 by_cases h2:k=2
 ·subst h2; exact ⟨fun h=>absurd h (by decide +kernel),fun h=>absurd h (by decide)⟩
 by_cases h3:k=3
 ·subst h3; exact ⟨fun _=>rfl,fun _=>by decide +kernel⟩
 by_cases h4:k=4
 ·subst h4; exact ⟨fun h=>absurd h (by decide +kernel),fun h=>absurd h (by decide)⟩
 have:has (usesE k) 128=false:=by
  by_cases h6:k=6
  ·subst h6; decide +kernel
  ·have:usesE k=0:=by simp [usesE, *]
   rw [this]; decide +kernel
 simp [this,h3]
theorem r15 {q:Option Bool} {e:List TV} {b:DBlock} (he:RBlock q e b):∃ y,Runs prog 21 [.agg e] y∧RInts (some true) y (gl b):=by
 obtain ⟨c,i,g,rfl,hc,hd,hi,hg,ho⟩:=he
 obtain ⟨o1,o2,o3,o4,o5,o6,o7⟩:=ho
 have tail:∀ (w:TV) (l:List Int) (u:Bool),RInts (some true) w l→l.length≤1→(u=true ↔ b.fin.kind=3)→∃ y,Goes prog 21 (f21_0 (B u) (B b.landing) (I b.pad.dst) c (B b.pad.all) (B b.pad.cleanup) i (I b.fin.kind) (I b.fin.a) (I b.fin.dst) (I b.fin.f) g (I b.fin.to) (I b.fin.els) (I b.fin.pad) w) y∧RInts (some true) y (l ++ (if b.fin.kind=3 then [b.fin.els] else [])):=by
  intro w l u hw hl hu
  by_cases h:b.fin.kind=3
  ·have hut:u=true:=hu.2 h
   subst hut
   obtain ⟨w',hw',hr⟩:=hw.app (e:=[I b.fin.els]) (a:=b.fin.els) ⟨rfl,o6⟩ (by omega)
   refine ⟨w',?_,by simpa [h] using hr⟩
   unfold f21_0
   exact Goes.ite rfl (fun _=>Goes.rws rfl (Goes.tv hw' (Goes.chk (hr.own fun _ _ h=>h.own) Goes.ret))) fun h=>nomatch h
  ·have huf:u=false:=by cases u with
    | false=>rfl
    | true=>exact absurd (hu.1 rfl) h
   subst huf
   refine ⟨w,?_,by simpa [h] using hw⟩
   unfold f21_0
   exact Goes.ite rfl (fun h=>nomatch h) fun _=>Goes.chk (hw.own fun _ _ h=>h.own) Goes.ret
 by_cases h:b.fin.kind=2∨b.fin.kind=3∨b.fin.kind=4
 ·obtain ⟨y,hy,hr⟩:=tail (.sl true 1 [[I b.fin.to]]) [b.fin.to] (has (usesE b.fin.kind) 128) (.sl (by simp) (.cons ⟨rfl,o5⟩ .nil) (by simp)) (by simp) (has128 _)
  refine ⟨y,?_,by simpa [gl,h] using hr⟩
  refine Runs.of (f21_MR _) ?_
  unfold f21_M
  refine Goes.chk rfl (Goes.call (r24 _) (Goes.chk rfl (Goes.call (r25 _ _) (Goes.chk rfl (Goes.ite (v:=true) (by rw [(has64 _).2 h]; rfl) (fun _=>?_) fun h=>nomatch h)))))
  exact Goes.rws rfl (Goes.tv rfl (Goes.call (r25 _ _) (Goes.chk rfl (f21_0_J hy))))
 ·obtain ⟨y,hy,hr⟩:=tail (.lit nilV) [] (has (usesE b.fin.kind) 128) .nil (by simp) (has128 _)
  refine ⟨y,?_,by simpa [gl,h] using hr⟩
  refine Runs.of (f21_MR _) ?_
  unfold f21_M
  have hf:has (usesE b.fin.kind) 64=false:=by
   cases hh:has (usesE b.fin.kind) 64 with
   | false=>rfl
   | true=>exact absurd ((has64 _).1 hh) h
  refine Goes.chk rfl (Goes.call (r24 _) (Goes.chk rfl (Goes.call (r25 _ _) (Goes.chk rfl (Goes.ite (v:=false) (by rw [hf]; rfl) (fun h=>nomatch h) fun _=>?_)))))
  exact Goes.call (r25 _ _) (Goes.chk rfl (Goes.chk rfl (f21_0_J hy)))
end Go.Ab.N10
end

import Derived.Test.YthmcbcepgchhcaaCU7Xa
import Derived.OpenShut
section
set_option linter.unusedVariables false
set_option maxRecDepth 100000
namespace Go.Ab.U7
open Go Go.Ab Go.Proofs
open Go.Ab.TV (hole cell comp isSl isSc isTup cellsL tup agg)
open Go.Ab.Prg (tv tvs rws nat chk call jmp ret)
def f24_0_S  (y0 y1 y2 w3:TV):ASt:=⟨[AV.one CA.junk,AV.one CA.junk,AV.one (CA.ptr 0 0),AV.one CA.junk,AV.one CA.junk,AV.one CA.junk,AV.one (CA.sref 1 0 [])] ++ List.replicate 24 (AV.one CA.junk),[some (BC.cells [CA.t y0,CA.t y1,CA.t y2]),some (BC.tree [w3])] ++ List.replicate 53 (none),[]⟩
def f24_1_S  (x0 x1 w2 y3 y4 y5:TV):ASt:=⟨[AV.one (CA.sref 0 0 []),AV.clo 48 [CA.ptr 1 0]] ++ List.replicate 5 (AV.one CA.junk) ++ [AV.tv x0,AV.tv x1] ++ List.replicate 10 (AV.one CA.junk),[some (BC.tree [w2]),some (BC.cells [CA.t y3,CA.t y4,CA.t y5])] ++ List.replicate 114 (none),(List.replicate 31 (AV.one CA.junk) ++ [AV.one (CA.sref 0 0 []),AV.clo 48 [CA.ptr 1 0]] ++ List.replicate 40 (AV.one CA.junk))⟩
def f24_2_S  (x0 x1 w2 y3 y4 y5:TV):ASt:=⟨[AV.one (CA.sref 0 0 []),AV.clo 48 [CA.ptr 1 0],AV.one CA.junk,AV.one CA.junk,AV.one CA.junk,AV.tv x0,AV.tv x1] ++ List.replicate 35 (AV.one CA.junk),[some (BC.tree [w2]),some (BC.cells [CA.t y3,CA.t y4,CA.t y5])] ++ List.replicate 95 (none),List.replicate 31 (AV.one CA.junk)⟩
def f24_3_S  (x0 w1:TV):ASt:=⟨[AV.one (CA.sref 0 0 [])] ++ List.replicate 4 (AV.one CA.junk) ++ [AV.tv x0] ++ List.replicate 36 (AV.one CA.junk),[some (BC.tree [w1])] ++ List.replicate 96 (none),List.replicate 31 (AV.one CA.junk)⟩
def f24_M (x0 x1:TV):Prg TV :=
 chk (TV.isAgg x0 3) (
 call 45 [agg [cell x0 0,cell x0 1,cell x0 2],x1] fun v0 =>
 chk (fitsAt zBool [v0] 0) (
 tv (pun .not v0) fun v1 =>
 Prg.ite (asBool v1) (
 chk true (
 ret (TV.lit nilV))) (
 tvs (pidx 14 (cell x0 2) x1) fun e2 =>
 chk (Nat.ble 14 (List.length e2)) (
 call 46 [agg [nth hole e2 0,nth hole e2 1,nth hole e2 2,nth hole e2 3,nth hole e2 4,nth hole e2 5,nth hole e2 6,nth hole e2 7,nth hole e2 8,nth hole e2 9,nth hole e2 10,nth hole e2 11,nth hole e2 12,nth hole e2 13]] fun v3 =>
 chk (fitsAt zSl [v3] 0) (
 tv (pbin (.int .i64) .eql (nth hole e2 6) (I 4)) fun v4 =>
 Prg.ite (asBool v4) (
 rws (pelems 1 (TV.sl true 1 (chunks 1 1 [nth hole e2 13]))) fun r5 =>
 tv (papp 1 v3 (lfLL r5)) fun v6 =>
 jmp [1,1,1,1,1] (f24_0_S (cell x0 0) (cell x0 1) (cell x0 2) v6)) (
 jmp [1,1,1,1,1] (f24_0_S (cell x0 0) (cell x0 1) (cell x0 2) v3)))))))
def f24_0  (y0 y1 y2 w3:TV):Prg TV :=
 tv (plen (.slice 3) w3) fun v7 =>
 jmp [0,0,1,0,1,4,0,1,4,0,1,1,1,1,1] (f24_1_S v7 (I 0) w3 y0 y1 y2)
def f24_1  (x0 x1 w2 y3 y4 y5:TV):Prg TV :=
 tv (pbin (.int .i64) .lss x1 x0) fun v8 =>
 Prg.ite (asBool v8) (
 nat (slLen w2) fun n9 =>
 nat (asNat x1) fun n10 =>
 chk (Bool.and (slSize w2 1) (Nat.blt n10 n9)) (
 tvs (pel w2 n10) fun e11 =>
 chk (fitsAt zInt e11 0) (
 call 45 [agg [y3,y4,y5],nth hole e11 0] fun v12 =>
 chk (fitsAt zBool [v12] 0) (
 tv (pun .not v12) fun v13 =>
 Prg.ite (asBool v13) (
 tv (pbin (.int .i64) .eql x1 (TV.lit (Value.int IntKind.i64 (-1)))) fun v14 =>
 Prg.ite (asBool v14) (
 chk (isOwn w2) (
 ret w2)) (
 tv (pbin (.int .i64) .add x1 (I 1)) fun v15 =>
 jmp [0,0,1,0,1,1,1,4,0,1,1,1,1,1] (f24_2_S x1 v15 w2 y3 y4 y5))) (
 tv (pbin (.int .i64) .add x1 (I 1)) fun v16 =>
 jmp [0,0,1,0,1,4,0,1,4,0,1,1,1,1,1] (f24_1_S x0 v16 w2 y3 y4 y5)))))) (
 tv (pbin (.int .i64) .eql (TV.lit (Value.int IntKind.i64 (-1))) (TV.lit (Value.int IntKind.i64 (-1)))) fun v17 =>
 Prg.ite (asBool v17) (
 chk (isOwn w2) (
 ret w2)) (
 tv (pbin (.int .i64) .add (TV.lit (Value.int IntKind.i64 (-1))) (I 1)) fun v18 =>
 jmp [0,0,1,0,1,1,1,4,0,1,1,1,1,1] (f24_2_S (TV.lit (Value.int IntKind.i64 (-1))) v18 w2 y3 y4 y5)))
def f24_2  (x0 x1 w2 y3 y4 y5:TV):Prg TV :=
 tv (plen (.slice 3) w2) fun v19 =>
 tv (pbin (.int .i64) .lss x1 v19) fun v20 =>
 Prg.ite (asBool v20) (
 nat (slLen w2) fun n21 =>
 nat (asNat x1) fun n22 =>
 chk (Bool.and (slSize w2 1) (Nat.blt n22 n21)) (
 tvs (pel w2 n22) fun e23 =>
 chk (fitsAt zInt e23 0) (
 call 45 [agg [y3,y4,y5],nth hole e23 0] fun v24 =>
 chk (fitsAt zBool [v24] 0) (
 tv (pun .not v24) fun v25 =>
 tv (pun .not v25) fun v26 =>
 Prg.ite (asBool v26) (
 nat (slLen w2) fun n27 =>
 nat (asNat x0) fun n28 =>
 chk (Bool.and (slSize w2 1) (Nat.blt n28 n27)) (
 tvs (pel w2 n28) fun e29 =>
 chk (fitsAt zInt e29 0) (
 tv (setC [] w2 n28 0 [nth hole e23 0]) fun v30 =>
 tv (pbin (.int .i64) .add x0 (I 1)) fun v31 =>
 tv (pbin (.int .i64) .add x1 (I 1)) fun v32 =>
 jmp [0,0,1,0,1,1,1,4,0,1,1,1,1,1] (f24_2_S v31 v32 v30 y3 y4 y5)))) (
 tv (pbin (.int .i64) .add x1 (I 1)) fun v33 =>
 jmp [0,0,1,0,1,1,1,4,0,1,1,1,1,1] (f24_2_S x0 v33 w2 y3 y4 y5)))))) (
 jmp [1,1,1,1,4,0,1,1,1,1,1] (f24_3_S x0 w2))
def f24_3  (x0 w1:TV):Prg TV :=
 nat (slLen w1) fun n34 =>
 nat (asNat x0) fun n35 =>
 chk (Bool.and (Bool.and (slSize w1 1) (Nat.ble (Option.getD (some n35) 0) (Option.getD none n34))) (Nat.ble (Option.getD none n34) n34)) (
 tv (pclear 1 [I 0] (Option.getD (some n35) 0) ((Option.getD none n34) - (Option.getD (some n35) 0)) w1) fun v36 =>
 nat (slLen v36) fun n37 =>
 nat (asNat x0) fun n38 =>
 chk (Bool.and (Bool.and (slSize v36 1) (Nat.ble 0 (Option.getD (some n38) n37))) (Nat.ble (Option.getD (some n38) n37) n37)) (
 tv (winP 0 ((Option.getD (some n38) n37) - 0) v36) fun v39 =>
 chk (isOwn v39) (
 ret v39)))
theorem f24_MR (x0 x1:TV):startQ prog 24 [x0,x1]=f24_M x0 x1:=by kernel_rfl
theorem f24_0_J  {y0 y1 y2 w3:TV} {r:TV} (h:Goes prog 24 (f24_0 y0 y1 y2 w3) r):Goes prog 24 (.jmp [1,1,1,1,1] (f24_0_S y0 y1 y2 w3)) r:=Goes.jmp (by kernel_rfl) h
theorem f24_1_J  {x0 x1 w2 y3 y4 y5:TV} {r:TV} (h:Goes prog 24 (f24_1 x0 x1 w2 y3 y4 y5) r):Goes prog 24 (.jmp [0,0,1,0,1,4,0,1,4,0,1,1,1,1,1] (f24_1_S x0 x1 w2 y3 y4 y5)) r:=Goes.jmp (by kernel_rfl) h
theorem f24_2_J  {x0 x1 w2 y3 y4 y5:TV} {r:TV} (h:Goes prog 24 (f24_2 x0 x1 w2 y3 y4 y5) r):Goes prog 24 (.jmp [0,0,1,0,1,1,1,4,0,1,1,1,1,1] (f24_2_S x0 x1 w2 y3 y4 y5)) r:=Goes.jmp (by kernel_rfl) h
theorem f24_3_J  {x0 w1:TV} {r:TV} (h:Goes prog 24 (f24_3 x0 w1) r):Goes prog 24 (.jmp [1,1,1,1,4,0,1,1,1,1,1] (f24_3_S x0 w1)) r:=Goes.jmp (by kernel_rfl) h
def f26_0_S  (x0 x1 x2 y3 y4 y5 w6:TV):ASt:=⟨[AV.one CA.junk,AV.tv x0,AV.one (CA.ptr 0 0),AV.one CA.junk,AV.one CA.junk,AV.one (CA.sref 1 0 []),AV.one CA.junk,AV.one CA.junk,AV.one CA.junk,AV.tv x1,AV.tv x2] ++ List.replicate 13 (AV.one CA.junk),[some (BC.cells [CA.t y3,CA.t y4,CA.t y5]),some (BC.tree [w6])] ++ List.replicate 46 (none),[]⟩
def f26_M (x0 x1:TV):Prg TV :=
 chk (TV.isAgg x0 3) (
 tv (plen (.slice 54) (cell x0 2)) fun v0 =>
 chk true (
 jmp [0,0,1,0,1,1] (f26_0_S x1 v0 (I 0) (cell x0 0) (cell x0 1) (cell x0 2) (TV.lit nilV))))
def f26_0  (x0 x1 x2 y3 y4 y5 w6:TV):Prg TV :=
 tv (pbin (.int .i64) .lss x2 x1) fun v1 =>
 Prg.ite (asBool v1) (
 call 24 [agg [y3,y4,y5],x2] fun v2 =>
 chk (fitsAt zSl [v2] 0) (
 call 49 [frz v2,x0] fun v3 =>
 chk (fitsAt zBool [v3] 0) (
 Prg.ite (asBool v3) (
 chk (TV.isOne x2) (
 rws (pelems 1 (TV.sl true 1 (chunks 1 1 [x2]))) fun r4 =>
 tv (papp 1 w6 (lfLL r4)) fun v5 =>
 tv (pbin (.int .i64) .add x2 (I 1)) fun v6 =>
 jmp [0,0,1,0,1,1] (f26_0_S x0 x1 v6 y3 y4 y5 v5))) (
 tv (pbin (.int .i64) .add x2 (I 1)) fun v7 =>
 jmp [0,0,1,0,1,1] (f26_0_S x0 x1 v7 y3 y4 y5 w6))))) (
 chk (isOwn w6) (
 ret w6))
theorem f26_MR (x0 x1:TV):startQ prog 26 [x0,x1]=f26_M x0 x1:=by kernel_rfl
theorem f26_0_J  {x0 x1 x2 y3 y4 y5 w6:TV} {r:TV} (h:Goes prog 26 (f26_0 x0 x1 x2 y3 y4 y5 w6) r):Goes prog 26 (.jmp [0,0,1,0,1,1] (f26_0_S x0 x1 x2 y3 y4 y5 w6)) r:=Goes.jmp (by kernel_rfl) h
def f29_0_S  (x0 x1 w2 w3:TV):ASt:=⟨[AV.one CA.junk,AV.one CA.junk,AV.one CA.junk,AV.one (CA.sref 0 0 [])] ++ List.replicate 7 (AV.one CA.junk) ++ [AV.one (CA.sref 1 0 []),AV.tv x0,AV.tv x1] ++ List.replicate 8 (AV.one CA.junk),[some (BC.tree [w2]),some (BC.tree [w3])] ++ List.replicate 44 (none),[]⟩
def f29_M (x0:TV):Prg TV :=
 chk (TV.isAgg x0 3) (
 tv (plen (.slice 54) (cell x0 2)) fun v0 =>
 nat (asNat v0) fun n1 =>
 nat (asNat v0) fun n2 =>
 chk (Bool.and (Nat.ble n1 n2) (Nat.ble n2 4294967296)) (
 call 31 [agg [cell x0 0,cell x0 1,cell x0 2]] fun v3 =>
 chk (fitsAt zSl [v3] 0) (
 tv (plen (.slice 3) v3) fun v4 =>
 jmp [0,0,1,0,1,1] (f29_0_S v4 (I 0) (TV.sl true 1 (List.replicate n1 [B false])) v3))))
def f29_0  (x0 x1 w2 w3:TV):Prg TV :=
 tv (pbin (.int .i64) .lss x1 x0) fun v5 =>
 Prg.ite (asBool v5) (
 nat (slLen w3) fun n6 =>
 nat (asNat x1) fun n7 =>
 chk (Bool.and (slSize w3 1) (Nat.blt n7 n6)) (
 tvs (pel w3 n7) fun e8 =>
 chk (fitsAt zInt e8 0) (
 nat (slLen w2) fun n9 =>
 nat (asNat (nth hole e8 0)) fun n10 =>
 chk (Bool.and (slSize w2 1) (Nat.blt n10 n9)) (
 tvs (pel w2 n10) fun e11 =>
 chk (fitsAt zBool e11 0) (
 tv (setC [] w2 n10 0 [B true]) fun v12 =>
 tv (pbin (.int .i64) .add x1 (I 1)) fun v13 =>
 jmp [0,0,1,0,1,1] (f29_0_S x0 v13 v12 w3)))))) (
 ret w2)
theorem f29_MR (x0:TV):startQ prog 29 [x0]=f29_M x0:=by kernel_rfl
theorem f29_0_J  {x0 x1 w2 w3:TV} {r:TV} (h:Goes prog 29 (f29_0 x0 x1 w2 w3) r):Goes prog 29 (.jmp [0,0,1,0,1,1] (f29_0_S x0 x1 w2 w3)) r:=Goes.jmp (by kernel_rfl) h
def f31_0_S  (y0 y1 y2 w3 w4 w5:TV):ASt:=⟨[AV.one CA.junk,AV.one CA.junk,AV.one CA.junk,AV.one (CA.ptr 0 0)] ++ List.replicate 21 (AV.one CA.junk),[some (BC.cells [CA.t y0,CA.t y1,CA.t y2,CA.sref 1 0 [],CA.sref 2 0 [],CA.sref 3 0 []]),some (BC.tree [w3]),some (BC.tree [w4]),some (BC.tree [w5])] ++ List.replicate 45 (none),[]⟩
def f31_1_S  (x0 x1 w2 y3 y4 y5 w6 w7:TV):ASt:=⟨[AV.one (CA.sref 0 0 []),AV.one CA.junk,AV.tv x0,AV.tv x1] ++ List.replicate 24 (AV.one CA.junk),[some (BC.tree [w2]),some (BC.cells [CA.t y3,CA.t y4,CA.t y5,CA.sref 2 0 [],CA.sref 3 0 [],CA.sref 0 0 []]),some (BC.tree [w6]),some (BC.tree [w7])] ++ List.replicate 73 (none),([AV.one CA.junk,AV.one CA.junk,AV.one CA.junk,AV.one (CA.ptr 1 0)] ++ List.replicate 21 (AV.one CA.junk))⟩
def f31_M (x0:TV):Prg TV :=
 chk (TV.isAgg x0 3) (
 tv (plen (.slice 54) (cell x0 2)) fun v0 =>
 tv (pbin (.int .i64) .eql v0 (I 0)) fun v1 =>
 Prg.ite (asBool v1) (
 chk true (
 ret (TV.lit nilV))) (
 tv (plen (.slice 54) (cell x0 2)) fun v2 =>
 nat (asNat v2) fun n3 =>
 nat (asNat v2) fun n4 =>
 chk (Bool.and (Nat.ble n3 n4) (Nat.ble n4 4294967296)) (
 nat (slLen (TV.sl true 1 (List.replicate n3 [B false]))) fun n5 =>
 nat (asNat (I 0)) fun n6 =>
 chk (Bool.and (slSize (TV.sl true 1 (List.replicate n3 [B false])) 1) (Nat.blt n6 n5)) (
 tvs (pel (TV.sl true 1 (List.replicate n3 [B false])) n6) fun e7 =>
 chk (fitsAt zBool e7 0) (
 tv (setC [] (TV.sl true 1 (List.replicate n3 [B false])) n6 0 [B true]) fun v8 =>
 call 24 [agg [cell x0 0,cell x0 1,cell x0 2],I 0] fun v9 =>
 chk (fitsAt zSl [v9] 0) (
 rws (pelems 2 (TV.sl true 2 (chunks 2 1 [I 0,v9]))) fun r10 =>
 tv (papp 2 (TV.lit nilV) r10) fun v11 =>
 chk true (
 jmp [0,0,0,1,1,1,1] (f31_0_S (cell x0 0) (cell x0 1) (cell x0 2) v8 (coolT v11) (TV.lit nilV)))))))))
def f31_0  (y0 y1 y2 w3 w4 w5:TV):Prg TV :=
 tv (plen (.slice 120) w4) fun v12 =>
 tv (pbin (.int .i64) .gtr v12 (I 0)) fun v13 =>
 Prg.ite (asBool v13) (
 tv (plen (.slice 120) w4) fun v14 =>
 tv (pbin (.int .i64) .sub v14 (I 1)) fun v15 =>
 nat (slLen w4) fun n16 =>
 nat (asNat v15) fun n17 =>
 chk (Bool.and (slSize w4 2) (Nat.blt n17 n16)) (
 tvs (pel w4 n17) fun e18 =>
 chk (fitsAt zSl e18 1) (
 tv (getP [(n17,1)] w4) fun v19 =>
 tv (plen (.slice 3) v19) fun v20 =>
 tv (pbin (.int .i64) .eql v20 (I 0)) fun v21 =>
 Prg.ite (asBool v21) (
 tv (plen (.slice 120) w4) fun v22 =>
 tv (pbin (.int .i64) .sub v22 (I 1)) fun v23 =>
 nat (slLen w4) fun n24 =>
 nat (asNat v23) fun n25 =>
 chk (Bool.and (slSize w4 2) (Nat.blt n25 n24)) (
 tvs (pel w4 n25) fun e26 =>
 chk (fitsAt zInt e26 0) (
 rws (pelems 1 (TV.sl true 1 (chunks 1 1 [nth hole e26 0]))) fun r27 =>
 tv (papp 1 w5 (lfLL r27)) fun v28 =>
 nat (slLen w4) fun n29 =>
 nat (asNat v23) fun n30 =>
 chk (Bool.and (Bool.and (slSize w4 2) (Nat.ble 0 (Option.getD (some n30) n29))) (Nat.ble (Option.getD (some n30) n29) n29)) (
 tv (winP 0 ((Option.getD (some n30) n29) - 0) w4) fun v31 =>
 jmp [0,0,0,1,1,1,1] (f31_0_S y0 y1 y2 w3 (coolT v31) v28))))) (
 tvs (pel w4 n17) fun e32 =>
 chk (fitsAt zSl e32 1) (
 tv (getP [(n17,1)] w4) fun v33 =>
 nat (slLen v33) fun n34 =>
 nat (asNat (I 0)) fun n35 =>
 chk (Bool.and (slSize v33 1) (Nat.blt n35 n34)) (
 tv (getP [(n17,1)] w4) fun v36 =>
 tvs (pel v36 n35) fun e37 =>
 chk (fitsAt zInt e37 0) (
 tvs (pel w4 n17) fun e38 =>
 chk (fitsAt zSl e38 1) (
 tv (getP [(n17,1)] w4) fun v39 =>
 nat (slLen v39) fun n40 =>
 nat (asNat (I 1)) fun n41 =>
 chk (Bool.and (Bool.and (slSize v39 1) (Nat.ble (Option.getD (some n41) 0) (Option.getD none n40))) (Nat.ble (Option.getD none n40) n40)) (
 tv (getP [(n17,1)] w4) fun v42 =>
 tv (winP (Option.getD (some n41) 0) ((Option.getD none n40) - (Option.getD (some n41) 0)) v42) fun v43 =>
 chk (TV.isFr v43) (
 tvs (pel w4 n17) fun e44 =>
 chk (Bool.and (fitsAt zSl e44 1) (fitsAt zSl [v43] 0)) (
 tv (setC [] w4 n17 1 [v43]) fun v45 =>
 nat (slLen w3) fun n46 =>
 nat (asNat (nth hole e37 0)) fun n47 =>
 chk (Bool.and (slSize w3 1) (Nat.blt n47 n46)) (
 tvs (pel w3 n47) fun e48 =>
 chk (fitsAt zBool e48 0) (
 tv (pun .not (nth hole e48 0)) fun v49 =>
 Prg.ite (asBool v49) (
 nat (slLen w3) fun n50 =>
 nat (asNat (nth hole e37 0)) fun n51 =>
 chk (Bool.and (slSize w3 1) (Nat.blt n51 n50)) (
 tvs (pel w3 n51) fun e52 =>
 chk (fitsAt zBool e52 0) (
 tv (setC [] w3 n51 0 [B true]) fun v53 =>
 call 24 [agg [y0,y1,y2],nth hole e37 0] fun v54 =>
 chk (fitsAt zSl [v54] 0) (
 rws (pelems 2 (TV.sl true 2 (chunks 2 1 [nth hole e37 0,v54]))) fun r55 =>
 tv (papp 2 v45 r55) fun v56 =>
 jmp [0,0,0,1,1,1,1] (f31_0_S y0 y1 y2 v53 (coolT v56) w5))))) (
 jmp [0,0,0,1,1,1,1] (f31_0_S y0 y1 y2 w3 (coolT v45) w5))))))))))))))) (
 tv (plen (.slice 3) w5) fun v57 =>
 tv (pbin (.int .i64) .sub v57 (I 1)) fun v58 =>
 jmp [0,0,1,4,0,1,1,1,1,1] (f31_1_S (I 0) v58 w5 y0 y1 y2 w3 w4))
def f31_1  (x0 x1 w2 y3 y4 y5 w6 w7:TV):Prg TV :=
 tv (pbin (.int .i64) .lss x0 x1) fun v59 =>
 Prg.ite (asBool v59) (
 nat (slLen w2) fun n60 =>
 nat (asNat x1) fun n61 =>
 chk (Bool.and (slSize w2 1) (Nat.blt n61 n60)) (
 tvs (pel w2 n61) fun e62 =>
 chk (fitsAt zInt e62 0) (
 nat (slLen w2) fun n63 =>
 nat (asNat x0) fun n64 =>
 chk (Bool.and (slSize w2 1) (Nat.blt n64 n63)) (
 tvs (pel w2 n64) fun e65 =>
 chk (fitsAt zInt e65 0) (
 nat (slLen w2) fun n66 =>
 nat (asNat x0) fun n67 =>
 chk (Bool.and (slSize w2 1) (Nat.blt n67 n66)) (
 tvs (pel w2 n67) fun e68 =>
 chk (fitsAt zInt e68 0) (
 tv (setC [] w2 n67 0 [nth hole e62 0]) fun v69 =>
 nat (slLen v69) fun n70 =>
 nat (asNat x1) fun n71 =>
 chk (Bool.and (slSize v69 1) (Nat.blt n71 n70)) (
 tvs (pel v69 n71) fun e72 =>
 chk (fitsAt zInt e72 0) (
 tv (setC [] v69 n71 0 [nth hole e65 0]) fun v73 =>
 tv (pbin (.int .i64) .add x0 (I 1)) fun v74 =>
 tv (pbin (.int .i64) .sub x1 (I 1)) fun v75 =>
 jmp [0,0,1,4,0,1,1,1,1,1] (f31_1_S v74 v75 v73 y3 y4 y5 w6 w7)))))))))) (
 chk (isOwn w2) (
 ret w2))
theorem f31_MR (x0:TV):startQ prog 31 [x0]=f31_M x0:=by kernel_rfl
theorem f31_0_J  {y0 y1 y2 w3 w4 w5:TV} {r:TV} (h:Goes prog 31 (f31_0 y0 y1 y2 w3 w4 w5) r):Goes prog 31 (.jmp [0,0,0,1,1,1,1] (f31_0_S y0 y1 y2 w3 w4 w5)) r:=Goes.jmp (by kernel_rfl) h
theorem f31_1_J  {x0 x1 w2 y3 y4 y5 w6 w7:TV} {r:TV} (h:Goes prog 31 (f31_1 x0 x1 w2 y3 y4 y5 w6 w7) r):Goes prog 31 (.jmp [0,0,1,4,0,1,1,1,1,1] (f31_1_S x0 x1 w2 y3 y4 y5 w6 w7)) r:=Goes.jmp (by kernel_rfl) h
def f33_0_S  (x0 x1 x2:TV):ASt:=⟨[AV.tv x0,AV.tv x1,AV.one CA.junk,AV.one CA.junk,AV.one CA.junk,AV.tv x2] ++ List.replicate 12 (AV.one CA.junk),List.replicate 42 (none),[]⟩
def f33_M (x0 x1:TV):Prg TV :=
 jmp [0,0,1,0,1] (f33_0_S x0 x1 (I 0))
def f33_0  (x0 x1 x2:TV):Prg TV :=
 tv (plen (.slice 3) x0) fun v0 =>
 tv (pbin (.int .i64) .lss x2 v0) fun v1 =>
 Prg.ite (asBool v1) (
 tvs (pidx 1 x0 x2) fun e2 =>
 chk (Nat.blt 0 (List.length e2)) (
 tv (pbin (.int .i64) .eql (nth hole e2 0) x1) fun v3 =>
 Prg.ite (asBool v3) (
 ret (B true)) (
 tv (pbin (.int .i64) .add x2 (I 1)) fun v4 =>
 jmp [0,0,1,0,1] (f33_0_S x0 x1 v4)))) (
 ret (B false))
theorem f33_MR (x0 x1:TV):startQ prog 33 [x0,x1]=f33_M x0 x1:=by kernel_rfl
theorem f33_0_J  {x0 x1 x2:TV} {r:TV} (h:Goes prog 33 (f33_0 x0 x1 x2) r):Goes prog 33 (.jmp [0,0,1,0,1] (f33_0_S x0 x1 x2)) r:=Goes.jmp (by kernel_rfl) h
end Go.Ab.U7
end
section
set_option linter.unusedVariables false
set_option maxRecDepth 100000
namespace Go.Ab.U7
open Go Go.Ab Go.Proofs
open Go.Ab.TV (hole cell comp isSl isSc isTup cellsL tup agg)
open Go.Ab.Prg (tv tvs rws nat chk call jmp ret)
def f45_M (x0 x1:TV):Prg TV :=
 chk (TV.isAgg x0 3) (
 tv (pbin (.int .i64) .leq (I 0) x1) fun v0 =>
 Prg.ite (asBool v0) (
 tv (plen (.slice 54) (cell x0 2)) fun v1 =>
 tv (pbin (.int .i64) .lss x1 v1) fun v2 =>
 ret v2) (
 ret (B false)))
theorem f45_MR (x0 x1:TV):startQ prog 45 [x0,x1]=f45_M x0 x1:=by kernel_rfl
def f46_0_S  (x0 y1 y2 y3 y4 y5 y6 y7 y8 y9 y10 y11 y12 y13 y14 w15:TV):ASt:=⟨[AV.one CA.junk,AV.one (CA.ptr 0 0),AV.one CA.junk,AV.one CA.junk,AV.one (CA.sref 1 0 [])] ++ List.replicate 13 (AV.one CA.junk) ++ [AV.tv x0] ++ List.replicate 7 (AV.one CA.junk),[some (BC.cells [CA.t y1,CA.t y2,CA.t y3,CA.t y4,CA.t y5,CA.t y6,CA.t y7,CA.t y8,CA.t y9,CA.t y10,CA.t y11,CA.t y12,CA.t y13,CA.t y14]),some (BC.tree [w15])] ++ List.replicate 48 (none),[]⟩
def f46_M (x0:TV):Prg TV :=
 chk (TV.isAgg x0 14) (
 call 74 [cell x0 6] fun v0 =>
 chk (fitsAt zInt [v0] 0) (
 call 75 [v0,I 64] fun v1 =>
 chk (fitsAt zBool [v1] 0) (
 Prg.ite (asBool v1) (
 rws (pelems 1 (TV.sl true 1 (chunks 1 1 [cell x0 11]))) fun r2 =>
 tv (papp 1 (TV.lit nilV) (lfLL r2)) fun v3 =>
 call 75 [v0,I 128] fun v4 =>
 chk (fitsAt zBool [v4] 0) (
 jmp [1,0,1,1,1,1] (f46_0_S v4 (cell x0 0) (cell x0 1) (cell x0 2) (cell x0 3) (cell x0 4) (cell x0 5) (cell x0 6) (cell x0 7) (cell x0 8) (cell x0 9) (cell x0 10) (cell x0 11) (cell x0 12) (cell x0 13) v3))) (
 call 75 [v0,I 128] fun v5 =>
 chk (fitsAt zBool [v5] 0) (
 chk true (
 jmp [1,0,1,1,1,1] (f46_0_S v5 (cell x0 0) (cell x0 1) (cell x0 2) (cell x0 3) (cell x0 4) (cell x0 5) (cell x0 6) (cell x0 7) (cell x0 8) (cell x0 9) (cell x0 10) (cell x0 11) (cell x0 12) (cell x0 13) (TV.lit nilV))))))))
def f46_0  (x0 y1 y2 y3 y4 y5 y6 y7 y8 y9 y10 y11 y12 y13 y14 w15:TV):Prg TV :=
 Prg.ite (asBool x0) (
 rws (pelems 1 (TV.sl true 1 (chunks 1 1 [y13]))) fun r6 =>
 tv (papp 1 w15 (lfLL r6)) fun v7 =>
 chk (isOwn v7) (
 ret v7)) (
 chk (isOwn w15) (
 ret w15))
theorem f46_MR (x0:TV):startQ prog 46 [x0]=f46_M x0:=by kernel_rfl
theorem f46_0_J  {x0 y1 y2 y3 y4 y5 y6 y7 y8 y9 y10 y11 y12 y13 y14 w15:TV} {r:TV} (h:Goes prog 46 (f46_0 x0 y1 y2 y3 y4 y5 y6 y7 y8 y9 y10 y11 y12 y13 y14 w15) r):Goes prog 46 (.jmp [1,0,1,1,1,1] (f46_0_S x0 y1 y2 y3 y4 y5 y6 y7 y8 y9 y10 y11 y12 y13 y14 w15)) r:=Goes.jmp (by kernel_rfl) h
def f49_M (x0 x1:TV):Prg TV :=
 call 77 [x0,x1] fun v0 =>
 chk (fitsAt zInt [v0] 0) (
 tv (pbin (.int .i64) .geq v0 (I 0)) fun v1 =>
 ret v1)
theorem f49_MR (x0 x1:TV):startQ prog 49 [x0,x1]=f49_M x0 x1:=by kernel_rfl
def f74_M (x0:TV):Prg TV :=
 tv (pbin (.int .i64) .eql x0 (I 1)) fun v0 =>
 Prg.ite (asBool v0) (
 Prg.ite (asBool v0) (
 ret (I 5)) (
 tv (pbin (.int .i64) .eql x0 (I 2)) fun v1 =>
 Prg.ite (asBool v1) (
 ret (I 65)) (
 tv (pbin (.int .i64) .eql x0 (I 3)) fun v2 =>
 Prg.ite (asBool v2) (
 ret (I 197)) (
 tv (pbin (.int .i64) .eql x0 (I 4)) fun v3 =>
 Prg.ite (asBool v3) (
 ret (I 355)) (
 tv (pbin (.int .i64) .eql x0 (I 6)) fun v4 =>
 Prg.ite (asBool v4) (
 ret (I 1)) (
 ret (I 0))))))) (
 tv (pbin (.int .i64) .eql x0 (I 5)) fun v5 =>
 Prg.ite (asBool v5) (
 ret (I 5)) (
 tv (pbin (.int .i64) .eql x0 (I 2)) fun v6 =>
 Prg.ite (asBool v6) (
 ret (I 65)) (
 tv (pbin (.int .i64) .eql x0 (I 3)) fun v7 =>
 Prg.ite (asBool v7) (
 ret (I 197)) (
 tv (pbin (.int .i64) .eql x0 (I 4)) fun v8 =>
 Prg.ite (asBool v8) (
 ret (I 355)) (
 tv (pbin (.int .i64) .eql x0 (I 6)) fun v9 =>
 Prg.ite (asBool v9) (
 ret (I 1)) (
 ret (I 0)))))))
theorem f74_MR (x0:TV):startQ prog 74 [x0]=f74_M x0:=by kernel_rfl
end Go.Ab.U7
end
section
set_option linter.unusedVariables false
set_option maxRecDepth 100000
namespace Go.Ab.U7
open Go Go.Ab Go.Proofs
open Go.Ab.TV (hole cell comp isSl isSc isTup cellsL tup agg)
open Go.Ab.Prg (tv tvs rws nat chk call jmp ret)
def f75_M (x0 x1:TV):Prg TV :=
 tv (pbin (.int .i64) .and x0 x1) fun v0 =>
 tv (pbin (.int .i64) .neq v0 (I 0)) fun v1 =>
 ret v1
theorem f75_MR (x0 x1:TV):startQ prog 75 [x0,x1]=f75_M x0 x1:=by kernel_rfl
def f77_0_S  (x0 x1 x2 x3:TV):ASt:=⟨[AV.tv x0,AV.tv x1] ++ List.replicate 5 (AV.one CA.junk) ++ [AV.tv x2,AV.tv x3] ++ List.replicate 10 (AV.one CA.junk),List.replicate 43 (none),[]⟩
def f77_M (x0 x1:TV):Prg TV :=
 tv (plen (.slice 3) x0) fun v0 =>
 jmp [0,0,1,0,1] (f77_0_S x0 x1 v0 (I 0))
def f77_0  (x0 x1 x2 x3:TV):Prg TV :=
 tv (pbin (.int .i64) .lss x3 x2) fun v1 =>
 Prg.ite (asBool v1) (
 tvs (pidx 1 x0 x3) fun e2 =>
 chk (Nat.blt 0 (List.length e2)) (
 tv (pbin (.int .i64) .eql x1 (nth hole e2 0)) fun v3 =>
 Prg.ite (asBool v3) (
 ret x3) (
 tv (pbin (.int .i64) .add x3 (I 1)) fun v4 =>
 jmp [0,0,1,0,1] (f77_0_S x0 x1 x2 v4)))) (
 ret (TV.lit (Value.int IntKind.i64 (-1))))
theorem f77_MR (x0 x1:TV):startQ prog 77 [x0,x1]=f77_M x0 x1:=by kernel_rfl
theorem f77_0_J  {x0 x1 x2 x3:TV} {r:TV} (h:Goes prog 77 (f77_0 x0 x1 x2 x3) r):Goes prog 77 (.jmp [0,0,1,0,1] (f77_0_S x0 x1 x2 x3)) r:=Goes.jmp (by kernel_rfl) h
end Go.Ab.U7
end
section
set_option linter.unusedVariables false
set_option maxRecDepth 10000
namespace Go.Ab
end Go.Ab
namespace Go.Ab.U7
open Go Go.Ab Go.Proofs
def usesE (k:Int):Int :=
 if k=1 then 5 else if k=5 then 5 else if k=2 then 65 else if k=3 then 197 else if k=4 then 355 else if k=6 then 1 else 0
def has (u f:Int):Bool:=decide (¬ IntKind.i64.wrap ((BitVec.ofInt 64 u &&& BitVec.ofInt 64 f).toNat:Int)=0)
theorem r25 (u f:Int):Runs prog 75 [I u,I f] (B (has u f)):=by
 refine Runs.of (f75_MR _ _) ?_
 unfold f75_M
 repeat' (first
  | refine Goes.chk rfl ?_
  | refine Goes.tv rfl ?_
  | refine Goes.tv (RL.len (by assumption)) ?_
  | refine Goes.nat rfl ?_
  | refine Goes.ite rfl (fun _=>?_) (fun _=>?_)
  | refine Goes.call (by assumption) ?_
  | refine Goes.tvs (by assumption) ?_)
 refine goes_ret.2 ?_
 simp [has]
 rfl
theorem r24 (k:Int):Runs prog 74 [I k] (I (usesE k)):=by
 refine Runs.of (f74_MR _) ?_
 unfold f74_M
 repeat' (first
  | refine Goes.chk rfl ?_
  | refine Goes.tv rfl ?_
  | refine Goes.tv (RL.len (by assumption)) ?_
  | refine Goes.nat rfl ?_
  | refine Goes.ite rfl (fun _=>?_) (fun _=>?_)
  | refine Goes.call (by assumption) ?_
  | refine Goes.tvs (by assumption) ?_)
 all_goals (refine goes_ret.2 ?_; simp_all [usesE])
end Go.Ab.U7
end
section
set_option linter.unusedVariables false
set_option maxRecDepth 10000
namespace Go.Ab
theorem asNat_nat {k:Nat} (h:k≤9223372036854775807):asNat (I (k:Int))=some k:=by
 simp [asNat]; omega
end Go.Ab
namespace Go.Ab.U7
open Go Go.Ab Go.Proofs
end Go.Ab.U7
end
section
set_option linter.unusedVariables false
set_option maxRecDepth 10000
namespace Go.Ab
section
variable {α:Type} {s:Nat} {R S:Nat→List TV→α→Prop} {x:TV} {l:List α}
theorem setNth_len {β:Type}:∀ (l:List β) (n:Nat) (b:β),(setNth l n b).length=l.length
 | [],_,_=>rfl
 | _ :: _,0,_=>rfl
 | a :: l,n + 1,b=>by simp [setNth,setNth_len l n b]
end
theorem RL.isFr {α:Type} {s:Nat} {R:List TV→α→Prop} {x:TV} {l:List α} (h:RL (some false) s R x l):x.isFr=true:=by
 rcases h with ⟨rfl,rfl⟩ | ⟨o,xs,rfl,hq,h,hb⟩
 ·rfl
 ·rw [hq false rfl]; rfl
theorem isOwnLL_all:∀ (xs:List (List TV)),(∀ e ∈ xs,isOwnL e=true)→isOwnLL xs=true
 | [],_=>rfl
 | e :: xs,h=>by
  simp only [isOwnLL,Bool.and_eq_true]
  exact ⟨h e List.mem_cons_self,isOwnLL_all xs fun e he=>h e (List.mem_cons_of_mem _ he)⟩
theorem F2.memL {α β:Type} {R:α→β→Prop} {xs:List α} {l:List β} (h:F2 R xs l) {e:α} (he:e ∈ xs):∃ a,a ∈ l∧R e a:=by
 obtain ⟨i,hi,rfl⟩:=List.mem_iff_getElem.1 he
 obtain ⟨a,ha,hr⟩:=h.getL (List.getElem?_eq_getElem hi)
 exact ⟨a,List.mem_of_getElem? ha,hr⟩
theorem RL.own {α:Type} {s:Nat} {R:List TV→α→Prop} {x:TV} {l:List α} (h:RL (some true) s R x l) (hm:∀ e a,R e a→isOwnL e=true):isOwn x=true:=by
 rcases h with ⟨rfl,rfl⟩ | ⟨o,xs,rfl,hq,h,hb⟩
 ·rfl
 ·rw [hq true rfl]
  simp only [isOwn,Bool.true_and]
  refine isOwnLL_all _ fun e he=>?_
  obtain ⟨a,_,hr⟩:=h.memL he
  exact hm _ _ hr
theorem RI1.own {e:List TV} {n:Int} (h:RI1 e n):isOwnL e=true:=by obtain ⟨rfl,_⟩:=h; rfl
end Go.Ab
namespace Go.Ab.U7
open Go Go.Ab Go.Proofs
end Go.Ab.U7
end
section
set_option linter.unusedVariables false
set_option maxRecDepth 10000
namespace Go.Ab
section
variable {α β:Type} {p:Way} {w y:TV} {s:Nat} {R:List TV→α→Prop} {Q:TV→β→Prop} {G:List α→DMod} {l:List α}
theorem RL.at (hy:RL (some true) s R y l) {k:Nat} {e:List TV} (he:Go.Ab.pel y k=some e):∃ xs,y=.sl true s xs∧xs[k]? = some e∧F2 R xs l∧xs.length≤9223372036854775807:=by
 rcases hy with ⟨rfl,rfl⟩ | ⟨o,xs,rfl,hq,h,hb⟩
 ·simp [Go.Ab.pel] at he
 ·have:o=true:=hq true rfl
  subst this
  exact ⟨xs,rfl,he,h,hb⟩
end
end Go.Ab
namespace Go.Ab.U7
open Go Go.Ab Go.Proofs
end Go.Ab.U7
end
section
set_option linter.unusedVariables false
set_option maxRecDepth 10000
namespace Go.Ab
def gl (b:DBlock):List Int:=(if b.fin.kind=2∨b.fin.kind=3∨b.fin.kind=4 then [b.fin.to] else []) ++ (if b.fin.kind=3 then [b.fin.els] else [])
theorem set_get {M:List Bool} {g i:Nat} (hg:g < M.length):(M.set g true)[i]? = some true ↔ i=g∨M[i]? = some true:=by
 rw [List.getElem?_set]
 by_cases h:g=i
 ·subst h; simp [hg]
 ·simp [h]; intro h'; exact absurd h'.symm h
theorem set_count {M:List Bool} {g:Nat} (hg:M[g]? = some false):(M.set g true).count true=M.count true + 1:=by
 have hlt:=(List.getElem?_eq_some_iff.1 hg).1
 have hv:=(List.getElem?_eq_some_iff.1 hg).2
 rw [List.count_set hlt]
 simp [hv]
theorem count_le (M:List Bool):M.count true≤M.length:=List.count_le_length
section
variable {α:Type} {s:Nat} {R:List TV→α→Prop} {y:TV} {l:List α}
theorem RL.setAt (hy:RL (some true) s R y l) {i:Nat} {e:List TV} (he:Go.Ab.pel y i=some e) {d:Nat} {ys:List TV} {a:α} (hR:R (setCells e d ys) a):∃ y',setC [] y i d ys=some y'∧RL (some true) s R y' (l.set i a):=by
 obtain ⟨xs,rfl,hk,hf,hb⟩:=hy.at he
 refine ⟨.sl true s (setNth xs i (setCells e d ys)),by simp only [setC,getP,setEl,hk,setP],.sl (by simp) (hf.set hR) (by rw [setNth_len]; exact hb)⟩
theorem RL.app (hy:RL (some true) s R y l) {e:List TV} {a:α} (hR:R e a) (hl:l.length + 1≤4294967296):∃ y',papp s y [e]=some y'∧RL (some true) s R y' (l ++ [a]):=by
 rcases hy with ⟨rfl,rfl⟩ | ⟨o,xs,rfl,hq,h,hb⟩
 ·refine ⟨.sl true s [e],by simp [papp,nilV,room,rowT],.sl (by simp) (.cons hR .nil) (by simp)⟩
 ·have:o=true:=hq true rfl
  subst this
  have hxl:=h.length
  refine ⟨.sl true s (xs ++ [e]),?_,.sl (by simp) (h.append (.cons hR .nil)) (by simp; omega)⟩
  simp [papp,room]; omega
theorem RL.win {q:Option Bool} (hy:RL q s R y l) {k:Nat} (hk:k≤l.length):∃ y',winP 0 k y=some y'∧RL q s R y' (l.take k):=by
 rcases hy with ⟨rfl,rfl⟩ | ⟨o,xs,rfl,hq,h,hb⟩
 ·have:k=0:=by simpa using hk
  subst this
  exact ⟨.lit nilV,rfl,by simpa using RL.nil⟩
 ·have hxl:=h.length
  refine ⟨.sl o s ((xs.drop 0).take k),?_,.sl hq (by simpa using h.take k) (by simp; omega)⟩
  simp [winP]; omega
end
end Go.Ab
namespace Go.Ab.U7
open Go Go.Ab Go.Proofs
theorem has64 (k:Int):has (usesE k) 64=true ↔ k=2∨k=3∨k=4:=by
 by_cases h1:k=1
 ·subst h1; exact ⟨fun h=>absurd h (by decide +kernel),fun h=>absurd h (by decide)⟩
 by_cases h5:k=5
 ·subst h5; exact ⟨fun h=>absurd h (by decide +kernel),fun h=>absurd h (by decide)⟩
 by_cases h2:k=2
 ·subst h2; exact ⟨fun _=>.inl rfl,fun _=>by decide +kernel⟩
 by_cases h3:k=3
 ·subst h3; exact ⟨fun _=>.inr (.inl rfl),fun _=>by decide +kernel⟩
 by_cases h4:k=4
 ·subst h4; exact ⟨fun _=>.inr (.inr rfl),fun _=>by decide +kernel⟩
 have:has (usesE k) 64=false:=by
  by_cases h6:k=6
  ·subst h6; decide +kernel
  ·have:usesE k=0:=by simp [usesE, *]
   rw [this]; decide +kernel
 simp [this,h2,h3,h4]
theorem has128 (k:Int):has (usesE k) 128=true ↔ k=3:=by
 by_cases h1:k=1
 ·subst h1; exact ⟨fun h=>absurd h (by decide +kernel),fun h=>absurd h (by decide)⟩
 by_cases h5:k=5
 ·subst h5; exact ⟨fun h=>absurd h (by decide +kernel),fun h=>absurd h (by decide)⟩
 by_cases h2:k=2
 ·subst h2; exact ⟨fun h=>absurd h (by decide +kernel),fun h=>absurd h (by decide)⟩
 by_cases h3:k=3
 ·subst h3; exact ⟨fun _=>rfl,fun _=>by decide +kernel⟩
 by_cases h4:k=4
 ·subst h4; exact ⟨fun h=>absurd h (by decide +kernel),fun h=>absurd h (by decide)⟩
 have:has (usesE k) 128=false:=by
  by_cases h6:k=6
  ·subst h6; decide +kernel
  ·have:usesE k=0:=by simp [usesE, *]
   rw [this]; decide +kernel
 simp [this,h3]
theorem r15 {q:Option Bool} {e:List TV} {b:DBlock} (he:RBlock q e b):∃ y,Runs prog 46 [.agg e] y∧RInts (some true) y (gl b):=by
 obtain ⟨c,i,g,rfl,hc,hd,hi,hg,ho⟩:=he
 obtain ⟨o1,o2,o3,o4,o5,o6,o7⟩:=ho
 have tail:∀ (w:TV) (l:List Int) (u:Bool),RInts (some true) w l→l.length≤1→(u=true ↔ b.fin.kind=3)→∃ y,Goes prog 46 (f46_0 (B u) (B b.landing) (I b.pad.dst) c (B b.pad.all) (B b.pad.cleanup) i (I b.fin.kind) (I b.fin.a) (I b.fin.dst) (I b.fin.f) g (I b.fin.to) (I b.fin.els) (I b.fin.pad) w) y∧RInts (some true) y (l ++ (if b.fin.kind=3 then [b.fin.els] else [])):=by
  intro w l u hw hl hu
  by_cases h:b.fin.kind=3
  ·have hut:u=true:=hu.2 h
   subst hut
   obtain ⟨w',hw',hr⟩:=hw.app (e:=[I b.fin.els]) (a:=b.fin.els) ⟨rfl,o6⟩ (by omega)
   refine ⟨w',?_,by simpa [h] using hr⟩
   unfold f46_0
   exact Goes.ite rfl (fun _=>Goes.rws rfl (Goes.tv hw' (Goes.chk (hr.own fun _ _ h=>h.own) Goes.ret))) fun h=>nomatch h
  ·have huf:u=false:=by cases u with
    | false=>rfl
    | true=>exact absurd (hu.1 rfl) h
   subst huf
   refine ⟨w,?_,by simpa [h] using hw⟩
   unfold f46_0
   exact Goes.ite rfl (fun h=>nomatch h) fun _=>Goes.chk (hw.own fun _ _ h=>h.own) Goes.ret
 by_cases h:b.fin.kind=2∨b.fin.kind=3∨b.fin.kind=4
 ·obtain ⟨y,hy,hr⟩:=tail (.sl true 1 [[I b.fin.to]]) [b.fin.to] (has (usesE b.fin.kind) 128) (.sl (by simp) (.cons ⟨rfl,o5⟩ .nil) (by simp)) (by simp) (has128 _)
  refine ⟨y,?_,by simpa [gl,h] using hr⟩
  refine Runs.of (f46_MR _) ?_
  unfold f46_M
  refine Goes.chk rfl (Goes.call (r24 _) (Goes.chk rfl (Goes.call (r25 _ _) (Goes.chk rfl (Goes.ite (v:=true) (by rw [(has64 _).2 h]; rfl) (fun _=>?_) fun h=>nomatch h)))))
  exact Goes.rws rfl (Goes.tv rfl (Goes.call (r25 _ _) (Goes.chk rfl (f46_0_J hy))))
 ·obtain ⟨y,hy,hr⟩:=tail (.lit nilV) [] (has (usesE b.fin.kind) 128) .nil (by simp) (has128 _)
  refine ⟨y,?_,by simpa [gl,h] using hr⟩
  refine Runs.of (f46_MR _) ?_
  unfold f46_M
  have hf:has (usesE b.fin.kind) 64=false:=by
   cases hh:has (usesE b.fin.kind) 64 with
   | false=>rfl
   | true=>exact absurd ((has64 _).1 hh) h
  refine Goes.chk rfl (Goes.call (r24 _) (Goes.chk rfl (Goes.call (r25 _ _) (Goes.chk rfl (Goes.ite (v:=false) (by rw [hf]; rfl) (fun h=>nomatch h) fun _=>?_)))))
  exact Goes.call (r25 _ _) (Goes.chk rfl (Goes.chk rfl (f46_0_J hy)))
end Go.Ab.U7
end
section
set_option linter.unusedVariables false
set_option maxRecDepth 10000
namespace Go.Ab
def thereB (n:Nat) (g:Int):Bool:=decide (0≤g∧g < (n:Int))
def nx (b:DBlock):List Int:=gl b ++ (if b.fin.kind=4 then [b.fin.pad] else [])
def nextAt (bs:List DBlock) (i:Nat):List Int:=match bs[i]? with
 | some b=>(nx b).filter (thereB bs.length)
 | none=>[]
def nextL (bs:List DBlock) (n:Int):List Int:=if 0≤n then nextAt bs n.toNat else []
theorem nextAt_there {bs:List DBlock} {i:Nat} {g:Int} (h:g ∈ nextAt bs i):0≤g∧g.toNat < bs.length:=by
 unfold nextAt at h
 split at h
 ·have:=(List.mem_filter.1 h).2
  simp only [thereB,decide_eq_true_eq] at this
  omega
 ·cases h
theorem nextL_nat (bs:List DBlock) (i:Nat):nextL bs (i:Int)=nextAt bs i:=by simp [nextL]
theorem nx_len (b:DBlock):(nx b).length≤3:=by
 unfold nx gl
 split <;> split <;> split <;> simp
theorem nextL_len (bs:List DBlock) (n:Int):(nextL bs n).length≤3:=by
 unfold nextL
 split
 ·unfold nextAt
  split
  ·exact Nat.le_trans (List.length_filter_le _ _) (nx_len _)
  ·simp
 ·simp
theorem nextL_out {bs:List DBlock} {n:Int} (h:thereB bs.length n=false):nextL bs n=[]:=by
 unfold nextL
 split
 ·rename_i h0
  unfold nextAt
  rw [List.getElem?_eq_none (by simp [thereB] at h; omega)]
 ·rfl
theorem nextL_in {bs:List DBlock} {n:Int} (h:thereB bs.length n=true):∃ b,bs[n.toNat]? = some b∧nextL bs n=(nx b).filter (thereB bs.length)∧n=(n.toNat:Int):=by
 simp only [thereB,decide_eq_true_eq] at h
 have hl:n.toNat < bs.length:=by omega
 refine ⟨bs[n.toNat],List.getElem?_eq_getElem hl,?_,by omega⟩
 simp only [nextL,h.1,if_true,nextAt,List.getElem?_eq_getElem hl]
theorem filter_takeS {P:Int→Bool} {l:List Int} {j:Nat} {a:Int} (h:l[j]? = some a):(l.take (j + 1)).filter P=(l.take j).filter P ++ (if P a then [a] else []):=by
 rw [List.take_add_one,h,List.filter_append]
 cases hp:P a <;> simp [hp]
section
variable {s:Nat} {α:Type} {R:List TV→α→Prop} {y:TV} {l:List α}
theorem RL.clr (hy:RL (some true) s R y l) {k:Nat} (hk:k≤l.length) (z:List TV):∃ y',pclear s z k (l.length - k) y=some y'∧Go.Ab.slLen y'=some l.length∧Go.Ab.slSize y' s=true∧∃ y'',winP 0 k y'=some y''∧RL (some true) s R y'' (l.take k):=by
 rcases hy with ⟨rfl,rfl⟩ | ⟨o,xs,rfl,hq,h,hb⟩
 ·have:k=0:=by simpa using hk
  subst this
  exact ⟨.lit nilV,rfl,rfl,rfl,.lit nilV,rfl,by simpa using RL.nil⟩
 ·have:o=true:=hq true rfl
  subst this
  have hxl:=h.length
  refine ⟨.sl true s (xs.take k ++ (List.replicate (l.length - k) z ++ xs.drop (k + (l.length - k)))),by simp only [pclear]; rw [if_pos ⟨trivial,by omega⟩],?_,by simp [Go.Ab.slSize],.sl true s (xs.take k),?_,.sl (by simp) (h.take k) (by simp; omega)⟩
  ·simp [Go.Ab.slLen]; omega
  ·simp only [winP]
   rw [if_pos (by simp; omega),List.drop_zero,List.take_append_of_le_length (by simp; omega),List.take_take,Nat.min_self]
end
end Go.Ab
namespace Go.Ab.U7
open Go Go.Ab Go.Proofs
theorem r70 {q:Option Bool} {e:List TV} {f:DFunc} (he:RFunc q e f) (n:Int):Runs prog 45 [.agg e,I n] (B (thereB f.blocks.length n)):=by
 obtain ⟨b,rfl,hb,_⟩:=he
 refine Runs.of (f45_MR _ _) ?_
 unfold f45_M
 refine Goes.chk rfl (Goes.tv rfl (Goes.ite rfl (fun h=>Goes.tv hb.len (Goes.tv rfl ?_)) fun h=>?_))
 ·refine goes_ret.2 ?_
  have h:0≤n:=by simpa using h
  simp [thereB,h]
 ·refine goes_ret.2 ?_
  have h:¬ 0≤n:=by simpa using h
  simp [thereB,h]
theorem fit_slc {v:TV} (h:v.isSl=true):fitsAt zSl [v] 0=true:=by
 show (v.isSl && true)=true
 rw [h]; rfl
theorem del2 {y3 y4 y5:TV} {P:Int→Bool} (hP:∀ g,Runs prog 45 [.agg [y3,y4,y5],I g] (B (P g))) {l:List Int}:∀ (d i j:Nat) (w:TV) (cur:List Int),j + d=l.length→i≤j→RInts (some true) w cur→cur.length=l.length →
  cur.take i=(l.take j).filter P→(∀ m,j≤m→cur[m]? = l[m]?)→∃ y,Goes prog 24 (f24_2 (I i) (I j) w y3 y4 y5) y∧RInts (some true) y (l.filter P):=by
 intro d
 induction d with
 | zero =>
  intro i j w cur hj hij hw hcl hti _
  have hj:j=l.length:=by omega
  subst hj
  have hbn:=hw.bnd
  have hil:i≤cur.length:=by omega
  obtain ⟨y',c1,c2,c3,y'',c4,c5⟩:=hw.clr hil [I 0]
  rw [hti,List.take_length] at c5
  refine ⟨y'',?_,c5⟩
  unfold f24_2
  refine Goes.tv hw.len (Goes.tv rfl (Goes.ite (v:=false) (by rw [hcl]; exact asB_end) (fun h=>nomatch h) fun _=>?_))
  refine f24_3_J ?_
  unfold f24_3
  have han:asNat (I i)=some i:=asNat_nat (by omega)
  have hle:Nat.ble i cur.length=true:=by simpa using hil
  refine Goes.nat hw.slLen (Goes.nat han (Goes.chk (by simp [hw.slSize,hle]) (Goes.tv c1 (Goes.nat c2 (Goes.nat han (Goes.chk (by simp [c3,hle]) (Goes.tv c4 (Goes.chk (c5.own fun _ _ h=>h.own) Goes.ret))))))))
 | succ d ih =>
  intro i j w cur hj hij hw hcl hti hd
  have hjl:j < l.length:=by omega
  have hjc:j < cur.length:=by omega
  have hbn:=hw.bnd
  have ha:l[j]? = some l[j]:=List.getElem?_eq_getElem hjl
  obtain ⟨a,haa⟩:∃ a,a=l[j]:=⟨_,rfl⟩
  rw [← haa] at ha
  have hca:cur[j]? = some a:=by rw [hd j (Nat.le_refl _)]; exact ha
  obtain ⟨e,he,rfl,hea⟩:=hw.pel hca
  have anj:asNat (I j)=some j:=asNat_nat (by omega)
  have ani:asNat (I i)=some i:=asNat_nat (by omega)
  cases hp:P a with
  | true =>
   have hic:i < cur.length:=by omega
   obtain ⟨e',he',rfl,_⟩:=hw.pel (List.getElem?_eq_getElem hic)
   obtain ⟨w',hw',hr⟩:=hw.setAt he' (d:=0) (ys:=[I a]) (a:=a) ⟨rfl,hea⟩
   obtain ⟨y,hy,hry⟩:=ih (i + 1) (j + 1) w' (cur.set i a) (by omega) (by omega) hr (by simpa using hcl) (by
    rw [filter_takeS ha,hp,if_pos rfl,← hti,List.take_add_one,List.getElem?_set_self hic]
    congr 1
    rw [List.take_set_of_le (Nat.le_refl _)]) (fun m hm=>by
    rw [List.getElem?_set_ne (by omega)]
    exact hd m (by omega))
   refine ⟨y,?_,hry⟩
   unfold f24_2
   refine Goes.tv hw.len (Goes.tv rfl (Goes.ite (asB_lt hjc) (fun _=>?_) fun h=>nomatch h))
   refine Goes.nat hw.slLen (Goes.nat anj (Goes.chk (by simp [hw.slSize,hjc]) (Goes.tvs he (Goes.chk rfl (Goes.call (hP a) (Goes.chk rfl (Goes.tv rfl (Goes.tv rfl (Goes.ite (v:=true) (by rw [hp]; rfl) (fun _=>?_) fun h=>nomatch h)))))))))
   exact Goes.nat hw.slLen (Goes.nat ani (Goes.chk (by simp [hw.slSize,hic]) (Goes.tvs he' (Goes.chk rfl (Goes.tv hw' (Goes.tv (inc hic hbn) (Goes.tv (inc hjc hbn) (f24_2_J hy))))))))
  | false =>
   obtain ⟨y,hy,hry⟩:=ih i (j + 1) w cur (by omega) (by omega) hw hcl (by rw [filter_takeS ha,hp,hti]; simp) (fun m hm=>hd m (by omega))
   refine ⟨y,?_,hry⟩
   unfold f24_2
   refine Goes.tv hw.len (Goes.tv rfl (Goes.ite (asB_lt hjc) (fun _=>?_) fun h=>nomatch h))
   exact Goes.nat hw.slLen (Goes.nat anj (Goes.chk (by simp [hw.slSize,hjc]) (Goes.tvs he (Goes.chk rfl (Goes.call (hP a) (Goes.chk rfl (Goes.tv rfl (Goes.tv rfl (Goes.ite (v:=false) (by rw [hp]; rfl) (fun h=>nomatch h) fun _=>Goes.tv (inc hjc hbn) (f24_2_J hy))))))))))
theorem del1 {y3 y4 y5:TV} {P:Int→Bool} (hP:∀ g,Runs prog 45 [.agg [y3,y4,y5],I g] (B (P g))) {l:List Int} {w:TV} (hw:RInts (some true) w l):∀ (d k:Nat),k + d=l.length→(l.take k).filter P=l.take k →
  ∃ y,Goes prog 24 (f24_1 (I l.length) (I k) w y3 y4 y5) y∧RInts (some true) y (l.filter P):=by
 intro d
 have hbn:=hw.bnd
 induction d with
 | zero =>
  intro k hk hf
  have hk:k=l.length:=by omega
  subst hk
  rw [List.take_length] at hf
  refine ⟨w,?_,by rw [hf]; exact hw⟩
  unfold f24_1
  exact Goes.tv rfl (Goes.ite asB_end (fun h=>nomatch h) fun _=>Goes.tv rfl (Goes.ite (v:=true) rfl (fun _=>Goes.chk (hw.own fun _ _ h=>h.own) Goes.ret) fun h=>nomatch h))
 | succ d ih =>
  intro k hk hf
  have hkl:k < l.length:=by omega
  obtain ⟨a,haa⟩:∃ a,a=l[k]:=⟨_,rfl⟩
  have ha:l[k]? = some a:=by rw [haa]; exact List.getElem?_eq_getElem hkl
  obtain ⟨e,he,rfl,hea⟩:=hw.pel ha
  have ank:asNat (I k)=some k:=asNat_nat (by omega)
  cases hp:P a with
  | true =>
   obtain ⟨y,hy,hry⟩:=ih (k + 1) (by omega) (by rw [filter_takeS ha,hp,hf,List.take_add_one,ha]; rfl)
   refine ⟨y,?_,hry⟩
   unfold f24_1
   refine Goes.tv rfl (Goes.ite (asB_lt hkl) (fun _=>?_) fun h=>nomatch h)
   exact Goes.nat hw.slLen (Goes.nat ank (Goes.chk (by simp [hw.slSize,hkl]) (Goes.tvs he (Goes.chk rfl (Goes.call (hP a) (Goes.chk rfl (Goes.tv rfl (Goes.ite (v:=false) (by rw [hp]; rfl) (fun h=>nomatch h) fun _=>Goes.tv (inc hkl hbn) (f24_1_J hy)))))))))
  | false =>
   obtain ⟨y,hy,hry⟩:=del2 hP d k (k + 1) w l (by omega) (by omega) hw rfl (by rw [filter_takeS ha,hp,hf]; simp) (fun m _=>rfl)
   refine ⟨y,?_,hry⟩
   unfold f24_1
   refine Goes.tv rfl (Goes.ite (asB_lt hkl) (fun _=>?_) fun h=>nomatch h)
   refine Goes.nat hw.slLen (Goes.nat ank (Goes.chk (by simp [hw.slSize,hkl]) (Goes.tvs he (Goes.chk rfl (Goes.call (hP a) (Goes.chk rfl (Goes.tv rfl (Goes.ite (v:=true) (by rw [hp]; rfl) (fun _=>?_) fun h=>nomatch h))))))))
   have hne:((k:Int) == (-1:Int))=false:=by simp
   exact Goes.tv rfl (Goes.ite (v:=false) (by simp only [asBool,hne]) (fun h=>nomatch h) fun _=>Goes.tv (inc hkl hbn) (f24_2_J hy))
theorem r71 {q:Option Bool} {e:List TV} {f:DFunc} (he:RFunc q e f) (n:Int):∃ y,Runs prog 24 [.agg e,I n] y∧RInts (some true) y (nextL f.blocks n):=by
 have he0:=he
 obtain ⟨b,rfl,hb,_⟩:=he
 cases ht:thereB f.blocks.length n with
 | false =>
  refine ⟨.lit nilV,?_,by rw [nextL_out ht]; exact .nil⟩
  refine Runs.of (f24_MR _ _) ?_
  unfold f24_M
  refine Goes.chk rfl (Goes.call (r70 he0 n) (Goes.chk rfl (Goes.tv rfl (Goes.ite (v:=true) (by rw [ht]; rfl) (fun _=>Goes.chk rfl Goes.ret) fun h=>nomatch h))))
 | true =>
  obtain ⟨bk,hbk,hnl,hn⟩:=nextL_in ht
  have key:∀ (w:TV),RInts (some true) w (nx bk)→∃ y,Goes prog 24 (f24_0 (I f.params) (I f.regs) b w) y∧RInts (some true) y (nextL f.blocks n):=fun w hw=>by
   obtain ⟨y,hy,hr⟩:=del1 (fun g=>r70 he0 g) hw (nx bk).length 0 (by omega) (by simp)
   refine ⟨y,?_,by rw [hnl]; exact hr⟩
   unfold f24_0
   exact Goes.tv hw.len (f24_1_J hy)
  obtain ⟨e2,he2,hR⟩:=hb.idx (k:=.i64) hbk
  obtain ⟨v,hv,hvr⟩:=r15 hR
  have hR0:=hR
  obtain ⟨c,i,g,rfl,hc,hd,hi,hg,ho⟩:=hR
  rw [← hn] at he2
  by_cases h4:bk.fin.kind=4
  ·obtain ⟨w,hw,hwr⟩:=hvr.app (e:=[I bk.fin.pad]) (a:=bk.fin.pad) ⟨rfl,ho.2.2.2.2.2.2⟩ (by have:(gl bk).length≤2:=by { unfold gl; split <;> split <;> simp }; omega)
   obtain ⟨y,hy,hr⟩:=key w (by unfold nx; rw [if_pos h4]; exact hwr)
   refine ⟨y,?_,hr⟩
   refine Runs.of (f24_MR _ _) ?_
   unfold f24_M
   refine Goes.chk rfl (Goes.call (r70 he0 n) (Goes.chk rfl (Goes.tv rfl (Goes.ite (v:=false) (by rw [ht]; rfl) (fun h=>nomatch h) fun _=>?_))))
   exact Goes.tvs he2 (Goes.chk rfl (Goes.call hv (Goes.chk (fit_slc hvr.isSl) (Goes.tv rfl (Goes.ite (v:=true) (by simp [asBool,h4]) (fun _=>Goes.rws rfl (Goes.tv hw (f24_0_J hy))) fun h=>nomatch h)))))
  ·obtain ⟨y,hy,hr⟩:=key v (by unfold nx; rw [if_neg h4,List.append_nil]; exact hvr)
   refine ⟨y,?_,hr⟩
   refine Runs.of (f24_MR _ _) ?_
   unfold f24_M
   refine Goes.chk rfl (Goes.call (r70 he0 n) (Goes.chk rfl (Goes.tv rfl (Goes.ite (v:=false) (by rw [ht]; rfl) (fun h=>nomatch h) fun _=>?_))))
   exact Goes.tvs he2 (Goes.chk rfl (Goes.call hv (Goes.chk (fit_slc hvr.isSl) (Goes.tv rfl (Goes.ite (v:=false) (by simp [asBool,h4]) (fun h=>nomatch h) fun _=>f24_0_J hy)))))
end Go.Ab.U7
end
section
set_option linter.unusedVariables false
set_option maxRecDepth 10000
namespace Go.Ab
theorem take_get {α:Type} {l:List α} {j:Nat} {a:α} (h:l[j]? = some a):l.take (j + 1)=l.take j ++ [a]:=by
 rw [List.take_add_one,h]; rfl
def befTo (bs:List DBlock) (n:Int) (k:Nat):List Int:=((List.range k).filter fun i=>decide (n ∈ nextAt bs i)).map (fun i:Nat=>(i:Int))
def befL (bs:List DBlock) (n:Int):List Int:=befTo bs n bs.length
theorem befTo_succ (bs:List DBlock) (n:Int) (k:Nat):befTo bs n (k + 1)=befTo bs n k ++ (if n ∈ nextAt bs k then [(k:Int)] else []):=by
 unfold befTo
 rw [List.range_succ,List.filter_append,List.map_append]
 by_cases h:n ∈ nextAt bs k <;> simp [h]
theorem befTo_len (bs:List DBlock) (n:Int) (k:Nat):(befTo bs n k).length≤k:=by
 unfold befTo
 rw [List.length_map]
 exact Nat.le_trans (List.length_filter_le _ _) (by simp)
theorem befTo_mem {bs:List DBlock} {n:Int} {k:Nat} {g:Int}:g ∈ befTo bs n k ↔ ∃ i:Nat,g=(i:Int)∧i < k∧n ∈ nextAt bs i:=by
 unfold befTo
 simp only [List.mem_map,List.mem_filter,List.mem_range,decide_eq_true_eq]
 constructor
 ·rintro ⟨i,⟨h1,h2⟩,rfl⟩; exact ⟨i,rfl,h1,h2⟩
 ·rintro ⟨i,rfl,h1,h2⟩; exact ⟨i,⟨h1,h2⟩,rfl⟩
end Go.Ab
namespace Go.Ab.U7
open Go Go.Ab Go.Proofs
section
variable {q:Option Bool} {b:TV} {bs:List DBlock} (hb:RL q 14 (RBlock q) b bs)
include hb
end
theorem r73 {q:Option Bool} {x:TV} {l:List Int} (hx:RInts q x l) (n:Int):∃ k:Int,Runs prog 77 [x,I n] (I k)∧(0≤k ↔ n ∈ l):=by
 have hbn:=hx.bnd
 have loop:∀ (d j:Nat),j + d=l.length→n ∉ l.take j→∃ k:Int,Goes prog 77 (f77_0 x (I n) (I l.length) (I j)) (I k)∧(0≤k ↔ n ∈ l):=by
  intro d
  induction d with
  | zero =>
   intro j hj hn
   have hj:j=l.length:=by omega
   subst hj
   rw [List.take_length] at hn
   refine ⟨-1,?_,⟨fun h=>by omega,fun h=>absurd h hn⟩⟩
   unfold f77_0
   exact Goes.tv rfl (Goes.ite asB_end (fun h=>nomatch h) fun _=>Goes.ret)
  | succ d ih =>
   intro j hj hn
   have hjl:j < l.length:=by omega
   obtain ⟨a,haa⟩:∃ a,a=l[j]:=⟨_,rfl⟩
   have hla:l[j]? = some a:=by rw [haa]; exact List.getElem?_eq_getElem hjl
   obtain ⟨e,he,rfl,hea⟩:=hx.idx (k:=.i64) hla
   by_cases ha:n=a
   ·refine ⟨(j:Int),?_,⟨fun _=>by rw [ha]; exact List.mem_of_getElem? hla,fun _=>by omega⟩⟩
    unfold f77_0
    exact Goes.tv rfl (Goes.ite (asB_lt hjl) (fun _=>Goes.tvs he (Goes.chk rfl (Goes.tv rfl (Goes.ite (v:=true) (by simp [asBool,ha]) (fun _=>Goes.ret) fun h=>nomatch h)))) fun h=>nomatch h)
   ·obtain ⟨k,hk,hr⟩:=ih (j + 1) (by omega) (by rw [take_get hla]; simp [hn,ha])
    refine ⟨k,?_,hr⟩
    unfold f77_0
    exact Goes.tv rfl (Goes.ite (asB_lt hjl) (fun _=>Goes.tvs he (Goes.chk rfl (Goes.tv rfl (Goes.ite (v:=false) (by simp [asBool,ha]) (fun h=>nomatch h) fun _=>Goes.tv (inc hjl hbn) (f77_0_J hk))))) fun h=>nomatch h)
 obtain ⟨k,hk,hr⟩:=loop l.length 0 (by omega) (by simp)
 refine ⟨k,?_,hr⟩
 refine Runs.of (f77_MR _ _) ?_
 unfold f77_M
 exact Goes.tv hx.len (f77_0_J hk)
theorem r74 {q:Option Bool} {x:TV} {l:List Int} (hx:RInts q x l) (n:Int):Runs prog 49 [x,I n] (B (decide (n ∈ l))):=by
 obtain ⟨k,hk,hr⟩:=r73 hx n
 refine Runs.of (f49_MR _ _) ?_
 unfold f49_M
 refine Goes.call hk (Goes.chk rfl (Goes.tv rfl (goes_ret.2 ?_)))
 simp [← hr]
theorem r75 {q:Option Bool} {x:TV} {l:List Int} (hx:RInts q x l) (n:Int):Runs prog 33 [x,I n] (B (decide (n ∈ l))):=by
 have hbn:=hx.bnd
 have loop:∀ (d j:Nat),j + d=l.length→n ∉ l.take j→Goes prog 33 (f33_0 x (I n) (I j)) (B (decide (n ∈ l))):=by
  intro d
  induction d with
  | zero =>
   intro j hj hn
   have hj:j=l.length:=by omega
   subst hj
   rw [List.take_length] at hn
   unfold f33_0
   exact Goes.tv hx.len (Goes.tv rfl (Goes.ite asB_end (fun h=>nomatch h) fun _=>goes_ret.2 (by simp [hn])))
  | succ d ih =>
   intro j hj hn
   have hjl:j < l.length:=by omega
   obtain ⟨a,haa⟩:∃ a,a=l[j]:=⟨_,rfl⟩
   have hla:l[j]? = some a:=by rw [haa]; exact List.getElem?_eq_getElem hjl
   obtain ⟨e,he,rfl,hea⟩:=hx.idx (k:=.i64) hla
   unfold f33_0
   refine Goes.tv hx.len (Goes.tv rfl (Goes.ite (asB_lt hjl) (fun _=>Goes.tvs he (Goes.chk rfl (Goes.tv rfl (Goes.ite rfl (fun h=>?_) fun h=>?_)))) fun h=>nomatch h))
   ·have ha:a=n:=by simpa using h
    have:n ∈ l:=by rw [← ha]; exact List.mem_of_getElem? hla
    exact goes_ret.2 (by simp [this])
   ·have ha:¬ a=n:=by simpa using h
    exact Goes.tv (inc hjl hbn) (f33_0_J (ih (j + 1) (by omega) (by rw [take_get hla]; simp [hn]; exact fun h=>ha h.symm)))
 refine Runs.of (f33_MR _ _) ?_
 unfold f33_M
 exact f33_0_J (loop l.length 0 (by omega) (by simp))
theorem r76 {q:Option Bool} {e:List TV} {f:DFunc} (he:RFunc q e f) (hs:f.blocks.length≤1000) (n:Int):∃ y,Runs prog 26 [.agg e,I n] y∧RInts (some true) y (befL f.blocks n):=by
 have he0:=he
 obtain ⟨b,rfl,hb,_⟩:=he
 have loop:∀ (d k:Nat) (w:TV),k + d=f.blocks.length→RInts (some true) w (befTo f.blocks n k)→∃ y,Goes prog 26 (f26_0 (I n) (I f.blocks.length) (I k) (I f.params) (I f.regs) b w) y∧RInts (some true) y (befL f.blocks n):=by
  intro d
  induction d with
  | zero =>
   intro k w hk hw
   have hk:k=f.blocks.length:=by omega
   subst hk
   refine ⟨w,?_,hw⟩
   unfold f26_0
   exact Goes.tv rfl (Goes.ite asB_end (fun h=>nomatch h) fun _=>Goes.chk (hw.own fun _ _ h=>h.own) Goes.ret)
  | succ d ih =>
   intro k w hk hw
   have hkl:k < f.blocks.length:=by omega
   obtain ⟨v,hv,hvr⟩:=r71 he0 (k:Int)
   have hc:=r74 (hvr.frz fun _ _ h=>h.frz) n
   rw [nextL_nat] at hc
   have hlen:=befTo_len f.blocks n k
   by_cases hm:n ∈ nextAt f.blocks k
   ·obtain ⟨w',h1,h2⟩:=hw.app (e:=[I k]) (a:=(k:Int)) ⟨rfl,by constructor <;> omega⟩ (by omega)
    obtain ⟨y,hy,hr⟩:=ih (k + 1) w' (by omega) (by rw [befTo_succ,if_pos hm]; exact h2)
    refine ⟨y,?_,hr⟩
    unfold f26_0
    exact Goes.tv rfl (Goes.ite (asB_lt hkl) (fun _=>Goes.call hv (Goes.chk (fit_slc hvr.isSl) (Goes.call hc (Goes.chk rfl (Goes.ite (v:=true) (by simp [asBool,hm]) (fun _=>Goes.chk rfl (Goes.rws rfl (Goes.tv h1 (Goes.tv (inc hkl (by omega)) (f26_0_J hy))))) fun h=>nomatch h))))) fun h=>nomatch h)
   ·obtain ⟨y,hy,hr⟩:=ih (k + 1) w (by omega) (by rw [befTo_succ,if_neg hm,List.append_nil]; exact hw)
    refine ⟨y,?_,hr⟩
    unfold f26_0
    exact Goes.tv rfl (Goes.ite (asB_lt hkl) (fun _=>Goes.call hv (Goes.chk (fit_slc hvr.isSl) (Goes.call hc (Goes.chk rfl (Goes.ite (v:=false) (by simp [asBool,hm]) (fun h=>nomatch h) fun _=>Goes.tv (inc hkl (by omega)) (f26_0_J hy)))))) fun h=>nomatch h)
 obtain ⟨y,hy,hr⟩:=loop f.blocks.length 0 (.lit nilV) (by omega) .nil
 refine ⟨y,?_,hr⟩
 refine Runs.of (f26_MR _ _) ?_
 unfold f26_M
 exact Goes.chk rfl (Goes.tv hb.len (Goes.chk rfl (f26_0_J hy)))
end Go.Ab.U7
end

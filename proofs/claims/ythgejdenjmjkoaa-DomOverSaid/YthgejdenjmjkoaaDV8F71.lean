import Derived.Test.YthgejdenjmjkoaaDV8T
import Derived.Test.YthgejdenjmjkoaaDV8Xc
import Derived.OpenShut
section
set_option linter.unusedVariables false
set_option maxRecDepth 100000
namespace Go.Ab.V8
open Go Go.Ab Go.Proofs
open Go.Ab.TV (hole cell comp isSl isSc isTup cellsL tup agg)
open Go.Ab.Prg (tv tvs rws nat chk call jmp ret)
def f25_0_S  (y0 y1 y2 w3 w4 w5:TV):ASt:=⟨[AV.one CA.junk,AV.one CA.junk,AV.one CA.junk,AV.one (CA.ptr 0 0)] ++ List.replicate 21 (AV.one CA.junk),[some (BC.cells [CA.t y0,CA.t y1,CA.t y2,CA.sref 1 0 [],CA.sref 2 0 [],CA.sref 3 0 []]),some (BC.tree [w3]),some (BC.tree [w4]),some (BC.tree [w5])] ++ List.replicate 45 (none),[]⟩
def f25_1_S  (x0 x1 w2 y3 y4 y5 w6 w7:TV):ASt:=⟨[AV.one (CA.sref 0 0 []),AV.one CA.junk,AV.tv x0,AV.tv x1] ++ List.replicate 24 (AV.one CA.junk),[some (BC.tree [w2]),some (BC.cells [CA.t y3,CA.t y4,CA.t y5,CA.sref 2 0 [],CA.sref 3 0 [],CA.sref 0 0 []]),some (BC.tree [w6]),some (BC.tree [w7])] ++ List.replicate 73 (none),([AV.one CA.junk,AV.one CA.junk,AV.one CA.junk,AV.one (CA.ptr 1 0)] ++ List.replicate 21 (AV.one CA.junk))⟩
def f25_M (x0:TV):Prg TV :=
 chk (TV.isAgg x0 3) (
 tv (plen (.slice 44) (cell x0 2)) fun v0 =>
 tv (pbin (.int .i64) .eql v0 (I 0)) fun v1 =>
 Prg.ite (asBool v1) (
 chk true (
 ret (TV.lit nilV))) (
 tv (plen (.slice 44) (cell x0 2)) fun v2 =>
 nat (asNat v2) fun n3 =>
 nat (asNat v2) fun n4 =>
 chk (Bool.and (Nat.ble n3 n4) (Nat.ble n4 4294967296)) (
 nat (slLen (TV.sl true 1 (List.replicate n3 [B false]))) fun n5 =>
 nat (asNat (I 0)) fun n6 =>
 chk (Bool.and (slSize (TV.sl true 1 (List.replicate n3 [B false])) 1) (Nat.blt n6 n5)) (
 tvs (pel (TV.sl true 1 (List.replicate n3 [B false])) n6) fun e7 =>
 chk (fitsAt zBool e7 0) (
 tv (setC [] (TV.sl true 1 (List.replicate n3 [B false])) n6 0 [B true]) fun v8 =>
 call 16 [agg [cell x0 0,cell x0 1,cell x0 2],I 0] fun v9 =>
 chk (fitsAt zSl [v9] 0) (
 rws (pelems 2 (TV.sl true 2 (chunks 2 1 [I 0,v9]))) fun r10 =>
 tv (papp 2 (TV.lit nilV) r10) fun v11 =>
 chk true (
 jmp [0,0,0,1,1,1,1] (f25_0_S (cell x0 0) (cell x0 1) (cell x0 2) v8 (coolT v11) (TV.lit nilV)))))))))
def f25_0  (y0 y1 y2 w3 w4 w5:TV):Prg TV :=
 tv (plen (.slice 73) w4) fun v12 =>
 tv (pbin (.int .i64) .gtr v12 (I 0)) fun v13 =>
 Prg.ite (asBool v13) (
 tv (plen (.slice 73) w4) fun v14 =>
 tv (pbin (.int .i64) .sub v14 (I 1)) fun v15 =>
 nat (slLen w4) fun n16 =>
 nat (asNat v15) fun n17 =>
 chk (Bool.and (slSize w4 2) (Nat.blt n17 n16)) (
 tvs (pel w4 n17) fun e18 =>
 chk (fitsAt zSl e18 1) (
 tv (getP [(n17,1)] w4) fun v19 =>
 tv (plen (.slice 3) v19) fun v20 =>
 tv (pbin (.int .i64) .eql v20 (I 0)) fun v21 =>
 Prg.ite (asBool v21) (
 tv (plen (.slice 73) w4) fun v22 =>
 tv (pbin (.int .i64) .sub v22 (I 1)) fun v23 =>
 nat (slLen w4) fun n24 =>
 nat (asNat v23) fun n25 =>
 chk (Bool.and (slSize w4 2) (Nat.blt n25 n24)) (
 tvs (pel w4 n25) fun e26 =>
 chk (fitsAt zInt e26 0) (
 rws (pelems 1 (TV.sl true 1 (chunks 1 1 [nth hole e26 0]))) fun r27 =>
 tv (papp 1 w5 (lfLL r27)) fun v28 =>
 nat (slLen w4) fun n29 =>
 nat (asNat v23) fun n30 =>
 chk (Bool.and (Bool.and (slSize w4 2) (Nat.ble 0 (Option.getD (some n30) n29))) (Nat.ble (Option.getD (some n30) n29) n29)) (
 tv (winP 0 ((Option.getD (some n30) n29) - 0) w4) fun v31 =>
 jmp [0,0,0,1,1,1,1] (f25_0_S y0 y1 y2 w3 (coolT v31) v28))))) (
 tvs (pel w4 n17) fun e32 =>
 chk (fitsAt zSl e32 1) (
 tv (getP [(n17,1)] w4) fun v33 =>
 nat (slLen v33) fun n34 =>
 nat (asNat (I 0)) fun n35 =>
 chk (Bool.and (slSize v33 1) (Nat.blt n35 n34)) (
 tv (getP [(n17,1)] w4) fun v36 =>
 tvs (pel v36 n35) fun e37 =>
 chk (fitsAt zInt e37 0) (
 tvs (pel w4 n17) fun e38 =>
 chk (fitsAt zSl e38 1) (
 tv (getP [(n17,1)] w4) fun v39 =>
 nat (slLen v39) fun n40 =>
 nat (asNat (I 1)) fun n41 =>
 chk (Bool.and (Bool.and (slSize v39 1) (Nat.ble (Option.getD (some n41) 0) (Option.getD none n40))) (Nat.ble (Option.getD none n40) n40)) (
 tv (getP [(n17,1)] w4) fun v42 =>
 tv (winP (Option.getD (some n41) 0) ((Option.getD none n40) - (Option.getD (some n41) 0)) v42) fun v43 =>
 chk (TV.isFr v43) (
 tvs (pel w4 n17) fun e44 =>
 chk (Bool.and (fitsOld zSl e44 1) (fitsAt zSl [v43] 0)) (
 tv (setC [] w4 n17 1 [v43]) fun v45 =>
 nat (slLen w3) fun n46 =>
 nat (asNat (nth hole e37 0)) fun n47 =>
 chk (Bool.and (slSize w3 1) (Nat.blt n47 n46)) (
 tvs (pel w3 n47) fun e48 =>
 chk (fitsAt zBool e48 0) (
 tv (pun .not (nth hole e48 0)) fun v49 =>
 Prg.ite (asBool v49) (
 nat (slLen w3) fun n50 =>
 nat (asNat (nth hole e37 0)) fun n51 =>
 chk (Bool.and (slSize w3 1) (Nat.blt n51 n50)) (
 tvs (pel w3 n51) fun e52 =>
 chk (fitsAt zBool e52 0) (
 tv (setC [] w3 n51 0 [B true]) fun v53 =>
 call 16 [agg [y0,y1,y2],nth hole e37 0] fun v54 =>
 chk (fitsAt zSl [v54] 0) (
 rws (pelems 2 (TV.sl true 2 (chunks 2 1 [nth hole e37 0,v54]))) fun r55 =>
 tv (papp 2 v45 r55) fun v56 =>
 jmp [0,0,0,1,1,1,1] (f25_0_S y0 y1 y2 v53 (coolT v56) w5))))) (
 jmp [0,0,0,1,1,1,1] (f25_0_S y0 y1 y2 w3 (coolT v45) w5))))))))))))))) (
 tv (plen (.slice 3) w5) fun v57 =>
 tv (pbin (.int .i64) .sub v57 (I 1)) fun v58 =>
 jmp [0,0,1,4,0,1,1,1,1,1] (f25_1_S (I 0) v58 w5 y0 y1 y2 w3 w4))
def f25_1  (x0 x1 w2 y3 y4 y5 w6 w7:TV):Prg TV :=
 tv (pbin (.int .i64) .lss x0 x1) fun v59 =>
 Prg.ite (asBool v59) (
 nat (slLen w2) fun n60 =>
 nat (asNat x1) fun n61 =>
 chk (Bool.and (slSize w2 1) (Nat.blt n61 n60)) (
 tvs (pel w2 n61) fun e62 =>
 chk (fitsAt zInt e62 0) (
 nat (slLen w2) fun n63 =>
 nat (asNat x0) fun n64 =>
 chk (Bool.and (slSize w2 1) (Nat.blt n64 n63)) (
 tvs (pel w2 n64) fun e65 =>
 chk (fitsAt zInt e65 0) (
 nat (slLen w2) fun n66 =>
 nat (asNat x0) fun n67 =>
 chk (Bool.and (slSize w2 1) (Nat.blt n67 n66)) (
 tvs (pel w2 n67) fun e68 =>
 chk (fitsAt zInt e68 0) (
 tv (setC [] w2 n67 0 [nth hole e62 0]) fun v69 =>
 nat (slLen v69) fun n70 =>
 nat (asNat x1) fun n71 =>
 chk (Bool.and (slSize v69 1) (Nat.blt n71 n70)) (
 tvs (pel v69 n71) fun e72 =>
 chk (fitsAt zInt e72 0) (
 tv (setC [] v69 n71 0 [nth hole e65 0]) fun v73 =>
 tv (pbin (.int .i64) .add x0 (I 1)) fun v74 =>
 tv (pbin (.int .i64) .sub x1 (I 1)) fun v75 =>
 jmp [0,0,1,4,0,1,1,1,1,1] (f25_1_S v74 v75 v73 y3 y4 y5 w6 w7)))))))))) (
 chk (isOwn w2) (
 ret w2))
theorem f25_MR (x0:TV):startQ prog 25 [x0]=f25_M x0:=by kernel_rfl
theorem f25_0_J  {y0 y1 y2 w3 w4 w5:TV} {r:TV} (h:Goes prog 25 (f25_0 y0 y1 y2 w3 w4 w5) r):Goes prog 25 (.jmp [0,0,0,1,1,1,1] (f25_0_S y0 y1 y2 w3 w4 w5)) r:=Goes.jmp (by kernel_rfl) h
theorem f25_1_J  {x0 x1 w2 y3 y4 y5 w6 w7:TV} {r:TV} (h:Goes prog 25 (f25_1 x0 x1 w2 y3 y4 y5 w6 w7) r):Goes prog 25 (.jmp [0,0,1,4,0,1,1,1,1,1] (f25_1_S x0 x1 w2 y3 y4 y5 w6 w7)) r:=Goes.jmp (by kernel_rfl) h
def f26_M (x0 x1:TV):Prg TV :=
 chk (TV.isAgg x0 3) (
 tv (pbin (.int .i64) .leq (I 0) x1) fun v0 =>
 Prg.ite (asBool v0) (
 tv (plen (.slice 44) (cell x0 2)) fun v1 =>
 tv (pbin (.int .i64) .lss x1 v1) fun v2 =>
 ret v2) (
 ret (B false)))
theorem f26_MR (x0 x1:TV):startQ prog 26 [x0,x1]=f26_M x0 x1:=by kernel_rfl
def f27_0_S  (x0 y1 y2 y3 y4 y5 y6 y7 y8 y9 y10 y11 y12 y13 y14 w15:TV):ASt:=⟨[AV.one CA.junk,AV.one (CA.ptr 0 0),AV.one CA.junk,AV.one CA.junk,AV.one (CA.sref 1 0 [])] ++ List.replicate 13 (AV.one CA.junk) ++ [AV.tv x0] ++ List.replicate 7 (AV.one CA.junk),[some (BC.cells [CA.t y1,CA.t y2,CA.t y3,CA.t y4,CA.t y5,CA.t y6,CA.t y7,CA.t y8,CA.t y9,CA.t y10,CA.t y11,CA.t y12,CA.t y13,CA.t y14]),some (BC.tree [w15])] ++ List.replicate 48 (none),[]⟩
def f27_M (x0:TV):Prg TV :=
 chk (TV.isAgg x0 14) (
 call 35 [cell x0 6] fun v0 =>
 chk (fitsAt zInt [v0] 0) (
 call 36 [v0,I 64] fun v1 =>
 chk (fitsAt zBool [v1] 0) (
 Prg.ite (asBool v1) (
 rws (pelems 1 (TV.sl true 1 (chunks 1 1 [cell x0 11]))) fun r2 =>
 tv (papp 1 (TV.lit nilV) (lfLL r2)) fun v3 =>
 call 36 [v0,I 128] fun v4 =>
 chk (fitsAt zBool [v4] 0) (
 jmp [1,0,1,1,1,1] (f27_0_S v4 (cell x0 0) (cell x0 1) (cell x0 2) (cell x0 3) (cell x0 4) (cell x0 5) (cell x0 6) (cell x0 7) (cell x0 8) (cell x0 9) (cell x0 10) (cell x0 11) (cell x0 12) (cell x0 13) v3))) (
 call 36 [v0,I 128] fun v5 =>
 chk (fitsAt zBool [v5] 0) (
 chk true (
 jmp [1,0,1,1,1,1] (f27_0_S v5 (cell x0 0) (cell x0 1) (cell x0 2) (cell x0 3) (cell x0 4) (cell x0 5) (cell x0 6) (cell x0 7) (cell x0 8) (cell x0 9) (cell x0 10) (cell x0 11) (cell x0 12) (cell x0 13) (TV.lit nilV))))))))
def f27_0  (x0 y1 y2 y3 y4 y5 y6 y7 y8 y9 y10 y11 y12 y13 y14 w15:TV):Prg TV :=
 Prg.ite (asBool x0) (
 rws (pelems 1 (TV.sl true 1 (chunks 1 1 [y13]))) fun r6 =>
 tv (papp 1 w15 (lfLL r6)) fun v7 =>
 chk (isOwn v7) (
 ret v7)) (
 chk (isOwn w15) (
 ret w15))
theorem f27_MR (x0:TV):startQ prog 27 [x0]=f27_M x0:=by kernel_rfl
theorem f27_0_J  {x0 y1 y2 y3 y4 y5 y6 y7 y8 y9 y10 y11 y12 y13 y14 w15:TV} {r:TV} (h:Goes prog 27 (f27_0 x0 y1 y2 y3 y4 y5 y6 y7 y8 y9 y10 y11 y12 y13 y14 w15) r):Goes prog 27 (.jmp [1,0,1,1,1,1] (f27_0_S x0 y1 y2 y3 y4 y5 y6 y7 y8 y9 y10 y11 y12 y13 y14 w15)) r:=Goes.jmp (by kernel_rfl) h
def f30_0_S  (x0 x1 x2 x3 y4 y5 y6 w7:TV):ASt:=⟨[AV.one CA.junk,AV.tv x0,AV.one (CA.ptr 0 0),AV.one CA.junk,AV.one CA.junk,AV.one (CA.sref 1 0 [])] ++ List.replicate 11 (AV.one CA.junk) ++ [AV.tv x1,AV.tv x2,AV.tv x3] ++ List.replicate 46 (AV.one CA.junk),[some (BC.cells [CA.t y4,CA.t y5,CA.t y6]),some (BC.tree [w7])] ++ List.replicate 88 (none),[]⟩
def f30_1_S  (x0 y1 y2 y3 w4:TV):ASt:=⟨[AV.one CA.junk,AV.tv x0,AV.one (CA.ptr 0 0),AV.one CA.junk,AV.one CA.junk,AV.one (CA.sref 1 0 [])] ++ List.replicate 60 (AV.one CA.junk),[some (BC.cells [CA.t y1,CA.t y2,CA.t y3]),some (BC.tree [w4])] ++ List.replicate 88 (none),[]⟩
def f30_2_S  (x0 x1 x2 y3 y4 y5 w6 w7:TV):ASt:=⟨[AV.one CA.junk,AV.one CA.junk,AV.one (CA.ptr 0 0),AV.one CA.junk,AV.one CA.junk,AV.one (CA.sref 1 0 []),AV.one CA.junk,AV.one CA.junk,AV.one (CA.sref 2 0 [])] ++ List.replicate 23 (AV.one CA.junk) ++ [AV.tv x0,AV.tv x1,AV.tv x2] ++ List.replicate 31 (AV.one CA.junk),[some (BC.cells [CA.t y3,CA.t y4,CA.t y5]),some (BC.tree [w6]),some (BC.tree [w7])] ++ List.replicate 87 (none),[]⟩
def f30_3_S  (x0 x1 x2 x3 x4 x5 y6 y7 y8 w9 w10 w11:TV):ASt:=⟨[AV.one CA.junk,AV.one CA.junk,AV.one (CA.ptr 0 0),AV.one CA.junk,AV.one CA.junk,AV.one (CA.sref 1 0 []),AV.one CA.junk,AV.one CA.junk,AV.one (CA.sref 2 0 []),AV.tv x0] ++ List.replicate 22 (AV.one CA.junk) ++ [AV.tv x1,AV.tv x2,AV.tv x3] ++ List.replicate 6 (AV.one CA.junk) ++ [AV.one (CA.sref 3 0 []),AV.tv x4,AV.tv x5] ++ List.replicate 22 (AV.one CA.junk),[some (BC.cells [CA.t y6,CA.t y7,CA.t y8]),some (BC.tree [w9]),some (BC.tree [w10]),some (BC.tree [w11])] ++ List.replicate 86 (none),[]⟩
def f30_M (x0 x1:TV):Prg TV :=
 chk (TV.isAgg x0 3) (
 tv (plen (.slice 44) (cell x0 2)) fun v0 =>
 nat (asNat v0) fun n1 =>
 nat (asNat v0) fun n2 =>
 chk (Bool.and (Nat.ble n1 n2) (Nat.ble n2 4294967296)) (
 tv (plen (.slice 3) x1) fun v3 =>
 jmp [0,0,1,0,1,1] (f30_0_S x1 x1 v3 (I 0) (cell x0 0) (cell x0 1) (cell x0 2) (TV.sl true 1 (List.replicate n1 [I 0])))))
def f30_0  (x0 x1 x2 x3 y4 y5 y6 w7:TV):Prg TV :=
 tv (pbin (.int .i64) .lss x3 x2) fun v4 =>
 Prg.ite (asBool v4) (
 tvs (pidx 1 x1 x3) fun e5 =>
 chk (Nat.blt 0 (List.length e5)) (
 nat (slLen w7) fun n6 =>
 nat (asNat (nth hole e5 0)) fun n7 =>
 chk (Bool.and (slSize w7 1) (Nat.blt n7 n6)) (
 chk (TV.isOne x3) (
 tvs (pel w7 n7) fun e8 =>
 chk (fitsAt zInt e8 0) (
 tv (setC [] w7 n7 0 [x3]) fun v9 =>
 tv (pbin (.int .i64) .add x3 (I 1)) fun v10 =>
 jmp [0,0,1,0,1,1] (f30_0_S x0 x1 x2 v10 y4 y5 y6 v9)))))) (
 jmp [1,1,1] (f30_1_S x0 y4 y5 y6 w7))
def f30_1  (x0 y1 y2 y3 w4:TV):Prg TV :=
 tv (plen (.slice 3) x0) fun v11 =>
 nat (asNat v11) fun n12 =>
 nat (asNat v11) fun n13 =>
 chk (Bool.and (Nat.ble n12 n13) (Nat.ble n13 4294967296)) (
 tv (plen (.slice 3) x0) fun v14 =>
 jmp [0,0,1,0,1,1,1,1] (f30_2_S x0 v14 (I 0) y1 y2 y3 w4 (TV.sl true 1 (List.replicate n12 [TV.lit nilV]))))
def f30_2  (x0 x1 x2 y3 y4 y5 w6 w7:TV):Prg TV :=
 tv (pbin (.int .i64) .lss x2 x1) fun v15 =>
 Prg.ite (asBool v15) (
 tvs (pidx 1 x0 x2) fun e16 =>
 chk (Nat.blt 0 (List.length e16)) (
 call 16 [agg [y3,y4,y5],nth hole e16 0] fun v17 =>
 chk (fitsAt zSl [v17] 0) (
 tv (plen (.slice 3) v17) fun v18 =>
 jmp [0,0,1,1,0,0,1,1,0,0,1,0,1,1,1,1] (f30_3_S x2 x0 x1 x2 v18 (I 0) y3 y4 y5 w6 w7 v17)))) (
 chk (isOwn w7) (
 ret w7))
def f30_3  (x0 x1 x2 x3 x4 x5 y6 y7 y8 w9 w10 w11:TV):Prg TV :=
 tv (pbin (.int .i64) .lss x5 x4) fun v19 =>
 Prg.ite (asBool v19) (
 nat (slLen w11) fun n20 =>
 nat (asNat x5) fun n21 =>
 chk (Bool.and (slSize w11 1) (Nat.blt n21 n20)) (
 tvs (pel w11 n21) fun e22 =>
 chk (fitsAt zInt e22 0) (
 nat (slLen w9) fun n23 =>
 nat (asNat (nth hole e22 0)) fun n24 =>
 chk (Bool.and (slSize w9 1) (Nat.blt n24 n23)) (
 tvs (pel w9 n24) fun e25 =>
 chk (fitsAt zInt e25 0) (
 nat (slLen w9) fun n26 =>
 nat (asNat (nth hole e22 0)) fun n27 =>
 chk (Bool.and (slSize w9 1) (Nat.blt n27 n26)) (
 tvs (pel w9 n27) fun e28 =>
 chk (fitsAt zInt e28 0) (
 nat (slLen w10) fun n29 =>
 nat (asNat (nth hole e28 0)) fun n30 =>
 chk (Bool.and (slSize w10 1) (Nat.blt n30 n29)) (
 tvs (pel w10 n30) fun e31 =>
 chk (fitsAt zSl e31 0) (
 chk (TV.isOne x0) (
 rws (pelems 1 (TV.sl true 1 (chunks 1 1 [x0]))) fun r32 =>
 tv (getP [(n30,0)] w10) fun v33 =>
 tv (papp 1 v33 (lfLL r32)) fun v34 =>
 tv (setP [(n30,0)] w10 hole) fun v35 =>
 nat (slLen v35) fun n36 =>
 nat (asNat (nth hole e25 0)) fun n37 =>
 chk (Bool.and (slSize v35 1) (Nat.blt n37 n36)) (
 tvs (pel v35 n37) fun e38 =>
 chk (Bool.and (fitsOld zSl e38 0) (fitsAt zSl [v34] 0)) (
 tv (setC [] v35 n37 0 [v34]) fun v39 =>
 tv (pbin (.int .i64) .add x5 (I 1)) fun v40 =>
 jmp [0,0,1,1,0,0,1,1,0,0,1,0,1,1,1,1] (f30_3_S x0 x1 x2 x3 x4 v40 y6 y7 y8 w9 v39 w11))))))))))))) (
 tv (pbin (.int .i64) .add x3 (I 1)) fun v41 =>
 jmp [0,0,1,0,1,1,1,1] (f30_2_S x1 x2 v41 y6 y7 y8 w9 w10))
theorem f30_MR (x0 x1:TV):startQ prog 30 [x0,x1]=f30_M x0 x1:=by kernel_rfl
theorem f30_0_J  {x0 x1 x2 x3 y4 y5 y6 w7:TV} {r:TV} (h:Goes prog 30 (f30_0 x0 x1 x2 x3 y4 y5 y6 w7) r):Goes prog 30 (.jmp [0,0,1,0,1,1] (f30_0_S x0 x1 x2 x3 y4 y5 y6 w7)) r:=Goes.jmp (by kernel_rfl) h
theorem f30_1_J  {x0 y1 y2 y3 w4:TV} {r:TV} (h:Goes prog 30 (f30_1 x0 y1 y2 y3 w4) r):Goes prog 30 (.jmp [1,1,1] (f30_1_S x0 y1 y2 y3 w4)) r:=Goes.jmp (by kernel_rfl) h
theorem f30_2_J  {x0 x1 x2 y3 y4 y5 w6 w7:TV} {r:TV} (h:Goes prog 30 (f30_2 x0 x1 x2 y3 y4 y5 w6 w7) r):Goes prog 30 (.jmp [0,0,1,0,1,1,1,1] (f30_2_S x0 x1 x2 y3 y4 y5 w6 w7)) r:=Goes.jmp (by kernel_rfl) h
theorem f30_3_J  {x0 x1 x2 x3 x4 x5 y6 y7 y8 w9 w10 w11:TV} {r:TV} (h:Goes prog 30 (f30_3 x0 x1 x2 x3 x4 x5 y6 y7 y8 w9 w10 w11) r):Goes prog 30 (.jmp [0,0,1,1,0,0,1,1,0,0,1,0,1,1,1,1] (f30_3_S x0 x1 x2 x3 x4 x5 y6 y7 y8 w9 w10 w11)) r:=Goes.jmp (by kernel_rfl) h
def f35_M (x0:TV):Prg TV :=
 tv (pbin (.int .i64) .eql x0 (I 1)) fun v0 =>
 Prg.ite (asBool v0) (
 Prg.ite (asBool v0) (
 ret (I 5)) (
 tv (pbin (.int .i64) .eql x0 (I 2)) fun v1 =>
 Prg.ite (asBool v1) (
 ret (I 65)) (
 tv (pbin (.int .i64) .eql x0 (I 3)) fun v2 =>
 Prg.ite (asBool v2) (
 ret (I 197)) (
 tv (pbin (.int .i64) .eql x0 (I 4)) fun v3 =>
 Prg.ite (asBool v3) (
 ret (I 355)) (
 tv (pbin (.int .i64) .eql x0 (I 6)) fun v4 =>
 Prg.ite (asBool v4) (
 ret (I 1)) (
 ret (I 0))))))) (
 tv (pbin (.int .i64) .eql x0 (I 5)) fun v5 =>
 Prg.ite (asBool v5) (
 ret (I 5)) (
 tv (pbin (.int .i64) .eql x0 (I 2)) fun v6 =>
 Prg.ite (asBool v6) (
 ret (I 65)) (
 tv (pbin (.int .i64) .eql x0 (I 3)) fun v7 =>
 Prg.ite (asBool v7) (
 ret (I 197)) (
 tv (pbin (.int .i64) .eql x0 (I 4)) fun v8 =>
 Prg.ite (asBool v8) (
 ret (I 355)) (
 tv (pbin (.int .i64) .eql x0 (I 6)) fun v9 =>
 Prg.ite (asBool v9) (
 ret (I 1)) (
 ret (I 0)))))))
theorem f35_MR (x0:TV):startQ prog 35 [x0]=f35_M x0:=by kernel_rfl
def f36_M (x0 x1:TV):Prg TV :=
 tv (pbin (.int .i64) .and x0 x1) fun v0 =>
 tv (pbin (.int .i64) .neq v0 (I 0)) fun v1 =>
 ret v1
theorem f36_MR (x0 x1:TV):startQ prog 36 [x0,x1]=f36_M x0 x1:=by kernel_rfl
end Go.Ab.V8
end
section
set_option linter.unusedVariables false
set_option maxRecDepth 10000
namespace Go.Ab.V8
open Go Go.Ab Go.Proofs
theorem r14 {q q':Option Bool} {x y:TV} {l m:List Int} (hx:RInts q x l) (hy:RInts q' y m):Runs prog 8 [x,y] (B (tt (l=m))):=by
 refine Runs.of (f8_MR _ _) ?_
 unfold f8_M
 repeat' (first
  | refine Goes.chk rfl ?_
  | refine Goes.tv rfl ?_
  | refine Goes.tv (RL.len (by assumption)) ?_
  | refine Goes.nat rfl ?_
  | refine Goes.ite rfl (fun _=>?_) (fun _=>?_)
  | refine Goes.call (by assumption) ?_
  | refine Goes.tvs (by assumption) ?_)
 ·rename_i h
  have h:¬ l=m:=by rintro rfl; simp at h
  exact ret_no h
 ·rename_i h
  have hlen:l.length=m.length:=by simp at h; omega
  refine f8_0_J ?_
  rw [tt_congr (list_eq_iff' hlen)]
  refine allLoop' (g:=fun k=>f8_0 x y (I k)) ?_ ?_
  ·unfold f8_0
   refine Goes.tv hx.len (Goes.tv rfl (Goes.ite asB_end (fun h=>nomatch h) fun _=>Goes.ret))
  ·intro k hk r h1 h2
   have hk':k < m.length:=by omega
   have ha:l[k]? = some l[k]:=List.getElem?_eq_getElem hk
   have hb:m[k]? = some m[k]:=List.getElem?_eq_getElem hk'
   obtain ⟨e,he,rfl,_⟩:=hx.idx (k:=.i64) ha
   obtain ⟨e',he',rfl,_⟩:=hy.idx (k:=.i64) hb
   unfold f8_0
   refine Goes.tv hx.len (Goes.tv rfl (Goes.ite (asB_lt hk) (fun _=>?_) fun h=>nomatch h))
   refine Goes.tvs he (Goes.chk rfl (Goes.tvs he' (Goes.chk rfl (Goes.tv rfl (Goes.ite rfl (fun h=>?_) fun h=>?_)))))
   ·rw [h1 (by rw [ha,hb]; simpa using h)]; exact Goes.ret
   ·refine Goes.tv (inc hk hx.bnd) (f8_0_J (h2 ?_))
    rw [ha,hb]; simpa using h
end Go.Ab.V8
end
section
set_option linter.unusedVariables false
set_option maxRecDepth 10000
namespace Go.Ab
end Go.Ab
namespace Go.Ab.V8
open Go Go.Ab Go.Proofs
def usesE (k:Int):Int :=
 if k=1 then 5 else if k=5 then 5 else if k=2 then 65 else if k=3 then 197 else if k=4 then 355 else if k=6 then 1 else 0
def has (u f:Int):Bool:=decide (¬ IntKind.i64.wrap ((BitVec.ofInt 64 u &&& BitVec.ofInt 64 f).toNat:Int)=0)
theorem r25 (u f:Int):Runs prog 36 [I u,I f] (B (has u f)):=by
 refine Runs.of (f36_MR _ _) ?_
 unfold f36_M
 repeat' (first
  | refine Goes.chk rfl ?_
  | refine Goes.tv rfl ?_
  | refine Goes.tv (RL.len (by assumption)) ?_
  | refine Goes.nat rfl ?_
  | refine Goes.ite rfl (fun _=>?_) (fun _=>?_)
  | refine Goes.call (by assumption) ?_
  | refine Goes.tvs (by assumption) ?_)
 refine goes_ret.2 ?_
 simp [has]
 rfl
theorem r24 (k:Int):Runs prog 35 [I k] (I (usesE k)):=by
 refine Runs.of (f35_MR _) ?_
 unfold f35_M
 repeat' (first
  | refine Goes.chk rfl ?_
  | refine Goes.tv rfl ?_
  | refine Goes.tv (RL.len (by assumption)) ?_
  | refine Goes.nat rfl ?_
  | refine Goes.ite rfl (fun _=>?_) (fun _=>?_)
  | refine Goes.call (by assumption) ?_
  | refine Goes.tvs (by assumption) ?_)
 all_goals (refine goes_ret.2 ?_; simp_all [usesE])
end Go.Ab.V8
end
section
set_option linter.unusedVariables false
set_option maxRecDepth 10000
namespace Go.Ab
theorem asNat_nat {k:Nat} (h:k≤9223372036854775807):asNat (I (k:Int))=some k:=by
 simp [asNat]; omega
end Go.Ab
namespace Go.Ab.V8
open Go Go.Ab Go.Proofs
end Go.Ab.V8
end
section
set_option linter.unusedVariables false
set_option maxRecDepth 10000
namespace Go.Ab
section
variable {α:Type} {s:Nat} {R S:Nat→List TV→α→Prop} {x:TV} {l:List α}
theorem setNth_len {β:Type}:∀ (l:List β) (n:Nat) (b:β),(setNth l n b).length=l.length
 | [],_,_=>rfl
 | _ :: _,0,_=>rfl
 | a :: l,n + 1,b=>by simp [setNth,setNth_len l n b]
end
theorem RL.isFr {α:Type} {s:Nat} {R:List TV→α→Prop} {x:TV} {l:List α} (h:RL (some false) s R x l):x.isFr=true:=by
 rcases h with ⟨rfl,rfl⟩ | ⟨o,xs,rfl,hq,h,hb⟩
 ·rfl
 ·rw [hq false rfl]; rfl
theorem isOwnLL_all:∀ (xs:List (List TV)),(∀ e ∈ xs,isOwnL e=true)→isOwnLL xs=true
 | [],_=>rfl
 | e :: xs,h=>by
  simp only [isOwnLL,Bool.and_eq_true]
  exact ⟨h e List.mem_cons_self,isOwnLL_all xs fun e he=>h e (List.mem_cons_of_mem _ he)⟩
theorem F2.memL {α β:Type} {R:α→β→Prop} {xs:List α} {l:List β} (h:F2 R xs l) {e:α} (he:e ∈ xs):∃ a,a ∈ l∧R e a:=by
 obtain ⟨i,hi,rfl⟩:=List.mem_iff_getElem.1 he
 obtain ⟨a,ha,hr⟩:=h.getL (List.getElem?_eq_getElem hi)
 exact ⟨a,List.mem_of_getElem? ha,hr⟩
theorem RL.own {α:Type} {s:Nat} {R:List TV→α→Prop} {x:TV} {l:List α} (h:RL (some true) s R x l) (hm:∀ e a,R e a→isOwnL e=true):isOwn x=true:=by
 rcases h with ⟨rfl,rfl⟩ | ⟨o,xs,rfl,hq,h,hb⟩
 ·rfl
 ·rw [hq true rfl]
  simp only [isOwn,Bool.true_and]
  refine isOwnLL_all _ fun e he=>?_
  obtain ⟨a,_,hr⟩:=h.memL he
  exact hm _ _ hr
theorem RI1.own {e:List TV} {n:Int} (h:RI1 e n):isOwnL e=true:=by obtain ⟨rfl,_⟩:=h; rfl
theorem RB1.own {e:List TV} {n:Bool} (h:RB1 e n):isOwnL e=true:=by cases h; rfl
end Go.Ab
namespace Go.Ab.V8
open Go Go.Ab Go.Proofs
end Go.Ab.V8
end
section
set_option linter.unusedVariables false
set_option maxRecDepth 10000
namespace Go.Ab
section
variable {α β:Type} {p:Way} {w y:TV} {s:Nat} {R:List TV→α→Prop} {Q:TV→β→Prop} {G:List α→DMod} {l:List α}
theorem RL.at (hy:RL (some true) s R y l) {k:Nat} {e:List TV} (he:Go.Ab.pel y k=some e):∃ xs,y=.sl true s xs∧xs[k]? = some e∧F2 R xs l∧xs.length≤9223372036854775807:=by
 rcases hy with ⟨rfl,rfl⟩ | ⟨o,xs,rfl,hq,h,hb⟩
 ·simp [Go.Ab.pel] at he
 ·have:o=true:=hq true rfl
  subst this
  exact ⟨xs,rfl,he,h,hb⟩
end
end Go.Ab
namespace Go.Ab.V8
open Go Go.Ab Go.Proofs
end Go.Ab.V8
end
section
set_option linter.unusedVariables false
set_option maxRecDepth 10000
namespace Go.Ab
def gl (b:DBlock):List Int:=(if b.fin.kind=2∨b.fin.kind=3∨b.fin.kind=4 then [b.fin.to] else []) ++ (if b.fin.kind=3 then [b.fin.els] else [])
theorem set_get {M:List Bool} {g i:Nat} (hg:g < M.length):(M.set g true)[i]? = some true ↔ i=g∨M[i]? = some true:=by
 rw [List.getElem?_set]
 by_cases h:g=i
 ·subst h; simp [hg]
 ·simp [h]; intro h'; exact absurd h'.symm h
theorem set_count {M:List Bool} {g:Nat} (hg:M[g]? = some false):(M.set g true).count true=M.count true + 1:=by
 have hlt:=(List.getElem?_eq_some_iff.1 hg).1
 have hv:=(List.getElem?_eq_some_iff.1 hg).2
 rw [List.count_set hlt]
 simp [hv]
theorem count_le (M:List Bool):M.count true≤M.length:=List.count_le_length
section
variable {α:Type} {s:Nat} {R:List TV→α→Prop} {y:TV} {l:List α}
theorem RL.setAt (hy:RL (some true) s R y l) {i:Nat} {e:List TV} (he:Go.Ab.pel y i=some e) {d:Nat} {ys:List TV} {a:α} (hR:R (setCells e d ys) a):∃ y',setC [] y i d ys=some y'∧RL (some true) s R y' (l.set i a):=by
 obtain ⟨xs,rfl,hk,hf,hb⟩:=hy.at he
 refine ⟨.sl true s (setNth xs i (setCells e d ys)),by simp only [setC,getP,setEl,hk,setP],.sl (by simp) (hf.set hR) (by rw [setNth_len]; exact hb)⟩
theorem RL.app (hy:RL (some true) s R y l) {e:List TV} {a:α} (hR:R e a) (hl:l.length + 1≤4294967296):∃ y',papp s y [e]=some y'∧RL (some true) s R y' (l ++ [a]):=by
 rcases hy with ⟨rfl,rfl⟩ | ⟨o,xs,rfl,hq,h,hb⟩
 ·refine ⟨.sl true s [e],by simp [papp,nilV,room,rowT],.sl (by simp) (.cons hR .nil) (by simp)⟩
 ·have:o=true:=hq true rfl
  subst this
  have hxl:=h.length
  refine ⟨.sl true s (xs ++ [e]),?_,.sl (by simp) (h.append (.cons hR .nil)) (by simp; omega)⟩
  simp [papp,room]; omega
theorem RL.win {q:Option Bool} (hy:RL q s R y l) {k:Nat} (hk:k≤l.length):∃ y',winP 0 k y=some y'∧RL q s R y' (l.take k):=by
 rcases hy with ⟨rfl,rfl⟩ | ⟨o,xs,rfl,hq,h,hb⟩
 ·have:k=0:=by simpa using hk
  subst this
  exact ⟨.lit nilV,rfl,by simpa using RL.nil⟩
 ·have hxl:=h.length
  refine ⟨.sl o s ((xs.drop 0).take k),?_,.sl hq (by simpa using h.take k) (by simp; omega)⟩
  simp [winP]; omega
end
end Go.Ab
namespace Go.Ab.V8
open Go Go.Ab Go.Proofs
theorem has64 (k:Int):has (usesE k) 64=true ↔ k=2∨k=3∨k=4:=by
 by_cases h1:k=1
 ·subst h1; exact ⟨fun h=>absurd h (by decide +kernel),fun h=>absurd h (by decide)⟩
 by_cases h5:k=5
 ·subst h5; exact ⟨fun h=>absurd h (by decide +kernel),fun h=>absurd h (by decide)⟩
 by_cases h2:k=2
 ·subst h2; exact ⟨fun _=>.inl rfl,fun _=>by decide +kernel⟩
 by_cases h3:k=3
 ·subst h3; exact ⟨fun _=>.inr (.inl rfl),fun _=>by decide +kernel⟩
 by_cases h4:k=4
 ·subst h4; exact ⟨fun _=>.inr (.inr rfl),fun _=>by decide +kernel⟩
 have:has (usesE k) 64=false:=by
  by_cases h6:k=6
  ·subst h6; decide +kernel
  ·have:usesE k=0:=by simp [usesE, *]
   rw [this]; decide +kernel
 simp [this,h2,h3,h4]
theorem has128 (k:Int):has (usesE k) 128=true ↔ k=3:=by
 by_cases h1:k=1
 ·subst h1; exact ⟨fun h=>absurd h (by decide +kernel),fun h=>absurd h (by decide)⟩
 by_cases h5:k=5
 ·subst h5; exact ⟨fun h=>absurd h (by decide +kernel),fun h=>absurd h (by decide)⟩
 by_cases h2:k=2
 ·subst h2; exact ⟨fun h=>absurd h (by decide +kernel),fun h=>absurd h (by decide)⟩
 by_cases h3:k=3
 ·subst h3; exact ⟨fun _=>rfl,fun _=>by decide +kernel⟩
 by_cases h4:k=4
 ·subst h4; exact ⟨fun h=>absurd h (by decide +kernel),fun h=>absurd h (by decide)⟩
 have:has (usesE k) 128=false:=by
  by_cases h6:k=6
  ·subst h6; decide +kernel
  ·have:usesE k=0:=by simp [usesE, *]
   rw [this]; decide +kernel
 simp [this,h3]
theorem r15 {q:Option Bool} {e:List TV} {b:DBlock} (he:RBlock q e b):∃ y,Runs prog 27 [.agg e] y∧RInts (some true) y (gl b):=by
 obtain ⟨c,i,g,rfl,hc,hd,hi,hg,ho⟩:=he
 obtain ⟨o1,o2,o3,o4,o5,o6,o7⟩:=ho
 have tail:∀ (w:TV) (l:List Int) (u:Bool),RInts (some true) w l→l.length≤1→(u=true ↔ b.fin.kind=3)→∃ y,Goes prog 27 (f27_0 (B u) (B b.landing) (I b.pad.dst) c (B b.pad.all) (B b.pad.cleanup) i (I b.fin.kind) (I b.fin.a) (I b.fin.dst) (I b.fin.f) g (I b.fin.to) (I b.fin.els) (I b.fin.pad) w) y∧RInts (some true) y (l ++ (if b.fin.kind=3 then [b.fin.els] else [])):=by
  intro w l u hw hl hu
  by_cases h:b.fin.kind=3
  ·have hut:u=true:=hu.2 h
   subst hut
   obtain ⟨w',hw',hr⟩:=hw.app (e:=[I b.fin.els]) (a:=b.fin.els) ⟨rfl,o6⟩ (by omega)
   refine ⟨w',?_,by simpa [h] using hr⟩
   unfold f27_0
   exact Goes.ite rfl (fun _=>Goes.rws rfl (Goes.tv hw' (Goes.chk (hr.own fun _ _ h=>h.own) Goes.ret))) fun h=>nomatch h
  ·have huf:u=false:=by cases u with
    | false=>rfl
    | true=>exact absurd (hu.1 rfl) h
   subst huf
   refine ⟨w,?_,by simpa [h] using hw⟩
   unfold f27_0
   exact Goes.ite rfl (fun h=>nomatch h) fun _=>Goes.chk (hw.own fun _ _ h=>h.own) Goes.ret
 by_cases h:b.fin.kind=2∨b.fin.kind=3∨b.fin.kind=4
 ·obtain ⟨y,hy,hr⟩:=tail (.sl true 1 [[I b.fin.to]]) [b.fin.to] (has (usesE b.fin.kind) 128) (.sl (by simp) (.cons ⟨rfl,o5⟩ .nil) (by simp)) (by simp) (has128 _)
  refine ⟨y,?_,by simpa [gl,h] using hr⟩
  refine Runs.of (f27_MR _) ?_
  unfold f27_M
  refine Goes.chk rfl (Goes.call (r24 _) (Goes.chk rfl (Goes.call (r25 _ _) (Goes.chk rfl (Goes.ite (v:=true) (by rw [(has64 _).2 h]; rfl) (fun _=>?_) fun h=>nomatch h)))))
  exact Goes.rws rfl (Goes.tv rfl (Goes.call (r25 _ _) (Goes.chk rfl (f27_0_J hy))))
 ·obtain ⟨y,hy,hr⟩:=tail (.lit nilV) [] (has (usesE b.fin.kind) 128) .nil (by simp) (has128 _)
  refine ⟨y,?_,by simpa [gl,h] using hr⟩
  refine Runs.of (f27_MR _) ?_
  unfold f27_M
  have hf:has (usesE b.fin.kind) 64=false:=by
   cases hh:has (usesE b.fin.kind) 64 with
   | false=>rfl
   | true=>exact absurd ((has64 _).1 hh) h
  refine Goes.chk rfl (Goes.call (r24 _) (Goes.chk rfl (Goes.call (r25 _ _) (Goes.chk rfl (Goes.ite (v:=false) (by rw [hf]; rfl) (fun h=>nomatch h) fun _=>?_)))))
  exact Goes.call (r25 _ _) (Goes.chk rfl (Goes.chk rfl (f27_0_J hy)))
end Go.Ab.V8
end
section
set_option linter.unusedVariables false
set_option maxRecDepth 10000
namespace Go.Ab
def thereB (n:Nat) (g:Int):Bool:=decide (0≤g∧g < (n:Int))
def nx (b:DBlock):List Int:=gl b ++ (if b.fin.kind=4 then [b.fin.pad] else [])
def nextAt (bs:List DBlock) (i:Nat):List Int:=match bs[i]? with
 | some b=>(nx b).filter (thereB bs.length)
 | none=>[]
def nextL (bs:List DBlock) (n:Int):List Int:=if 0≤n then nextAt bs n.toNat else []
theorem nextAt_there {bs:List DBlock} {i:Nat} {g:Int} (h:g ∈ nextAt bs i):0≤g∧g.toNat < bs.length:=by
 unfold nextAt at h
 split at h
 ·have:=(List.mem_filter.1 h).2
  simp only [thereB,decide_eq_true_eq] at this
  omega
 ·cases h
theorem nextL_nat (bs:List DBlock) (i:Nat):nextL bs (i:Int)=nextAt bs i:=by simp [nextL]
theorem nx_len (b:DBlock):(nx b).length≤3:=by
 unfold nx gl
 split <;> split <;> split <;> simp
theorem nextL_len (bs:List DBlock) (n:Int):(nextL bs n).length≤3:=by
 unfold nextL
 split
 ·unfold nextAt
  split
  ·exact Nat.le_trans (List.length_filter_le _ _) (nx_len _)
  ·simp
 ·simp
theorem nextL_out {bs:List DBlock} {n:Int} (h:thereB bs.length n=false):nextL bs n=[]:=by
 unfold nextL
 split
 ·rename_i h0
  unfold nextAt
  rw [List.getElem?_eq_none (by simp [thereB] at h; omega)]
 ·rfl
theorem nextL_in {bs:List DBlock} {n:Int} (h:thereB bs.length n=true):∃ b,bs[n.toNat]? = some b∧nextL bs n=(nx b).filter (thereB bs.length)∧n=(n.toNat:Int):=by
 simp only [thereB,decide_eq_true_eq] at h
 have hl:n.toNat < bs.length:=by omega
 refine ⟨bs[n.toNat],List.getElem?_eq_getElem hl,?_,by omega⟩
 simp only [nextL,h.1,if_true,nextAt,List.getElem?_eq_getElem hl]
theorem filter_takeS {P:Int→Bool} {l:List Int} {j:Nat} {a:Int} (h:l[j]? = some a):(l.take (j + 1)).filter P=(l.take j).filter P ++ (if P a then [a] else []):=by
 rw [List.take_add_one,h,List.filter_append]
 cases hp:P a <;> simp [hp]
section
variable {s:Nat} {α:Type} {R:List TV→α→Prop} {y:TV} {l:List α}
theorem RL.clr (hy:RL (some true) s R y l) {k:Nat} (hk:k≤l.length) (z:List TV):∃ y',pclear s z k (l.length - k) y=some y'∧Go.Ab.slLen y'=some l.length∧Go.Ab.slSize y' s=true∧∃ y'',winP 0 k y'=some y''∧RL (some true) s R y'' (l.take k):=by
 rcases hy with ⟨rfl,rfl⟩ | ⟨o,xs,rfl,hq,h,hb⟩
 ·have:k=0:=by simpa using hk
  subst this
  exact ⟨.lit nilV,rfl,rfl,rfl,.lit nilV,rfl,by simpa using RL.nil⟩
 ·have:o=true:=hq true rfl
  subst this
  have hxl:=h.length
  refine ⟨.sl true s (xs.take k ++ (List.replicate (l.length - k) z ++ xs.drop (k + (l.length - k)))),by simp only [pclear]; rw [if_pos ⟨trivial,by omega⟩],?_,by simp [Go.Ab.slSize],.sl true s (xs.take k),?_,.sl (by simp) (h.take k) (by simp; omega)⟩
  ·simp [Go.Ab.slLen]; omega
  ·simp only [winP]
   rw [if_pos (by simp; omega),List.drop_zero,List.take_append_of_le_length (by simp; omega),List.take_take,Nat.min_self]
end
end Go.Ab
namespace Go.Ab.V8
open Go Go.Ab Go.Proofs
theorem r70 {q:Option Bool} {e:List TV} {f:DFunc} (he:RFunc q e f) (n:Int):Runs prog 26 [.agg e,I n] (B (thereB f.blocks.length n)):=by
 obtain ⟨b,rfl,hb,_⟩:=he
 refine Runs.of (f26_MR _ _) ?_
 unfold f26_M
 refine Goes.chk rfl (Goes.tv rfl (Goes.ite rfl (fun h=>Goes.tv hb.len (Goes.tv rfl ?_)) fun h=>?_))
 ·refine goes_ret.2 ?_
  have h:0≤n:=by simpa using h
  simp [thereB,h]
 ·refine goes_ret.2 ?_
  have h:¬ 0≤n:=by simpa using h
  simp [thereB,h]
theorem fit_slc {v:TV} (h:v.isSl=true):fitsAt zSl [v] 0=true:=by
 show (v.isSl && true)=true
 rw [h]; rfl
theorem del2 {y3 y4 y5:TV} {P:Int→Bool} (hP:∀ g,Runs prog 26 [.agg [y3,y4,y5],I g] (B (P g))) {l:List Int}:∀ (d i j:Nat) (w:TV) (cur:List Int),j + d=l.length→i≤j→RInts (some true) w cur→cur.length=l.length →
  cur.take i=(l.take j).filter P→(∀ m,j≤m→cur[m]? = l[m]?)→∃ y,Goes prog 16 (f16_2 (I i) (I j) w y3 y4 y5) y∧RInts (some true) y (l.filter P):=by
 intro d
 induction d with
 | zero =>
  intro i j w cur hj hij hw hcl hti _
  have hj:j=l.length:=by omega
  subst hj
  have hbn:=hw.bnd
  have hil:i≤cur.length:=by omega
  obtain ⟨y',c1,c2,c3,y'',c4,c5⟩:=hw.clr hil [I 0]
  rw [hti,List.take_length] at c5
  refine ⟨y'',?_,c5⟩
  unfold f16_2
  refine Goes.tv hw.len (Goes.tv rfl (Goes.ite (v:=false) (by rw [hcl]; exact asB_end) (fun h=>nomatch h) fun _=>?_))
  refine f16_3_J ?_
  unfold f16_3
  have han:asNat (I i)=some i:=asNat_nat (by omega)
  have hle:Nat.ble i cur.length=true:=by simpa using hil
  refine Goes.nat hw.slLen (Goes.nat han (Goes.chk (by simp [hw.slSize,hle]) (Goes.tv c1 (Goes.nat c2 (Goes.nat han (Goes.chk (by simp [c3,hle]) (Goes.tv c4 (Goes.chk (c5.own fun _ _ h=>h.own) Goes.ret))))))))
 | succ d ih =>
  intro i j w cur hj hij hw hcl hti hd
  have hjl:j < l.length:=by omega
  have hjc:j < cur.length:=by omega
  have hbn:=hw.bnd
  have ha:l[j]? = some l[j]:=List.getElem?_eq_getElem hjl
  obtain ⟨a,haa⟩:∃ a,a=l[j]:=⟨_,rfl⟩
  rw [← haa] at ha
  have hca:cur[j]? = some a:=by rw [hd j (Nat.le_refl _)]; exact ha
  obtain ⟨e,he,rfl,hea⟩:=hw.pel hca
  have anj:asNat (I j)=some j:=asNat_nat (by omega)
  have ani:asNat (I i)=some i:=asNat_nat (by omega)
  cases hp:P a with
  | true =>
   have hic:i < cur.length:=by omega
   obtain ⟨e',he',rfl,_⟩:=hw.pel (List.getElem?_eq_getElem hic)
   obtain ⟨w',hw',hr⟩:=hw.setAt he' (d:=0) (ys:=[I a]) (a:=a) ⟨rfl,hea⟩
   obtain ⟨y,hy,hry⟩:=ih (i + 1) (j + 1) w' (cur.set i a) (by omega) (by omega) hr (by simpa using hcl) (by
    rw [filter_takeS ha,hp,if_pos rfl,← hti,List.take_add_one,List.getElem?_set_self hic]
    congr 1
    rw [List.take_set_of_le (Nat.le_refl _)]) (fun m hm=>by
    rw [List.getElem?_set_ne (by omega)]
    exact hd m (by omega))
   refine ⟨y,?_,hry⟩
   unfold f16_2
   refine Goes.tv hw.len (Goes.tv rfl (Goes.ite (asB_lt hjc) (fun _=>?_) fun h=>nomatch h))
   refine Goes.nat hw.slLen (Goes.nat anj (Goes.chk (by simp [hw.slSize,hjc]) (Goes.tvs he (Goes.chk rfl (Goes.call (hP a) (Goes.chk rfl (Goes.tv rfl (Goes.tv rfl (Goes.ite (v:=true) (by rw [hp]; rfl) (fun _=>?_) fun h=>nomatch h)))))))))
   exact Goes.nat hw.slLen (Goes.nat ani (Goes.chk (by simp [hw.slSize,hic]) (Goes.tvs he' (Goes.chk rfl (Goes.tv hw' (Goes.tv (inc hic hbn) (Goes.tv (inc hjc hbn) (f16_2_J hy))))))))
  | false =>
   obtain ⟨y,hy,hry⟩:=ih i (j + 1) w cur (by omega) (by omega) hw hcl (by rw [filter_takeS ha,hp,hti]; simp) (fun m hm=>hd m (by omega))
   refine ⟨y,?_,hry⟩
   unfold f16_2
   refine Goes.tv hw.len (Goes.tv rfl (Goes.ite (asB_lt hjc) (fun _=>?_) fun h=>nomatch h))
   exact Goes.nat hw.slLen (Goes.nat anj (Goes.chk (by simp [hw.slSize,hjc]) (Goes.tvs he (Goes.chk rfl (Goes.call (hP a) (Goes.chk rfl (Goes.tv rfl (Goes.tv rfl (Goes.ite (v:=false) (by rw [hp]; rfl) (fun h=>nomatch h) fun _=>Goes.tv (inc hjc hbn) (f16_2_J hy))))))))))
theorem del1 {y3 y4 y5:TV} {P:Int→Bool} (hP:∀ g,Runs prog 26 [.agg [y3,y4,y5],I g] (B (P g))) {l:List Int} {w:TV} (hw:RInts (some true) w l):∀ (d k:Nat),k + d=l.length→(l.take k).filter P=l.take k →
  ∃ y,Goes prog 16 (f16_1 (I l.length) (I k) w y3 y4 y5) y∧RInts (some true) y (l.filter P):=by
 intro d
 have hbn:=hw.bnd
 induction d with
 | zero =>
  intro k hk hf
  have hk:k=l.length:=by omega
  subst hk
  rw [List.take_length] at hf
  refine ⟨w,?_,by rw [hf]; exact hw⟩
  unfold f16_1
  exact Goes.tv rfl (Goes.ite asB_end (fun h=>nomatch h) fun _=>Goes.tv rfl (Goes.ite (v:=true) rfl (fun _=>Goes.chk (hw.own fun _ _ h=>h.own) Goes.ret) fun h=>nomatch h))
 | succ d ih =>
  intro k hk hf
  have hkl:k < l.length:=by omega
  obtain ⟨a,haa⟩:∃ a,a=l[k]:=⟨_,rfl⟩
  have ha:l[k]? = some a:=by rw [haa]; exact List.getElem?_eq_getElem hkl
  obtain ⟨e,he,rfl,hea⟩:=hw.pel ha
  have ank:asNat (I k)=some k:=asNat_nat (by omega)
  cases hp:P a with
  | true =>
   obtain ⟨y,hy,hry⟩:=ih (k + 1) (by omega) (by rw [filter_takeS ha,hp,hf,List.take_add_one,ha]; rfl)
   refine ⟨y,?_,hry⟩
   unfold f16_1
   refine Goes.tv rfl (Goes.ite (asB_lt hkl) (fun _=>?_) fun h=>nomatch h)
   exact Goes.nat hw.slLen (Goes.nat ank (Goes.chk (by simp [hw.slSize,hkl]) (Goes.tvs he (Goes.chk rfl (Goes.call (hP a) (Goes.chk rfl (Goes.tv rfl (Goes.ite (v:=false) (by rw [hp]; rfl) (fun h=>nomatch h) fun _=>Goes.tv (inc hkl hbn) (f16_1_J hy)))))))))
  | false =>
   obtain ⟨y,hy,hry⟩:=del2 hP d k (k + 1) w l (by omega) (by omega) hw rfl (by rw [filter_takeS ha,hp,hf]; simp) (fun m _=>rfl)
   refine ⟨y,?_,hry⟩
   unfold f16_1
   refine Goes.tv rfl (Goes.ite (asB_lt hkl) (fun _=>?_) fun h=>nomatch h)
   refine Goes.nat hw.slLen (Goes.nat ank (Goes.chk (by simp [hw.slSize,hkl]) (Goes.tvs he (Goes.chk rfl (Goes.call (hP a) (Goes.chk rfl (Goes.tv rfl (Goes.ite (v:=true) (by rw [hp]; rfl) (fun _=>?_) fun h=>nomatch h))))))))
   have hne:((k:Int) == (-1:Int))=false:=by simp
   exact Goes.tv rfl (Goes.ite (v:=false) (by simp only [asBool,hne]) (fun h=>nomatch h) fun _=>Goes.tv (inc hkl hbn) (f16_2_J hy))
theorem r71 {q:Option Bool} {e:List TV} {f:DFunc} (he:RFunc q e f) (n:Int):∃ y,Runs prog 16 [.agg e,I n] y∧RInts (some true) y (nextL f.blocks n):=by
 have he0:=he
 obtain ⟨b,rfl,hb,_⟩:=he
 cases ht:thereB f.blocks.length n with
 | false =>
  refine ⟨.lit nilV,?_,by rw [nextL_out ht]; exact .nil⟩
  refine Runs.of (f16_MR _ _) ?_
  unfold f16_M
  refine Goes.chk rfl (Goes.call (r70 he0 n) (Goes.chk rfl (Goes.tv rfl (Goes.ite (v:=true) (by rw [ht]; rfl) (fun _=>Goes.chk rfl Goes.ret) fun h=>nomatch h))))
 | true =>
  obtain ⟨bk,hbk,hnl,hn⟩:=nextL_in ht
  have key:∀ (w:TV),RInts (some true) w (nx bk)→∃ y,Goes prog 16 (f16_0 (I f.params) (I f.regs) b w) y∧RInts (some true) y (nextL f.blocks n):=fun w hw=>by
   obtain ⟨y,hy,hr⟩:=del1 (fun g=>r70 he0 g) hw (nx bk).length 0 (by omega) (by simp)
   refine ⟨y,?_,by rw [hnl]; exact hr⟩
   unfold f16_0
   exact Goes.tv hw.len (f16_1_J hy)
  obtain ⟨e2,he2,hR⟩:=hb.idx (k:=.i64) hbk
  obtain ⟨v,hv,hvr⟩:=r15 hR
  have hR0:=hR
  obtain ⟨c,i,g,rfl,hc,hd,hi,hg,ho⟩:=hR
  rw [← hn] at he2
  by_cases h4:bk.fin.kind=4
  ·obtain ⟨w,hw,hwr⟩:=hvr.app (e:=[I bk.fin.pad]) (a:=bk.fin.pad) ⟨rfl,ho.2.2.2.2.2.2⟩ (by have:(gl bk).length≤2:=by { unfold gl; split <;> split <;> simp }; omega)
   obtain ⟨y,hy,hr⟩:=key w (by unfold nx; rw [if_pos h4]; exact hwr)
   refine ⟨y,?_,hr⟩
   refine Runs.of (f16_MR _ _) ?_
   unfold f16_M
   refine Goes.chk rfl (Goes.call (r70 he0 n) (Goes.chk rfl (Goes.tv rfl (Goes.ite (v:=false) (by rw [ht]; rfl) (fun h=>nomatch h) fun _=>?_))))
   exact Goes.tvs he2 (Goes.chk rfl (Goes.call hv (Goes.chk (fit_slc hvr.isSl) (Goes.tv rfl (Goes.ite (v:=true) (by simp [asBool,h4]) (fun _=>Goes.rws rfl (Goes.tv hw (f16_0_J hy))) fun h=>nomatch h)))))
  ·obtain ⟨y,hy,hr⟩:=key v (by unfold nx; rw [if_neg h4,List.append_nil]; exact hvr)
   refine ⟨y,?_,hr⟩
   refine Runs.of (f16_MR _ _) ?_
   unfold f16_M
   refine Goes.chk rfl (Goes.call (r70 he0 n) (Goes.chk rfl (Goes.tv rfl (Goes.ite (v:=false) (by rw [ht]; rfl) (fun h=>nomatch h) fun _=>?_))))
   exact Goes.tvs he2 (Goes.chk rfl (Goes.call hv (Goes.chk (fit_slc hvr.isSl) (Goes.tv rfl (Goes.ite (v:=false) (by simp [asBool,h4]) (fun h=>nomatch h) fun _=>f16_0_J hy)))))
end Go.Ab.V8
end
section
set_option linter.unusedVariables false
set_option maxRecDepth 10000
namespace Go.Ab
theorem take_get {α:Type} {l:List α} {j:Nat} {a:α} (h:l[j]? = some a):l.take (j + 1)=l.take j ++ [a]:=by
 rw [List.take_add_one,h]; rfl
end Go.Ab
namespace Go.Ab.V8
open Go Go.Ab Go.Proofs
section
variable {q:Option Bool} {b:TV} {bs:List DBlock} (hb:RL q 14 (RBlock q) b bs)
include hb
theorem nxLoop {y1 y2 w4:TV} {l:List Int} (hw:RInts (some true) w4 l) (hl:l.length≤1000):∀ (d j:Nat) (acc:TV) (m:List Int),j + d=l.length→RInts (some true) acc m→m=(l.take j).filter (thereB bs.length) →
  ∃ y,Goes prog 24 (f24_4 (I j) y1 y2 b w4 acc) y∧RInts (some true) y (l.filter (thereB bs.length)):=by
 intro d
 have hbn:=hw.bnd
 induction d with
 | zero =>
  intro j acc m hj ha hm
  have hj:j=l.length:=by omega
  subst hj
  rw [List.take_length] at hm
  subst hm
  refine ⟨acc,?_,ha⟩
  unfold f24_4
  exact Goes.tv hw.len (Goes.tv rfl (Goes.ite asB_end (fun h=>nomatch h) fun _=>Goes.ret))
 | succ d ih =>
  intro j acc m hj ha hm
  have hjl:j < l.length:=by omega
  obtain ⟨a,haa⟩:∃ a,a=l[j]:=⟨_,rfl⟩
  have hla:l[j]? = some a:=by rw [haa]; exact List.getElem?_eq_getElem hjl
  obtain ⟨e,he,rfl,hea⟩:=hw.pel hla
  have anj:asNat (I j)=some j:=asNat_nat (by omega)
  have hml:m.length≤j:=by rw [hm]; exact Nat.le_trans (List.length_filter_le _ _) (by simp; omega)
  cases hp:thereB bs.length a with
  | true =>
   have hp':0≤a∧a < (bs.length:Int):=by simpa [thereB] using hp
   obtain ⟨acc',h1,h2⟩:=ha.app (e:=[I a]) (a:=a) ⟨rfl,hea⟩ (by omega)
   obtain ⟨y,hy,hr⟩:=ih (j + 1) acc' (m ++ [a]) (by omega) h2 (by rw [filter_takeS hla,hp,if_pos rfl,hm])
   refine ⟨y,?_,hr⟩
   unfold f24_4
   refine Goes.tv hw.len (Goes.tv rfl (Goes.ite (asB_lt hjl) (fun _=>?_) fun h=>nomatch h))
   refine Goes.nat hw.slLen (Goes.nat anj (Goes.chk (by simp [hw.slSize,hjl]) (Goes.tvs he (Goes.chk rfl (Goes.tv rfl (Goes.ite (v:=true) (by simp [asBool,hp'.1]) (fun _=>?_) fun h=>nomatch h))))))
   refine Goes.nat hw.slLen (Goes.nat anj (Goes.chk (by simp [hw.slSize,hjl]) (Goes.tvs he (Goes.chk rfl (Goes.tv hb.len (Goes.tv rfl (Goes.ite (v:=true) (by simp [asBool,hp'.2]) (fun _=>?_) fun h=>nomatch h)))))))
   exact Goes.nat hw.slLen (Goes.nat anj (Goes.chk (by simp [hw.slSize,hjl]) (Goes.tvs he (Goes.chk rfl (Goes.rws rfl (Goes.tv h1 (Goes.tv (inc hjl hbn) (f24_4_J hy))))))))
  | false =>
   obtain ⟨y,hy,hr⟩:=ih (j + 1) acc m (by omega) ha (by rw [filter_takeS hla,hp,hm]; simp)
   refine ⟨y,?_,hr⟩
   unfold f24_4
   refine Goes.tv hw.len (Goes.tv rfl (Goes.ite (asB_lt hjl) (fun _=>?_) fun h=>nomatch h))
   refine Goes.nat hw.slLen (Goes.nat anj (Goes.chk (by simp [hw.slSize,hjl]) (Goes.tvs he (Goes.chk rfl (Goes.tv rfl (Goes.ite rfl (fun h=>?_) fun h=>?_))))))
   ·have h0:0≤a:=by simpa using h
    have h1:¬ a < (bs.length:Int):=by
     intro h; simp [thereB,h0,h] at hp
    exact Goes.nat hw.slLen (Goes.nat anj (Goes.chk (by simp [hw.slSize,hjl]) (Goes.tvs he (Goes.chk rfl (Goes.tv hb.len (Goes.tv rfl (Goes.ite (v:=false) (by simp [asBool,h1]) (fun h=>nomatch h) fun _=>Goes.tv (inc hjl hbn) (f24_4_J hy))))))))
   ·exact Goes.tv (inc hjl hbn) (f24_4_J hy)
theorem nxEnd {y1 y2 g:TV} {x:DEnd} (ho:x.ok):∀ (w:TV) (l:List Int) (u:Bool),RInts (some true) w l→l.length≤2→u=(x.kind == 4) →
  ∃ y,Goes prog 24 (f24_2 (B u) y1 y2 b (I x.kind) (I x.a) (I x.dst) (I x.f) g (I x.to) (I x.els) (I x.pad) w) y∧RInts (some true) y ((l ++ (if x.kind=4 then [x.pad] else [])).filter (thereB bs.length)):=by
 intro w l u hw hl hu
 have key:∀ (w:TV) (m:List Int),RInts (some true) w m→m.length≤3→∃ y,Goes prog 24 (f24_3 (I 0) y1 y2 b w (.lit nilV)) y∧RInts (some true) y (m.filter (thereB bs.length)):=fun w m hw hm=>by
  obtain ⟨y,hy,hr⟩:=nxLoop hb (y1:=y1) (y2:=y2) hw (by omega) m.length 0 (.lit nilV) [] (by omega) .nil (by simp)
  exact ⟨y,by unfold f24_3; exact f24_4_J hy,hr⟩
 subst hu
 by_cases h4:x.kind=4
 ·obtain ⟨w',h1,h2⟩:=hw.app (e:=[I x.pad]) (a:=x.pad) ⟨rfl,ho.2.2.2.2.2.2⟩ (by omega)
  obtain ⟨y,hy,hr⟩:=key w' _ h2 (by simp; omega)
  refine ⟨y,?_,by rw [if_pos h4]; exact hr⟩
  unfold f24_2
  exact Goes.ite (v:=true) (by simp [asBool,h4]) (fun _=>Goes.rws rfl (Goes.tv h1 (Goes.chk rfl (f24_3_J hy)))) fun h=>nomatch h
 ·obtain ⟨y,hy,hr⟩:=key w _ hw (by omega)
  refine ⟨y,?_,by rw [if_neg h4,List.append_nil]; exact hr⟩
  unfold f24_2
  exact Goes.ite (v:=false) (by simp [asBool,h4]) (fun h=>nomatch h) fun _=>Goes.chk rfl (f24_3_J hy)
theorem nxMid {y1 y2 g:TV} {x:DEnd} (ho:x.ok):∀ (w:TV) (l:List Int) (u:Bool),RInts (some true) w l→l.length≤1→u=(x.kind == 3) →
  ∃ y,Goes prog 24 (f24_1 (B u) y1 y2 b (I x.kind) (I x.a) (I x.dst) (I x.f) g (I x.to) (I x.els) (I x.pad) w) y∧RInts (some true) y ((l ++ (if x.kind=3 then [x.els] else []) ++ (if x.kind=4 then [x.pad] else [])).filter (thereB bs.length)):=by
 intro w l u hw hl hu
 subst hu
 by_cases h3:x.kind=3
 ·obtain ⟨w',h1,h2⟩:=hw.app (e:=[I x.els]) (a:=x.els) ⟨rfl,ho.2.2.2.2.2.1⟩ (by omega)
  obtain ⟨y,hy,hr⟩:=nxEnd hb (y1:=y1) (y2:=y2) (g:=g) ho w' _ _ h2 (by simp; omega) rfl
  refine ⟨y,?_,by rw [if_pos h3]; exact hr⟩
  unfold f24_1
  exact Goes.ite (v:=true) (by simp [asBool,h3]) (fun _=>Goes.rws rfl (Goes.tv h1 (Goes.tv rfl (f24_2_J hy)))) fun h=>nomatch h
 ·obtain ⟨y,hy,hr⟩:=nxEnd hb (y1:=y1) (y2:=y2) (g:=g) ho w _ _ hw (by omega) rfl
  refine ⟨y,?_,by rw [if_neg h3,List.append_nil]; exact hr⟩
  unfold f24_1
  exact Goes.ite (v:=false) (by simp [asBool,h3]) (fun h=>nomatch h) fun _=>Goes.tv rfl (f24_2_J hy)
theorem nxTop {y1 y2 g:TV} {x:DEnd} (ho:x.ok) (u:Bool) (hu:u=true ↔ x.kind=2∨x.kind=3∨x.kind=4) :
  ∃ y,Goes prog 24 (f24_0 (B u) y1 y2 b (I x.kind) (I x.a) (I x.dst) (I x.f) g (I x.to) (I x.els) (I x.pad) (.lit nilV)) y ∧
   RInts (some true) y (((if x.kind=2∨x.kind=3∨x.kind=4 then [x.to] else []) ++ (if x.kind=3 then [x.els] else []) ++ (if x.kind=4 then [x.pad] else [])).filter (thereB bs.length)):=by
 cases u with
 | true =>
  have h:=hu.1 rfl
  obtain ⟨w',h1,h2⟩:=(RL.nil:RInts (some true) (.lit nilV) []).app (e:=[I x.to]) (a:=x.to) ⟨rfl,ho.2.2.2.2.1⟩ (by simp)
  obtain ⟨y,hy,hr⟩:=nxMid hb (y1:=y1) (y2:=y2) (g:=g) ho w' _ _ h2 (by simp) rfl
  refine ⟨y,?_,by rw [if_pos h]; exact hr⟩
  unfold f24_0
  exact Goes.ite rfl (fun _=>Goes.rws rfl (Goes.tv h1 (Goes.tv rfl (f24_1_J hy)))) fun h=>nomatch h
 | false =>
  have h:¬ (x.kind=2∨x.kind=3∨x.kind=4):=fun h=>by have:=hu.2 h; cases this
  obtain ⟨y,hy,hr⟩:=nxMid hb (y1:=y1) (y2:=y2) (g:=g) ho (.lit nilV) [] _ .nil (by simp) rfl
  refine ⟨y,?_,by rw [if_neg h]; exact hr⟩
  unfold f24_0
  exact Goes.ite rfl (fun h=>nomatch h) fun _=>Goes.tv rfl (f24_1_J hy)
end
theorem r72 {q:Option Bool} {e:List TV} {f:DFunc} (he:RFunc q e f) (n:Int):∃ y,Runs prog 24 [.agg e,I n] y∧RInts (some true) y (nextL f.blocks n):=by
 obtain ⟨b,rfl,hb,_⟩:=he
 by_cases h0:n < 0
 ·refine ⟨.lit nilV,?_,by rw [nextL,if_neg (by omega)]; exact .nil⟩
  refine Runs.of (f24_MR _ _) ?_
  unfold f24_M
  exact Goes.chk rfl (Goes.tv rfl (Goes.ite (v:=true) (by simp [asBool,h0]) (fun _=>Goes.ret) fun h=>nomatch h))
 by_cases h1:n ≥ (f.blocks.length:Int)
 ·refine ⟨.lit nilV,?_,by rw [nextL_out (by simp [thereB]; omega)]; exact .nil⟩
  refine Runs.of (f24_MR _ _) ?_
  unfold f24_M
  exact Goes.chk rfl (Goes.tv rfl (Goes.ite (v:=false) (by simp [asBool]; omega) (fun h=>nomatch h) fun _=>Goes.tv hb.len (Goes.tv rfl (Goes.ite (v:=true) (by simp [asBool]; omega) (fun _=>Goes.ret) fun h=>nomatch h))))
 obtain ⟨bk,hbk,hnl,hn⟩:=nextL_in (bs:=f.blocks) (n:=n) (by simp [thereB]; omega)
 obtain ⟨e2,he2,hR⟩:=hb.idx (k:=.i64) hbk
 obtain ⟨c,i,g,rfl,hc,hd,hi,hg,ho⟩:=hR
 rw [← hn] at he2
 have key:∀ u:Bool,(u=true ↔ bk.fin.kind=2∨bk.fin.kind=3∨bk.fin.kind=4)→∃ y,Goes prog 24 (f24_0 (B u) (I f.params) (I f.regs) b (I bk.fin.kind) (I bk.fin.a) (I bk.fin.dst) (I bk.fin.f) g (I bk.fin.to) (I bk.fin.els) (I bk.fin.pad) (.lit nilV)) y∧RInts (some true) y (nextL f.blocks n):=fun u hu=>by
  obtain ⟨y,hy,hr⟩:=nxTop hb (y1:=I f.params) (y2:=I f.regs) (g:=g) ho u hu
  exact ⟨y,hy,by rw [hnl]; exact hr⟩
 have start:∀ {r:TV},(∀ (h2:bk.fin.kind=2),Goes prog 24 (f24_0 (B true) (I f.params) (I f.regs) b (I bk.fin.kind) (I bk.fin.a) (I bk.fin.dst) (I bk.fin.f) g (I bk.fin.to) (I bk.fin.els) (I bk.fin.pad) (.lit nilV)) r) →
   (∀ (h3:bk.fin.kind=3),Goes prog 24 (f24_0 (B true) (I f.params) (I f.regs) b (I bk.fin.kind) (I bk.fin.a) (I bk.fin.dst) (I bk.fin.f) g (I bk.fin.to) (I bk.fin.els) (I bk.fin.pad) (.lit nilV)) r) →
   (∀ (h2:¬ bk.fin.kind=2) (h3:¬ bk.fin.kind=3),Goes prog 24 (f24_0 (B (bk.fin.kind == 4)) (I f.params) (I f.regs) b (I bk.fin.kind) (I bk.fin.a) (I bk.fin.dst) (I bk.fin.f) g (I bk.fin.to) (I bk.fin.els) (I bk.fin.pad) (.lit nilV)) r) →
   Runs prog 24 [.agg [I f.params,I f.regs,b],I n] r:=fun {r} k2 k3 k4=>by
  refine Runs.of (f24_MR _ _) ?_
  unfold f24_M
  refine Goes.chk rfl (Goes.tv rfl (Goes.ite (v:=false) (by simp [asBool]; omega) (fun h=>nomatch h) fun _=>Goes.tv hb.len (Goes.tv rfl (Goes.ite (v:=false) (by simp [asBool]; omega) (fun h=>nomatch h) fun _=>?_))))
  refine Goes.tvs he2 (Goes.chk rfl (Goes.tv rfl (Goes.ite rfl (fun h=>?_) fun h=>?_)))
  ·exact Goes.chk rfl (f24_0_J (k2 (by simpa using h)))
  ·have h2:¬ bk.fin.kind=2:=by simpa using h
   refine Goes.tv rfl (Goes.ite rfl (fun h=>?_) fun h=>?_)
   ·exact Goes.chk rfl (f24_0_J (k3 (by simpa using h)))
   ·exact Goes.tv rfl (Goes.chk rfl (f24_0_J (k4 h2 (by simpa using h))))
 by_cases h23:bk.fin.kind=2∨bk.fin.kind=3
 ·obtain ⟨y,hy,hr⟩:=key true ⟨fun _=>(by rcases h23 with h | h <;> simp [h]),fun _=>rfl⟩
  exact ⟨y,start (fun _=>hy) (fun _=>hy) (fun h2 h3=>absurd h23 (by simp [h2,h3])),hr⟩
 ·have h2:¬ bk.fin.kind=2:=fun h=>h23 (.inl h)
  have h3:¬ bk.fin.kind=3:=fun h=>h23 (.inr h)
  obtain ⟨y,hy,hr⟩:=key (bk.fin.kind == 4) (by simp [h2,h3])
  exact ⟨y,start (fun h=>absurd h h2) (fun h=>absurd h h3) (fun _ _=>hy),hr⟩
end Go.Ab.V8
end

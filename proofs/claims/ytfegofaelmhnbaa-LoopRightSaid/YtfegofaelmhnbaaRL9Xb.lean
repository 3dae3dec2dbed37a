import Derived.Test.YtfegofaelmhnbaaRL9Xa
set_option linter.unusedVariables false
set_option maxRecDepth 100000
namespace Go.Ab.L9
open Go Go.Ab Go.Proofs
open Go.Ab.TV (hole cell comp isSl isSc isTup cellsL tup agg)
open Go.Ab.Prg (tv tvs rws nat chk call jmp ret)
def f9_0_S  (x0 y1 y2 y3 w4 w5:TV):ASt:=⟨[AV.one CA.junk,AV.one (CA.ptr 0 0),AV.one CA.junk,AV.one (CA.sref 1 0 []),AV.one (CA.sref 2 0 []),AV.tv x0] ++ List.replicate 103 (AV.one CA.junk),[some (BC.cells [CA.t y1,CA.t y2,CA.t y3]),some (BC.tree [w4]),some (BC.tree [w5])] ++ List.replicate 130 (none),[]⟩
def f9_1_S  (x0 x1 x2 y3 y4 y5 w6 w7 w8:TV):ASt:=⟨[AV.one CA.junk,AV.one (CA.ptr 0 0),AV.one CA.junk,AV.one (CA.sref 1 0 []),AV.one (CA.sref 2 0 []),AV.tv x0,AV.one (CA.sref 3 0 []),AV.tv x1,AV.tv x2] ++ List.replicate 100 (AV.one CA.junk),[some (BC.cells [CA.t y3,CA.t y4,CA.t y5]),some (BC.tree [w6]),some (BC.tree [w7]),some (BC.tree [w8])] ++ List.replicate 129 (none),[]⟩
def f9_2_S  (x0 x1 x2 x3 y4 y5 y6 w7 w8 w9 w10:TV):ASt:=⟨[AV.one CA.junk,AV.one (CA.ptr 0 0),AV.one CA.junk,AV.one (CA.sref 1 0 []),AV.one (CA.sref 2 0 []),AV.tv x0,AV.one (CA.sref 3 0 []),AV.tv x1,AV.tv x2,AV.one (CA.sref 4 0 []),AV.tv x3] ++ List.replicate 98 (AV.one CA.junk),[some (BC.cells [CA.t y4,CA.t y5,CA.t y6]),some (BC.tree [w7]),some (BC.tree [w8]),some (BC.tree [w9]),some (BC.tree [w10])] ++ List.replicate 128 (none),[]⟩
def f9_3_S  (x0 x1 y2 y3 y4 w5 w6 w7:TV):ASt:=⟨[AV.one CA.junk,AV.one (CA.ptr 0 0),AV.one CA.junk,AV.one (CA.sref 1 0 []),AV.one (CA.sref 2 0 []),AV.tv x0,AV.one (CA.sref 3 0 []),AV.tv x1] ++ List.replicate 101 (AV.one CA.junk),[some (BC.cells [CA.t y2,CA.t y3,CA.t y4]),some (BC.tree [w5]),some (BC.tree [w6]),some (BC.tree [w7])] ++ List.replicate 129 (none),[]⟩
def f9_4_S  (x0 x1 y2 y3 y4 w5 w6 w7 y8 w9:TV):ASt:=⟨[AV.one CA.junk,AV.one (CA.ptr 0 0),AV.one CA.junk,AV.one (CA.sref 1 0 []),AV.one (CA.sref 2 0 []),AV.tv x0,AV.one (CA.sref 3 0 [])] ++ List.replicate 4 (AV.one CA.junk) ++ [AV.one (CA.ptr 4 0),AV.tv x1] ++ List.replicate 96 (AV.one CA.junk),[some (BC.cells [CA.t y2,CA.t y3,CA.t y4]),some (BC.tree [w5]),some (BC.tree [w6]),some (BC.tree [w7]),some (BC.cells [CA.t y8,CA.sref 5 0 []]),some (BC.tree [w9])] ++ List.replicate 127 (none),[]⟩
def f9_5_S  (x0 y1 y2 y3 w4 w5 y6 w7:TV):ASt:=⟨[AV.one CA.junk,AV.one (CA.ptr 0 0),AV.one CA.junk,AV.one (CA.sref 1 0 []),AV.one (CA.sref 2 0 []),AV.tv x0] ++ List.replicate 5 (AV.one CA.junk) ++ [AV.one (CA.ptr 3 0)] ++ List.replicate 97 (AV.one CA.junk),[some (BC.cells [CA.t y1,CA.t y2,CA.t y3]),some (BC.tree [w4]),some (BC.tree [w5]),some (BC.cells [CA.t y6,CA.sref 4 0 []]),some (BC.tree [w7])] ++ List.replicate 128 (none),[]⟩
def f9_M (x0:TV):Prg TV :=
 chk (TV.isAgg x0 3) (
 call 19 [agg [cell x0 0,cell x0 1,cell x0 2]] fun v0 =>
 chk (fitsAt zSl [v0] 0) (
 chk true (
 jmp [0,0,1,0,1,1,1] (f9_0_S (I 0) (cell x0 0) (cell x0 1) (cell x0 2) v0 (TV.lit nilV)))))
def f9_0  (x0 y1 y2 y3 w4 w5:TV):Prg TV :=
 tv (plen (.slice 47) y3) fun v1 =>
 tv (pbin (.int .i64) .lss x0 v1) fun v2 =>
 Prg.ite (asBool v2) (
 tv (plen (.slice 47) y3) fun v3 =>
 nat (asNat v3) fun n4 =>
 nat (asNat v3) fun n5 =>
 chk (Bool.and (Nat.ble n4 n5) (Nat.ble n5 4294967296)) (
 jmp [0,0,1,0,1,1,0,0,1,0,0,1,0,1,1,1] (f9_1_S x0 (B false) (I 0) y1 y2 y3 w4 w5 (TV.sl true 1 (List.replicate n4 [B false]))))) (
 ret w5)
def f9_1  (x0 x1 x2 y3 y4 y5 w6 w7 w8:TV):Prg TV :=
 tv (plen (.slice 47) y5) fun v6 =>
 tv (pbin (.int .i64) .lss x2 v6) fun v7 =>
 Prg.ite (asBool v7) (
 nat (slLen w6) fun n8 =>
 nat (asNat x0) fun n9 =>
 chk (Bool.and (slSize w6 1) (Nat.blt n9 n8)) (
 tvs (pel w6 n9) fun e10 =>
 chk (fitsAt zSl e10 0) (
 tv (getP [(n9,0)] w6) fun v11 =>
 nat (slLen v11) fun n12 =>
 nat (asNat x2) fun n13 =>
 chk (Bool.and (slSize v11 1) (Nat.blt n13 n12)) (
 tv (getP [(n9,0)] w6) fun v14 =>
 tvs (pel v14 n13) fun e15 =>
 chk (fitsAt zBool e15 0) (
 tv (pun .not (nth hole e15 0)) fun v16 =>
 Prg.ite (asBool v16) (
 tv (pbin (.int .i64) .add x2 (I 1)) fun v17 =>
 jmp [0,0,1,0,1,1,0,0,1,0,0,1,0,1,1,1] (f9_1_S x0 x1 v17 y3 y4 y5 w6 w7 w8)) (
 call 20 [agg [y3,y4,y5],x2] fun v18 =>
 chk (fitsAt zSl [v18] 0) (
 call 11 [frz v18,x0] fun v19 =>
 chk (fitsAt zBool [v19] 0) (
 tv (pun .not v19) fun v20 =>
 Prg.ite (asBool v20) (
 tv (pbin (.int .i64) .add x2 (I 1)) fun v21 =>
 jmp [0,0,1,0,1,1,0,0,1,0,0,1,0,1,1,1] (f9_1_S x0 x1 v21 y3 y4 y5 w6 w7 w8)) (
 call 21 [agg [y3,y4,y5],x2,x0] fun v22 =>
 chk (fitsAt zSl [v22] 0) (
 jmp [0,0,1,1,1,1,0,0,1,0,0,1,0,1,1,0,0,1,0,0,1,0,1,1,1] (f9_2_S x0 (B true) x2 (I 0) y3 y4 y5 w6 w7 w8 v22))))))))))) (
 jmp [1,1,1,0,0,1,0,0,1,0,1,1,1] (f9_3_S x0 x1 y3 y4 y5 w6 w7 w8))
def f9_2  (x0 x1 x2 x3 y4 y5 y6 w7 w8 w9 w10:TV):Prg TV :=
 tv (plen (.slice 4) w9) fun v23 =>
 tv (pbin (.int .i64) .lss x3 v23) fun v24 =>
 Prg.ite (asBool v24) (
 nat (slLen w9) fun n25 =>
 nat (asNat x3) fun n26 =>
 chk (Bool.and (slSize w9 1) (Nat.blt n26 n25)) (
 tvs (pel w9 n26) fun e27 =>
 chk (fitsAt zBool e27 0) (
 Prg.ite (asBool (nth hole e27 0)) (
 nat (slLen w9) fun n28 =>
 nat (asNat x3) fun n29 =>
 chk (Bool.and (slSize w9 1) (Nat.blt n29 n28)) (
 tvs (pel w9 n29) fun e30 =>
 chk (fitsAt zBool e30 0) (
 tv (setC [] w9 n29 0 [B true]) fun v31 =>
 tv (pbin (.int .i64) .add x3 (I 1)) fun v32 =>
 jmp [0,0,1,1,1,1,0,0,1,0,0,1,0,1,1,0,0,1,0,0,1,0,1,1,1] (f9_2_S x0 x1 x2 v32 y4 y5 y6 w7 w8 v31 w10)))) (
 nat (slLen w10) fun n33 =>
 nat (asNat x3) fun n34 =>
 chk (Bool.and (slSize w10 1) (Nat.blt n34 n33)) (
 tvs (pel w10 n34) fun e35 =>
 chk (fitsAt zBool e35 0) (
 Prg.ite (asBool (nth hole e35 0)) (
 nat (slLen w7) fun n36 =>
 nat (asNat x0) fun n37 =>
 chk (Bool.and (slSize w7 1) (Nat.blt n37 n36)) (
 tvs (pel w7 n37) fun e38 =>
 chk (fitsAt zSl e38 0) (
 tv (getP [(n37,0)] w7) fun v39 =>
 nat (slLen v39) fun n40 =>
 nat (asNat x3) fun n41 =>
 chk (Bool.and (slSize v39 1) (Nat.blt n41 n40)) (
 tv (getP [(n37,0)] w7) fun v42 =>
 tvs (pel v42 n41) fun e43 =>
 chk (fitsAt zBool e43 0) (
 nat (slLen w9) fun n44 =>
 nat (asNat x3) fun n45 =>
 chk (Bool.and (slSize w9 1) (Nat.blt n45 n44)) (
 tvs (pel w9 n45) fun e46 =>
 chk (fitsAt zBool e46 0) (
 tv (setC [] w9 n45 0 [nth hole e43 0]) fun v47 =>
 tv (pbin (.int .i64) .add x3 (I 1)) fun v48 =>
 jmp [0,0,1,1,1,1,0,0,1,0,0,1,0,1,1,0,0,1,0,0,1,0,1,1,1] (f9_2_S x0 x1 x2 v48 y4 y5 y6 w7 w8 v47 w10)))))))) (
 nat (slLen w9) fun n49 =>
 nat (asNat x3) fun n50 =>
 chk (Bool.and (slSize w9 1) (Nat.blt n50 n49)) (
 tvs (pel w9 n50) fun e51 =>
 chk (fitsAt zBool e51 0) (
 tv (setC [] w9 n50 0 [B false]) fun v52 =>
 tv (pbin (.int .i64) .add x3 (I 1)) fun v53 =>
 jmp [0,0,1,1,1,1,0,0,1,0,0,1,0,1,1,0,0,1,0,0,1,0,1,1,1] (f9_2_S x0 x1 x2 v53 y4 y5 y6 w7 w8 v52 w10)))))))))) (
 tv (pbin (.int .i64) .add x2 (I 1)) fun v54 =>
 jmp [0,0,1,0,1,1,0,0,1,0,0,1,0,1,1,1] (f9_1_S x0 x1 v54 y4 y5 y6 w7 w8 w9))
def f9_3  (x0 x1 y2 y3 y4 w5 w6 w7:TV):Prg TV :=
 tv (pun .not x1) fun v55 =>
 Prg.ite (asBool v55) (
 tv (pbin (.int .i64) .add x0 (I 1)) fun v56 =>
 jmp [0,0,1,0,1,1,1] (f9_0_S v56 y2 y3 y4 w5 w6)) (
 nat (slLen w7) fun n57 =>
 nat (asNat x0) fun n58 =>
 chk (Bool.and (slSize w7 1) (Nat.blt n58 n57)) (
 tvs (pel w7 n58) fun e59 =>
 chk (fitsAt zBool e59 0) (
 tv (setC [] w7 n58 0 [B true]) fun v60 =>
 chk (TV.isOne x0) (
 chk true (
 jmp [0,0,1,0,1,1,1,1,1,1,0,0,1,0,0,1,0,1,1,1] (f9_4_S x0 (I 0) y2 y3 y4 w5 w6 v60 x0 (TV.lit nilV)))))))
def f9_4  (x0 x1 y2 y3 y4 w5 w6 w7 y8 w9:TV):Prg TV :=
 tv (plen (.slice 4) w7) fun v61 =>
 tv (pbin (.int .i64) .lss x1 v61) fun v62 =>
 Prg.ite (asBool v62) (
 nat (slLen w7) fun n63 =>
 nat (asNat x1) fun n64 =>
 chk (Bool.and (slSize w7 1) (Nat.blt n64 n63)) (
 tvs (pel w7 n64) fun e65 =>
 chk (fitsAt zBool e65 0) (
 Prg.ite (asBool (nth hole e65 0)) (
 chk (TV.isOne x1) (
 rws (pelems 1 (TV.sl true 1 (chunks 1 1 [x1]))) fun r66 =>
 tv (papp 1 w9 (lfLL r66)) fun v67 =>
 tv (pbin (.int .i64) .add x1 (I 1)) fun v68 =>
 jmp [0,0,1,0,1,1,1,1,1,1,0,0,1,0,0,1,0,1,1,1] (f9_4_S x0 v68 y2 y3 y4 w5 w6 w7 y8 v67))) (
 tv (pbin (.int .i64) .add x1 (I 1)) fun v69 =>
 jmp [0,0,1,0,1,1,1,1,1,1,0,0,1,0,0,1,0,1,1,1] (f9_4_S x0 v69 y2 y3 y4 w5 w6 w7 y8 w9))))) (
 jmp [1,1,1,1,1,1,1,0,0,1,0,0,1,0,1,1,1] (f9_5_S x0 y2 y3 y4 w5 w6 y8 w9))
def f9_5  (x0 y1 y2 y3 w4 w5 y6 w7:TV):Prg TV :=
 rws (pelems 2 (TV.sl true 2 (chunks 2 1 [y6,w7]))) fun r70 =>
 tv (papp 2 w5 r70) fun v71 =>
 tv (pbin (.int .i64) .add x0 (I 1)) fun v72 =>
 jmp [0,0,1,0,1,1,1] (f9_0_S v72 y1 y2 y3 w4 v71)
theorem f9_MR (x0:TV):startQ prog 9 [x0]=f9_M x0:=by kernel_rfl
theorem f9_0_J  {x0 y1 y2 y3 w4 w5:TV} {r:TV} (h:Goes prog 9 (f9_0 x0 y1 y2 y3 w4 w5) r):Goes prog 9 (.jmp [0,0,1,0,1,1,1] (f9_0_S x0 y1 y2 y3 w4 w5)) r:=Goes.jmp (by kernel_rfl) h
theorem f9_1_J  {x0 x1 x2 y3 y4 y5 w6 w7 w8:TV} {r:TV} (h:Goes prog 9 (f9_1 x0 x1 x2 y3 y4 y5 w6 w7 w8) r):Goes prog 9 (.jmp [0,0,1,0,1,1,0,0,1,0,0,1,0,1,1,1] (f9_1_S x0 x1 x2 y3 y4 y5 w6 w7 w8)) r:=Goes.jmp (by kernel_rfl) h
theorem f9_2_J  {x0 x1 x2 x3 y4 y5 y6 w7 w8 w9 w10:TV} {r:TV} (h:Goes prog 9 (f9_2 x0 x1 x2 x3 y4 y5 y6 w7 w8 w9 w10) r):Goes prog 9 (.jmp [0,0,1,1,1,1,0,0,1,0,0,1,0,1,1,0,0,1,0,0,1,0,1,1,1] (f9_2_S x0 x1 x2 x3 y4 y5 y6 w7 w8 w9 w10)) r:=Goes.jmp (by kernel_rfl) h
theorem f9_3_J  {x0 x1 y2 y3 y4 w5 w6 w7:TV} {r:TV} (h:Goes prog 9 (f9_3 x0 x1 y2 y3 y4 w5 w6 w7) r):Goes prog 9 (.jmp [1,1,1,0,0,1,0,0,1,0,1,1,1] (f9_3_S x0 x1 y2 y3 y4 w5 w6 w7)) r:=Goes.jmp (by kernel_rfl) h
theorem f9_4_J  {x0 x1 y2 y3 y4 w5 w6 w7 y8 w9:TV} {r:TV} (h:Goes prog 9 (f9_4 x0 x1 y2 y3 y4 w5 w6 w7 y8 w9) r):Goes prog 9 (.jmp [0,0,1,0,1,1,1,1,1,1,0,0,1,0,0,1,0,1,1,1] (f9_4_S x0 x1 y2 y3 y4 w5 w6 w7 y8 w9)) r:=Goes.jmp (by kernel_rfl) h
theorem f9_5_J  {x0 y1 y2 y3 w4 w5 y6 w7:TV} {r:TV} (h:Goes prog 9 (f9_5 x0 y1 y2 y3 w4 w5 y6 w7) r):Goes prog 9 (.jmp [1,1,1,1,1,1,1,0,0,1,0,0,1,0,1,1,1] (f9_5_S x0 y1 y2 y3 w4 w5 y6 w7)) r:=Goes.jmp (by kernel_rfl) h
def f10_0_S  (x0 x1 x2:TV):ASt:=⟨[AV.tv x0,AV.tv x1,AV.one CA.junk,AV.one CA.junk,AV.one CA.junk,AV.tv x2] ++ List.replicate 20 (AV.one CA.junk),List.replicate 50 (none),[]⟩
def f10_M (x0 x1:TV):Prg TV :=
 tv (plen (.slice 3) x0) fun v0 =>
 tv (plen (.slice 3) x1) fun v1 =>
 tv (pbin (.int .i64) .neq v0 v1) fun v2 =>
 Prg.ite (asBool v2) (
 ret (B false)) (
 jmp [0,0,1,0,1,1] (f10_0_S x0 x1 (I 0)))
def f10_0  (x0 x1 x2:TV):Prg TV :=
 tv (plen (.slice 3) x0) fun v3 =>
 tv (pbin (.int .i64) .lss x2 v3) fun v4 =>
 Prg.ite (asBool v4) (
 tvs (pidx 1 x0 x2) fun e5 =>
 chk (Nat.blt 0 (List.length e5)) (
 tvs (pidx 1 x1 x2) fun e6 =>
 chk (Nat.blt 0 (List.length e6)) (
 tv (pbin (.int .i64) .neq (nth hole e5 0) (nth hole e6 0)) fun v7 =>
 Prg.ite (asBool v7) (
 ret (B false)) (
 tv (pbin (.int .i64) .add x2 (I 1)) fun v8 =>
 jmp [0,0,1,0,1,1] (f10_0_S x0 x1 v8))))) (
 ret (B true))
theorem f10_MR (x0 x1:TV):startQ prog 10 [x0,x1]=f10_M x0 x1:=by kernel_rfl
theorem f10_0_J  {x0 x1 x2:TV} {r:TV} (h:Goes prog 10 (f10_0 x0 x1 x2) r):Goes prog 10 (.jmp [0,0,1,0,1,1] (f10_0_S x0 x1 x2)) r:=Goes.jmp (by kernel_rfl) h
def f11_0_S  (x0 x1 x2:TV):ASt:=⟨[AV.tv x0,AV.tv x1,AV.one CA.junk,AV.one CA.junk,AV.one CA.junk,AV.tv x2] ++ List.replicate 12 (AV.one CA.junk),List.replicate 42 (none),[]⟩
def f11_M (x0 x1:TV):Prg TV :=
 jmp [0,0,1,0,1] (f11_0_S x0 x1 (I 0))
def f11_0  (x0 x1 x2:TV):Prg TV :=
 tv (plen (.slice 3) x0) fun v0 =>
 tv (pbin (.int .i64) .lss x2 v0) fun v1 =>
 Prg.ite (asBool v1) (
 tvs (pidx 1 x0 x2) fun e2 =>
 chk (Nat.blt 0 (List.length e2)) (
 tv (pbin (.int .i64) .eql (nth hole e2 0) x1) fun v3 =>
 Prg.ite (asBool v3) (
 ret (B true)) (
 tv (pbin (.int .i64) .add x2 (I 1)) fun v4 =>
 jmp [0,0,1,0,1] (f11_0_S x0 x1 v4)))) (
 ret (B false))
theorem f11_MR (x0 x1:TV):startQ prog 11 [x0,x1]=f11_M x0 x1:=by kernel_rfl
theorem f11_0_J  {x0 x1 x2:TV} {r:TV} (h:Goes prog 11 (f11_0 x0 x1 x2) r):Goes prog 11 (.jmp [0,0,1,0,1] (f11_0_S x0 x1 x2)) r:=Goes.jmp (by kernel_rfl) h
def f12_0_S  (x0 y1 y2 w3 w4 w5 w6 w7 w8:TV):ASt:=⟨[AV.one (CA.yl 0),AV.one (CA.ptr 0 0),AV.one CA.junk,AV.one CA.junk,AV.tv x0] ++ List.replicate 23 (AV.one CA.junk),[some (BC.cells [CA.sref 3 0 [],CA.sref 3 1 [],CA.sref 3 2 [],CA.sref 3 3 [],CA.sref 3 4 [],CA.sref 3 5 []]),some (BC.cells [CA.t y1]),some (BC.cells [CA.t y2]),some (BC.tree [w3,w4,w5,w6,w7,w8])] ++ List.replicate 71 (none),(List.replicate 5 (AV.one CA.junk) ++ [AV.one (CA.ptr 1 0)] ++ List.replicate 12 (AV.one CA.junk) ++ [AV.clo 32 [CA.ptr 0 0,CA.ptr 2 0]] ++ List.replicate 4 (AV.one CA.junk))⟩
def f12_1_S  (x0 y1 y2 w3 w4 w5 w6 w7 w8:TV):ASt:=⟨[AV.one (CA.yl 0),AV.one (CA.ptr 0 0),AV.one CA.junk,AV.one CA.junk,AV.tv x0] ++ List.replicate 23 (AV.one CA.junk),[some (BC.cells [CA.sref 3 0 [],CA.sref 3 1 [],CA.sref 3 2 [],CA.sref 3 3 [],CA.sref 3 4 [],CA.sref 3 5 []]),some (BC.cells [CA.t y1]),some (BC.cells [CA.t y2]),some (BC.tree [w3,w4,w5,w6,w7,w8])] ++ List.replicate 71 (none),(List.replicate 5 (AV.one CA.junk) ++ [AV.one (CA.ptr 1 0)] ++ List.replicate 12 (AV.one CA.junk) ++ [AV.clo 32 [CA.ptr 0 0,CA.ptr 2 0]] ++ List.replicate 4 (AV.one CA.junk))⟩
def f12_M (x0 x1:TV):Prg TV :=
 chk (TV.isAgg x0 3) (
 tv (pbin (.int .i64) .lss x1 (I 0)) fun v0 =>
 Prg.ite (asBool v0) (
 ret (I 0)) (
 tv (plen (.slice 47) (cell x0 2)) fun v1 =>
 tv (pbin (.int .i64) .geq x1 v1) fun v2 =>
 Prg.ite (asBool v2) (
 ret (I 0)) (
 call 17 [agg [cell x0 0,cell x0 1,cell x0 2]] fun v3 =>
 chk (Bool.and (TV.isAgg v3 6) (fitsAt z52 (cellsL true v3) 0)) (
 chk (TV.isOne x1) (
 nat (slLen (cell v3 4)) fun n4 =>
 nat (asNat x1) fun n5 =>
 chk (Bool.and (slSize (cell v3 4) 1) (Nat.blt n5 n4)) (
 tvs (pel (cell v3 4) n5) fun e6 =>
 chk (fitsAt zInt e6 0) (
 nat (slLen (cell v3 3)) fun n7 =>
 nat (asNat x1) fun n8 =>
 chk (Bool.and (slSize (cell v3 3) 1) (Nat.blt n8 n7)) (
 tvs (pel (cell v3 3) n8) fun e9 =>
 chk (fitsAt zBool e9 0) (
 Prg.ite (asBool (nth hole e9 0)) (
 jmp [1,1,32,0,1,0,1,1,1] (f12_0_S x1 (I 0) x1 (cell v3 0) (cell v3 1) (cell v3 2) (cell v3 3) (cell v3 4) (cell v3 5))) (
 jmp [1,1,32,0,1,0,1,1,1] (f12_0_S (nth hole e6 0) (I 0) x1 (cell v3 0) (cell v3 1) (cell v3 2) (cell v3 3) (cell v3 4) (cell v3 5))))))))))))
def f12_0  (x0 y1 y2 w3 w4 w5 w6 w7 w8:TV):Prg TV :=
 jmp [0,0,1,1,32,0,1,0,1,1,1] (f12_1_S x0 y1 y2 w3 w4 w5 w6 w7 w8)
def f12_1  (x0 y1 y2 w3 w4 w5 w6 w7 w8:TV):Prg TV :=
 tv (pbin (.int .i64) .geq x0 (I 0)) fun v10 =>
 Prg.ite (asBool v10) (
 tv (pbin (.int .i64) .add y1 (I 1)) fun v11 =>
 nat (slLen w7) fun n12 =>
 nat (asNat x0) fun n13 =>
 chk (Bool.and (slSize w7 1) (Nat.blt n13 n12)) (
 tvs (pel w7 n13) fun e14 =>
 chk (fitsAt zInt e14 0) (
 jmp [0,0,1,1,32,0,1,0,1,1,1] (f12_1_S (nth hole e14 0) v11 y2 w3 w4 w5 w6 w7 w8)))) (
 ret y1)
theorem f12_MR (x0 x1:TV):startQ prog 12 [x0,x1]=f12_M x0 x1:=by kernel_rfl
theorem f12_0_J  {x0 y1 y2 w3 w4 w5 w6 w7 w8:TV} {r:TV} (h:Goes prog 12 (f12_0 x0 y1 y2 w3 w4 w5 w6 w7 w8) r):Goes prog 12 (.jmp [1,1,32,0,1,0,1,1,1] (f12_0_S x0 y1 y2 w3 w4 w5 w6 w7 w8)) r:=Goes.jmp (by kernel_rfl) h
theorem f12_1_J  {x0 y1 y2 w3 w4 w5 w6 w7 w8:TV} {r:TV} (h:Goes prog 12 (f12_1 x0 y1 y2 w3 w4 w5 w6 w7 w8) r):Goes prog 12 (.jmp [0,0,1,1,32,0,1,0,1,1,1] (f12_1_S x0 y1 y2 w3 w4 w5 w6 w7 w8)) r:=Goes.jmp (by kernel_rfl) h
def f16_0_S  (y0 y1 y2 w3:TV):ASt:=⟨[AV.one CA.junk,AV.one CA.junk,AV.one (CA.ptr 0 0),AV.one CA.junk,AV.one CA.junk,AV.one CA.junk,AV.one (CA.sref 1 0 [])] ++ List.replicate 24 (AV.one CA.junk),[some (BC.cells [CA.t y0,CA.t y1,CA.t y2]),some (BC.tree [w3])] ++ List.replicate 53 (none),[]⟩
def f16_1_S  (x0 x1 w2 y3 y4 y5:TV):ASt:=⟨[AV.one (CA.sref 0 0 []),AV.clo 28 [CA.ptr 1 0]] ++ List.replicate 5 (AV.one CA.junk) ++ [AV.tv x0,AV.tv x1] ++ List.replicate 10 (AV.one CA.junk),[some (BC.tree [w2]),some (BC.cells [CA.t y3,CA.t y4,CA.t y5])] ++ List.replicate 114 (none),(List.replicate 31 (AV.one CA.junk) ++ [AV.one (CA.sref 0 0 []),AV.clo 28 [CA.ptr 1 0]] ++ List.replicate 40 (AV.one CA.junk))⟩
def f16_2_S  (x0 x1 w2 y3 y4 y5:TV):ASt:=⟨[AV.one (CA.sref 0 0 []),AV.clo 28 [CA.ptr 1 0],AV.one CA.junk,AV.one CA.junk,AV.one CA.junk,AV.tv x0,AV.tv x1] ++ List.replicate 35 (AV.one CA.junk),[some (BC.tree [w2]),some (BC.cells [CA.t y3,CA.t y4,CA.t y5])] ++ List.replicate 95 (none),List.replicate 31 (AV.one CA.junk)⟩
def f16_3_S  (x0 w1:TV):ASt:=⟨[AV.one (CA.sref 0 0 [])] ++ List.replicate 4 (AV.one CA.junk) ++ [AV.tv x0] ++ List.replicate 36 (AV.one CA.junk),[some (BC.tree [w1])] ++ List.replicate 96 (none),List.replicate 31 (AV.one CA.junk)⟩
def f16_M (x0 x1:TV):Prg TV :=
 chk (TV.isAgg x0 3) (
 call 25 [agg [cell x0 0,cell x0 1,cell x0 2],x1] fun v0 =>
 chk (fitsAt zBool [v0] 0) (
 tv (pun .not v0) fun v1 =>
 Prg.ite (asBool v1) (
 chk true (
 ret (TV.lit nilV))) (
 tvs (pidx 14 (cell x0 2) x1) fun e2 =>
 chk (Nat.ble 14 (List.length e2)) (
 call 26 [agg [nth hole e2 0,nth hole e2 1,nth hole e2 2,nth hole e2 3,nth hole e2 4,nth hole e2 5,nth hole e2 6,nth hole e2 7,nth hole e2 8,nth hole e2 9,nth hole e2 10,nth hole e2 11,nth hole e2 12,nth hole e2 13]] fun v3 =>
 chk (fitsAt zSl [v3] 0) (
 tv (pbin (.int .i64) .eql (nth hole e2 6) (I 4)) fun v4 =>
 Prg.ite (asBool v4) (
 rws (pelems 1 (TV.sl true 1 (chunks 1 1 [nth hole e2 13]))) fun r5 =>
 tv (papp 1 v3 (lfLL r5)) fun v6 =>
 jmp [1,1,1,1,1] (f16_0_S (cell x0 0) (cell x0 1) (cell x0 2) v6)) (
 jmp [1,1,1,1,1] (f16_0_S (cell x0 0) (cell x0 1) (cell x0 2) v3)))))))
def f16_0  (y0 y1 y2 w3:TV):Prg TV :=
 tv (plen (.slice 3) w3) fun v7 =>
 jmp [0,0,1,0,1,6,0,1,6,0,1,1,1,1,1] (f16_1_S v7 (I 0) w3 y0 y1 y2)
def f16_1  (x0 x1 w2 y3 y4 y5:TV):Prg TV :=
 tv (pbin (.int .i64) .lss x1 x0) fun v8 =>
 Prg.ite (asBool v8) (
 nat (slLen w2) fun n9 =>
 nat (asNat x1) fun n10 =>
 chk (Bool.and (slSize w2 1) (Nat.blt n10 n9)) (
 tvs (pel w2 n10) fun e11 =>
 chk (fitsAt zInt e11 0) (
 call 25 [agg [y3,y4,y5],nth hole e11 0] fun v12 =>
 chk (fitsAt zBool [v12] 0) (
 tv (pun .not v12) fun v13 =>
 Prg.ite (asBool v13) (
 tv (pbin (.int .i64) .eql x1 (TV.lit (Value.int IntKind.i64 (-1)))) fun v14 =>
 Prg.ite (asBool v14) (
 chk (isOwn w2) (
 ret w2)) (
 tv (pbin (.int .i64) .add x1 (I 1)) fun v15 =>
 jmp [0,0,1,0,1,1,1,6,0,1,1,1,1,1] (f16_2_S x1 v15 w2 y3 y4 y5))) (
 tv (pbin (.int .i64) .add x1 (I 1)) fun v16 =>
 jmp [0,0,1,0,1,6,0,1,6,0,1,1,1,1,1] (f16_1_S x0 v16 w2 y3 y4 y5)))))) (
 tv (pbin (.int .i64) .eql (TV.lit (Value.int IntKind.i64 (-1))) (TV.lit (Value.int IntKind.i64 (-1)))) fun v17 =>
 Prg.ite (asBool v17) (
 chk (isOwn w2) (
 ret w2)) (
 tv (pbin (.int .i64) .add (TV.lit (Value.int IntKind.i64 (-1))) (I 1)) fun v18 =>
 jmp [0,0,1,0,1,1,1,6,0,1,1,1,1,1] (f16_2_S (TV.lit (Value.int IntKind.i64 (-1))) v18 w2 y3 y4 y5)))
def f16_2  (x0 x1 w2 y3 y4 y5:TV):Prg TV :=
 tv (plen (.slice 3) w2) fun v19 =>
 tv (pbin (.int .i64) .lss x1 v19) fun v20 =>
 Prg.ite (asBool v20) (
 nat (slLen w2) fun n21 =>
 nat (asNat x1) fun n22 =>
 chk (Bool.and (slSize w2 1) (Nat.blt n22 n21)) (
 tvs (pel w2 n22) fun e23 =>
 chk (fitsAt zInt e23 0) (
 call 25 [agg [y3,y4,y5],nth hole e23 0] fun v24 =>
 chk (fitsAt zBool [v24] 0) (
 tv (pun .not v24) fun v25 =>
 tv (pun .not v25) fun v26 =>
 Prg.ite (asBool v26) (
 nat (slLen w2) fun n27 =>
 nat (asNat x0) fun n28 =>
 chk (Bool.and (slSize w2 1) (Nat.blt n28 n27)) (
 tvs (pel w2 n28) fun e29 =>
 chk (fitsAt zInt e29 0) (
 tv (setC [] w2 n28 0 [nth hole e23 0]) fun v30 =>
 tv (pbin (.int .i64) .add x0 (I 1)) fun v31 =>
 tv (pbin (.int .i64) .add x1 (I 1)) fun v32 =>
 jmp [0,0,1,0,1,1,1,6,0,1,1,1,1,1] (f16_2_S v31 v32 v30 y3 y4 y5)))) (
 tv (pbin (.int .i64) .add x1 (I 1)) fun v33 =>
 jmp [0,0,1,0,1,1,1,6,0,1,1,1,1,1] (f16_2_S x0 v33 w2 y3 y4 y5)))))) (
 jmp [1,1,1,1,6,0,1,1,1,1,1] (f16_3_S x0 w2))
def f16_3  (x0 w1:TV):Prg TV :=
 nat (slLen w1) fun n34 =>
 nat (asNat x0) fun n35 =>
 chk (Bool.and (Bool.and (slSize w1 1) (Nat.ble (Option.getD (some n35) 0) (Option.getD none n34))) (Nat.ble (Option.getD none n34) n34)) (
 tv (pclear 1 [I 0] (Option.getD (some n35) 0) ((Option.getD none n34) - (Option.getD (some n35) 0)) w1) fun v36 =>
 nat (slLen v36) fun n37 =>
 nat (asNat x0) fun n38 =>
 chk (Bool.and (Bool.and (slSize v36 1) (Nat.ble 0 (Option.getD (some n38) n37))) (Nat.ble (Option.getD (some n38) n37) n37)) (
 tv (winP 0 ((Option.getD (some n38) n37) - 0) v36) fun v39 =>
 chk (isOwn v39) (
 ret v39)))
theorem f16_MR (x0 x1:TV):startQ prog 16 [x0,x1]=f16_M x0 x1:=by kernel_rfl
theorem f16_0_J  {y0 y1 y2 w3:TV} {r:TV} (h:Goes prog 16 (f16_0 y0 y1 y2 w3) r):Goes prog 16 (.jmp [1,1,1,1,1] (f16_0_S y0 y1 y2 w3)) r:=Goes.jmp (by kernel_rfl) h
theorem f16_1_J  {x0 x1 w2 y3 y4 y5:TV} {r:TV} (h:Goes prog 16 (f16_1 x0 x1 w2 y3 y4 y5) r):Goes prog 16 (.jmp [0,0,1,0,1,6,0,1,6,0,1,1,1,1,1] (f16_1_S x0 x1 w2 y3 y4 y5)) r:=Goes.jmp (by kernel_rfl) h
theorem f16_2_J  {x0 x1 w2 y3 y4 y5:TV} {r:TV} (h:Goes prog 16 (f16_2 x0 x1 w2 y3 y4 y5) r):Goes prog 16 (.jmp [0,0,1,0,1,1,1,6,0,1,1,1,1,1] (f16_2_S x0 x1 w2 y3 y4 y5)) r:=Goes.jmp (by kernel_rfl) h
theorem f16_3_J  {x0 w1:TV} {r:TV} (h:Goes prog 16 (f16_3 x0 w1) r):Goes prog 16 (.jmp [1,1,1,1,6,0,1,1,1,1,1] (f16_3_S x0 w1)) r:=Goes.jmp (by kernel_rfl) h
def f17_0_S  (x0 x1 y2 y3 y4 w5 w6 w7 w8 w9 w10 w11:TV):ASt:=⟨[AV.one CA.junk,AV.one (CA.ptr 0 0),AV.one (CA.ptr 1 0),AV.one (CA.sref 2 0 []),AV.one CA.junk,AV.one (CA.ptr 3 0)] ++ List.replicate 26 (AV.one CA.junk) ++ [AV.tv x0,AV.tv x1] ++ List.replicate 48 (AV.one CA.junk),[some (BC.cells [CA.t y2,CA.t y3,CA.t y4]),some (BC.cells [CA.junk,CA.junk,CA.junk,CA.junk,CA.junk,CA.junk]),some (BC.tree [w5]),some (BC.cells [CA.sref 4 0 [],CA.sref 5 0 [],CA.sref 5 1 [],CA.sref 6 0 [],CA.sref 7 0 [],CA.sref 8 0 []]),some (BC.tree [w6]),some (BC.tree [w7,w8]),some (BC.tree [w9]),some (BC.tree [w10]),some (BC.tree [w11])] ++ List.replicate 97 (none),[]⟩
def f17_1_S  (y0 y1 y2 w3 w4 w5 w6 w7 w8 w9:TV):ASt:=⟨[AV.one CA.junk,AV.one (CA.ptr 0 0),AV.one (CA.ptr 1 0),AV.one (CA.sref 2 0 []),AV.one CA.junk,AV.one (CA.ptr 3 0)] ++ List.replicate 76 (AV.one CA.junk),[some (BC.cells [CA.t y0,CA.t y1,CA.t y2]),some (BC.cells [CA.junk,CA.junk,CA.junk,CA.junk,CA.junk,CA.junk]),some (BC.tree [w3]),some (BC.cells [CA.sref 4 0 [],CA.sref 5 0 [],CA.sref 5 1 [],CA.sref 6 0 [],CA.sref 7 0 [],CA.sref 8 0 []]),some (BC.tree [w4]),some (BC.tree [w5,w6]),some (BC.tree [w7]),some (BC.tree [w8]),some (BC.tree [w9])] ++ List.replicate 97 (none),[]⟩
def f17_2_S  (x0 x1 y2 y3 y4 w5 w6 w7 w8 w9 w10 w11:TV):ASt:=⟨[AV.one CA.junk,AV.one (CA.ptr 0 0),AV.one (CA.ptr 1 0),AV.one (CA.sref 2 0 []),AV.one CA.junk,AV.one (CA.ptr 3 0)] ++ List.replicate 40 (AV.one CA.junk) ++ [AV.one (CA.sref 2 0 []),AV.tv x0,AV.tv x1] ++ List.replicate 33 (AV.one CA.junk),[some (BC.cells [CA.t y2,CA.t y3,CA.t y4]),some (BC.cells [CA.junk,CA.junk,CA.junk,CA.junk,CA.junk,CA.junk]),some (BC.tree [w5]),some (BC.cells [CA.sref 4 0 [],CA.sref 5 0 [],CA.sref 5 1 [],CA.sref 6 0 [],CA.sref 7 0 [],CA.sref 8 0 []]),some (BC.tree [w6]),some (BC.tree [w7,w8]),some (BC.tree [w9]),some (BC.tree [w10]),some (BC.tree [w11])] ++ List.replicate 97 (none),[]⟩
def f17_3_S  (x0 x1 x2 x3 x4 y5 y6 y7 w8 w9 w10 w11 w12 w13 w14 w15:TV):ASt:=⟨[AV.one CA.junk,AV.one (CA.ptr 0 0),AV.one (CA.ptr 1 0),AV.one (CA.sref 2 0 []),AV.one CA.junk,AV.one (CA.ptr 3 0),AV.one CA.junk,AV.one CA.junk,AV.tv x0] ++ List.replicate 37 (AV.one CA.junk) ++ [AV.one (CA.sref 2 0 []),AV.tv x1,AV.tv x2] ++ List.replicate 5 (AV.one CA.junk) ++ [AV.one (CA.sref 4 0 []),AV.tv x3,AV.tv x4] ++ List.replicate 25 (AV.one CA.junk),[some (BC.cells [CA.t y5,CA.t y6,CA.t y7]),some (BC.cells [CA.junk,CA.junk,CA.junk,CA.junk,CA.junk,CA.junk]),some (BC.tree [w8]),some (BC.cells [CA.sref 5 0 [],CA.sref 6 0 [],CA.sref 6 1 [],CA.sref 7 0 [],CA.sref 8 0 [],CA.sref 9 0 []]),some (BC.tree [w9]),some (BC.tree [w10]),some (BC.tree [w11,w12]),some (BC.tree [w13]),some (BC.tree [w14]),some (BC.tree [w15])] ++ List.replicate 96 (none),[]⟩
def f17_4_S  (w0 w1 w2 w3 w4 w5 w6:TV):ASt:=⟨[AV.one CA.junk,AV.one CA.junk,AV.one (CA.ptr 0 0),AV.one (CA.sref 1 0 []),AV.one CA.junk,AV.one (CA.ptr 2 0)] ++ List.replicate 76 (AV.one CA.junk),[some (BC.cells [CA.junk,CA.junk,CA.junk,CA.junk,CA.junk,CA.junk]),some (BC.tree [w0]),some (BC.cells [CA.sref 3 0 [],CA.sref 4 0 [],CA.sref 4 1 [],CA.sref 5 0 [],CA.sref 6 0 [],CA.sref 7 0 []]),some (BC.tree [w1]),some (BC.tree [w2,w3]),some (BC.tree [w4]),some (BC.tree [w5]),some (BC.tree [w6])] ++ List.replicate 98 (none),[]⟩
def f17_5_S  (x0 w1 w2 w3 w4 w5 w6 w7:TV):ASt:=⟨[AV.one (CA.yl 0),AV.one (CA.ptr 0 0),AV.one CA.junk,AV.tv x0] ++ List.replicate 15 (AV.one CA.junk),[some (BC.cells [CA.sref 3 0 []]),some (BC.cells [CA.junk,CA.junk,CA.junk,CA.junk,CA.junk,CA.junk]),some (BC.cells [CA.sref 4 0 [],CA.sref 5 0 [],CA.sref 5 1 [],CA.sref 6 0 [],CA.sref 7 0 [],CA.sref 8 0 []]),some (BC.tree [w1]),some (BC.tree [w2]),some (BC.tree [w3,w4]),some (BC.tree [w5]),some (BC.tree [w6]),some (BC.tree [w7])] ++ List.replicate 116 (none),([AV.one CA.junk,AV.one CA.junk,AV.one (CA.ptr 1 0),AV.one CA.junk,AV.one CA.junk,AV.one (CA.ptr 2 0)] ++ List.replicate 69 (AV.one CA.junk) ++ [AV.clo 43 [CA.ptr 0 0]] ++ List.replicate 6 (AV.one CA.junk))⟩
def f17_6_S  (x0 w1 w2 w3 w4 w5 w6 w7 w8 x9:TV):ASt:=⟨[AV.one CA.junk,AV.tv x0,AV.one (CA.ptr 0 0),AV.one CA.junk,AV.one (CA.sref 1 0 [])] ++ List.replicate 47 (AV.one CA.junk),[some (BC.cells [CA.sref 5 0 [],CA.sref 6 0 [],CA.sref 6 1 [],CA.sref 7 0 [],CA.sref 8 0 [],CA.sref 9 0 []]),some (BC.tree [w1]),some (BC.cells [CA.junk,CA.junk,CA.junk,CA.junk,CA.junk,CA.junk]),some (BC.cells [CA.sref 5 0 [],CA.sref 6 0 [],CA.sref 6 1 [],CA.sref 7 0 [],CA.sref 8 0 [],CA.sref 9 0 []]),some (BC.cells [CA.sref 10 0 []]),some (BC.tree [w2]),some (BC.tree [w3,w4]),some (BC.tree [w5]),some (BC.tree [w6]),some (BC.tree [w7]),some (BC.tree [w8])] ++ List.replicate 248 (none),([AV.one CA.junk,AV.one CA.junk,AV.one (CA.ptr 2 0),AV.one CA.junk,AV.one CA.junk,AV.one (CA.ptr 3 0)] ++ List.replicate 69 (AV.one CA.junk) ++ [AV.clo 43 [CA.ptr 4 0]] ++ List.replicate 6 (AV.one CA.junk) ++ [AV.one (CA.yl 0),AV.one (CA.ptr 4 0),AV.one CA.junk,AV.tv x9] ++ List.replicate 97 (AV.one CA.junk))⟩
def f17_7_S  (x0 w1 w2 w3 w4 w5 w6 w7 w8 x9 x10 x11:TV):ASt:=⟨[AV.one CA.junk,AV.tv x0,AV.one (CA.ptr 0 0)] ++ List.replicate 28 (AV.one CA.junk),[some (BC.cells [CA.sref 6 0 [],CA.sref 7 0 [],CA.sref 7 1 [],CA.sref 8 0 [],CA.sref 9 0 [],CA.sref 10 0 []]),some (BC.cells [CA.junk,CA.junk,CA.junk,CA.junk,CA.junk,CA.junk]),some (BC.cells [CA.sref 6 0 [],CA.sref 7 0 [],CA.sref 7 1 [],CA.sref 8 0 [],CA.sref 9 0 [],CA.sref 10 0 []]),some (BC.cells [CA.sref 11 0 []]),some (BC.cells [CA.sref 6 0 [],CA.sref 7 0 [],CA.sref 7 1 [],CA.sref 8 0 [],CA.sref 9 0 [],CA.sref 10 0 []]),some (BC.tree [w1]),some (BC.tree [w2]),some (BC.tree [w3,w4]),some (BC.tree [w5]),some (BC.tree [w6]),some (BC.tree [w7]),some (BC.tree [w8])] ++ List.replicate 278 (none),([AV.one CA.junk,AV.one CA.junk,AV.one (CA.ptr 1 0),AV.one CA.junk,AV.one CA.junk,AV.one (CA.ptr 2 0)] ++ List.replicate 69 (AV.one CA.junk) ++ [AV.clo 43 [CA.ptr 3 0]] ++ List.replicate 6 (AV.one CA.junk) ++ [AV.one (CA.yl 0),AV.one (CA.ptr 3 0),AV.one CA.junk,AV.tv x9] ++ List.replicate 98 (AV.one CA.junk) ++ [AV.tv x10,AV.one (CA.ptr 4 0),AV.one CA.junk,AV.one (CA.sref 5 0 []),AV.tv x11] ++ List.replicate 46 (AV.one CA.junk))⟩
def f17_M (x0:TV):Prg TV :=
 chk (TV.isAgg x0 3) (
 call 24 [agg [cell x0 0,cell x0 1,cell x0 2]] fun v0 =>
 chk (fitsAt zSl [v0] 0) (
 tv (plen (.slice 47) (cell x0 2)) fun v1 =>
 nat (asNat v1) fun n2 =>
 nat (asNat v1) fun n3 =>
 chk (Bool.and (Nat.ble n2 n3) (Nat.ble n3 4294967296)) (
 call 29 [agg [cell x0 0,cell x0 1,cell x0 2],frz v0] fun v4 =>
 chk (Bool.and (TV.isAgg v4 2) (fitsAt z50 (cellsL true v4) 0)) (
 nat (asNat v1) fun n5 =>
 nat (asNat v1) fun n6 =>
 chk (Bool.and (Nat.ble n5 n6) (Nat.ble n6 4294967296)) (
 nat (asNat v1) fun n7 =>
 nat (asNat v1) fun n8 =>
 chk (Bool.and (Nat.ble n7 n8) (Nat.ble n8 4294967296)) (
 nat (asNat v1) fun n9 =>
 nat (asNat v1) fun n10 =>
 chk (Bool.and (Nat.ble n9 n10) (Nat.ble n10 4294967296)) (
 tv (plen (.slice 47) (cell x0 2)) fun v11 =>
 jmp [0,0,1,0,1,1,1] (f17_0_S v11 (I 0) (cell x0 0) (cell x0 1) (cell x0 2) v0 (TV.sl true 1 (List.replicate n2 [TV.lit nilV])) (cell v4 0) (cell v4 1) (TV.sl true 1 (List.replicate n5 [B false])) (TV.sl true 1 (List.replicate n7 [I 0])) (TV.sl true 1 (List.replicate n9 [I 0]))))))))))
def f17_0  (x0 x1 y2 y3 y4 w5 w6 w7 w8 w9 w10 w11:TV):Prg TV :=
 tv (pbin (.int .i64) .lss x1 x0) fun v12 =>
 Prg.ite (asBool v12) (
 nat (slLen w10) fun n13 =>
 nat (asNat x1) fun n14 =>
 chk (Bool.and (slSize w10 1) (Nat.blt n14 n13)) (
 tvs (pel w10 n14) fun e15 =>
 chk (fitsAt zInt e15 0) (
 tv (setC [] w10 n14 0 [TV.lit (Value.int IntKind.i64 (-1))]) fun v16 =>
 nat (slLen w11) fun n17 =>
 nat (asNat x1) fun n18 =>
 chk (Bool.and (slSize w11 1) (Nat.blt n18 n17)) (
 chk (TV.isOne x1) (
 tvs (pel w11 n18) fun e19 =>
 chk (fitsAt zInt e19 0) (
 tv (setC [] w11 n18 0 [x1]) fun v20 =>
 tv (pbin (.int .i64) .add x1 (I 1)) fun v21 =>
 jmp [0,0,1,0,1,1,1] (f17_0_S x0 v21 y2 y3 y4 w5 w6 w7 w8 w9 v16 v20))))))) (
 jmp [1,1,1,1] (f17_1_S y2 y3 y4 w5 w6 w7 w8 w9 w10 w11))
def f17_1  (y0 y1 y2 w3 w4 w5 w6 w7 w8 w9:TV):Prg TV :=
 tv (plen (.slice 3) w3) fun v22 =>
 jmp [0,0,1,0,1,1,1,1] (f17_2_S v22 (I 0) y0 y1 y2 w3 w4 w5 w6 w7 w8 w9)
def f17_2  (x0 x1 y2 y3 y4 w5 w6 w7 w8 w9 w10 w11:TV):Prg TV :=
 tv (pbin (.int .i64) .lss x1 x0) fun v23 =>
 Prg.ite (asBool v23) (
 nat (slLen w5) fun n24 =>
 nat (asNat x1) fun n25 =>
 chk (Bool.and (slSize w5 1) (Nat.blt n25 n24)) (
 tvs (pel w5 n25) fun e26 =>
 chk (fitsAt zInt e26 0) (
 call 16 [agg [y2,y3,y4],nth hole e26 0] fun v27 =>
 chk (fitsAt zSl [v27] 0) (
 tv (plen (.slice 3) v27) fun v28 =>
 jmp [0,0,1,1,0,0,1,1,0,0,1,0,1,1,1,1] (f17_3_S (nth hole e26 0) x0 x1 v28 (I 0) y2 y3 y4 w5 v27 w6 w7 w8 w9 w10 w11))))) (
 jmp [1,1,1,1,1] (f17_4_S w5 w6 w7 w8 w9 w10 w11))
def f17_3  (x0 x1 x2 x3 x4 y5 y6 y7 w8 w9 w10 w11 w12 w13 w14 w15:TV):Prg TV :=
 tv (pbin (.int .i64) .lss x4 x3) fun v29 =>
 Prg.ite (asBool v29) (
 nat (slLen w9) fun n30 =>
 nat (asNat x4) fun n31 =>
 chk (Bool.and (slSize w9 1) (Nat.blt n31 n30)) (
 tvs (pel w9 n31) fun e32 =>
 chk (fitsAt zInt e32 0) (
 nat (slLen w10) fun n33 =>
 nat (asNat (nth hole e32 0)) fun n34 =>
 chk (Bool.and (slSize w10 1) (Nat.blt n34 n33)) (
 tvs (pel w10 n34) fun e35 =>
 chk (fitsAt zSl e35 0) (
 chk (TV.isOne x0) (
 rws (pelems 1 (TV.sl true 1 (chunks 1 1 [x0]))) fun r36 =>
 tv (getP [(n34,0)] w10) fun v37 =>
 tv (papp 1 v37 (lfLL r36)) fun v38 =>
 tv (setP [(n34,0)] w10 hole) fun v39 =>
 nat (slLen v39) fun n40 =>
 nat (asNat (nth hole e32 0)) fun n41 =>
 chk (Bool.and (slSize v39 1) (Nat.blt n41 n40)) (
 tvs (pel v39 n41) fun e42 =>
 chk (Bool.and (fitsOld zSl e42 0) (fitsAt zSl [v38] 0)) (
 tv (setC [] v39 n41 0 [v38]) fun v43 =>
 tv (pbin (.int .i64) .add x4 (I 1)) fun v44 =>
 jmp [0,0,1,1,0,0,1,1,0,0,1,0,1,1,1,1] (f17_3_S x0 x1 x2 x3 v44 y5 y6 y7 w8 w9 v43 w11 w12 w13 w14 w15))))))))) (
 tv (pbin (.int .i64) .add x2 (I 1)) fun v45 =>
 jmp [0,0,1,0,1,1,1,1] (f17_2_S x1 v45 y5 y6 y7 w8 w10 w11 w12 w13 w14 w15))
def f17_4  (w0 w1 w2 w3 w4 w5 w6:TV):Prg TV :=
 tv (plen (.slice 3) w0) fun v46 =>
 tv (pbin (.int .i64) .sub v46 (I 1)) fun v47 =>
 jmp [0,0,1,43,0,1,0,1,1,1,1,1] (f17_5_S v47 w0 w1 w2 w3 w4 w5 w6)
def f17_5  (x0 w1 w2 w3 w4 w5 w6 w7:TV):Prg TV :=
 tv (pbin (.int .i64) .geq x0 (I 0)) fun v48 =>
 Prg.ite (asBool v48) (
 nat (slLen w1) fun n49 =>
 nat (asNat x0) fun n50 =>
 chk (Bool.and (slSize w1 1) (Nat.blt n50 n49)) (
 tvs (pel w1 n50) fun e51 =>
 chk (fitsAt zInt e51 0) (
 call 44 [agg [frz w2,frz w3,frz w4,frz w5,frz w6,frz w7],nth hole e51 0] fun v52 =>
 chk (fitsAt zSl [v52] 0) (
 tv (plen (.slice 3) v52) fun v53 =>
 tv (pbin (.int .i64) .gtr v53 (I 0)) fun v54 =>
 nat (slLen w5) fun n55 =>
 nat (asNat (nth hole e51 0)) fun n56 =>
 chk (Bool.and (slSize w5 1) (Nat.blt n56 n55)) (
 tvs (pel w5 n56) fun e57 =>
 chk (fitsAt zBool e57 0) (
 tv (setC [] w5 n56 0 [v54]) fun v58 =>
 jmp [0,0,1,1,1,6,0,2015,0,0,0,1,0,0,1,43,0,1,0,1,1,1,1,1] (f17_6_S (nth hole e51 0) v52 w2 w3 w4 v58 w6 w7 w1 x0))))))) (
 chk (isOwn (agg [w2,w3,w4,w5,w6,w7])) (
 ret (agg [w2,w3,w4,w5,w6,w7])))
def f17_6  (x0 w1 w2 w3 w4 w5 w6 w7 w8 x9:TV):Prg TV :=
 tv (plen (.slice 3) w1) fun v59 =>
 tv (pbin (.int .i64) .gtr v59 (I 0)) fun v60 =>
 Prg.ite (asBool v60) (
 tv (plen (.slice 3) w1) fun v61 =>
 tv (pbin (.int .i64) .sub v61 (I 1)) fun v62 =>
 nat (slLen w1) fun n63 =>
 nat (asNat v62) fun n64 =>
 chk (Bool.and (slSize w1 1) (Nat.blt n64 n63)) (
 tvs (pel w1 n64) fun e65 =>
 chk (fitsAt zInt e65 0) (
 jmp [0,0,0,1,12,0,1,0,1,0,0,1,1,1,6,0,2015,0,0,0,1,0,0,1,43,0,1,0,1,1,1,1,1] (f17_7_S (nth hole e65 0) w1 w2 w3 w4 w5 w6 w7 w8 x9 x0 v62)))) (
 tv (pbin (.int .i64) .sub x9 (I 1)) fun v66 =>
 jmp [0,0,1,43,0,1,0,1,1,1,1,1] (f17_5_S v66 w8 w2 w3 w4 w5 w6 w7))
def f17_7  (x0 w1 w2 w3 w4 w5 w6 w7 w8 x9 x10 x11:TV):Prg TV :=
 nat (slLen w7) fun n67 =>
 nat (asNat x0) fun n68 =>
 chk (Bool.and (slSize w7 1) (Nat.blt n68 n67)) (
 tvs (pel w7 n68) fun e69 =>
 chk (fitsAt zInt e69 0) (
 tv (pbin (.int .i64) .neq (nth hole e69 0) x0) fun v70 =>
 Prg.ite (asBool v70) (
 nat (slLen w7) fun n71 =>
 nat (asNat x0) fun n72 =>
 chk (Bool.and (slSize w7 1) (Nat.blt n72 n71)) (
 tvs (pel w7 n72) fun e73 =>
 chk (fitsAt zInt e73 0) (
 nat (slLen w7) fun n74 =>
 nat (asNat (nth hole e73 0)) fun n75 =>
 chk (Bool.and (slSize w7 1) (Nat.blt n75 n74)) (
 tvs (pel w7 n75) fun e76 =>
 chk (fitsAt zInt e76 0) (
 nat (slLen w7) fun n77 =>
 nat (asNat x0) fun n78 =>
 chk (Bool.and (slSize w7 1) (Nat.blt n78 n77)) (
 tvs (pel w7 n78) fun e79 =>
 chk (fitsAt zInt e79 0) (
 tv (setC [] w7 n78 0 [nth hole e76 0]) fun v80 =>
 nat (slLen v80) fun n81 =>
 nat (asNat x0) fun n82 =>
 chk (Bool.and (slSize v80 1) (Nat.blt n82 n81)) (
 tvs (pel v80 n82) fun e83 =>
 chk (fitsAt zInt e83 0) (
 jmp [0,0,0,1,12,0,1,0,1,0,0,1,1,1,6,0,2015,0,0,0,1,0,0,1,43,0,1,0,1,1,1,1,1] (f17_7_S (nth hole e83 0) w1 w2 w3 w4 w5 w6 v80 w8 x9 x10 x11)))))))))) (
 nat (slLen w1) fun n84 =>
 nat (asNat x11) fun n85 =>
 chk (Bool.and (Bool.and (slSize w1 1) (Nat.ble 0 (Option.getD (some n85) n84))) (Nat.ble (Option.getD (some n85) n84) n84)) (
 tv (pbin (.int .i64) .neq x0 x10) fun v86 =>
 Prg.ite (asBool v86) (
 nat (slLen w6) fun n87 =>
 nat (asNat x0) fun n88 =>
 chk (Bool.and (slSize w6 1) (Nat.blt n88 n87)) (
 chk (TV.isOne x10) (
 tvs (pel w6 n88) fun e89 =>
 chk (fitsAt zInt e89 0) (
 tv (setC [] w6 n88 0 [x10]) fun v90 =>
 nat (slLen w7) fun n91 =>
 nat (asNat x0) fun n92 =>
 chk (Bool.and (slSize w7 1) (Nat.blt n92 n91)) (
 chk (TV.isOne x10) (
 tvs (pel w7 n92) fun e93 =>
 chk (fitsAt zInt e93 0) (
 tv (setC [] w7 n92 0 [x10]) fun v94 =>
 nat (slLen w2) fun n95 =>
 nat (asNat x0) fun n96 =>
 chk (Bool.and (slSize w2 1) (Nat.blt n96 n95)) (
 tvs (pel w2 n96) fun e97 =>
 chk (fitsAt zSl e97 0) (
 tv (getP [(n96,0)] w2) fun v98 =>
 rws (pelems 1 v98) fun r99 =>
 tv (winP 0 ((Option.getD (some n85) n84) - 0) w1) fun v100 =>
 tv (papp 1 v100 (lfLL r99)) fun v101 =>
 jmp [0,0,1,1,1,6,0,2015,0,0,0,1,0,0,1,43,0,1,0,1,1,1,1,1] (f17_6_S x10 v101 w2 w3 w4 w5 v90 v94 w8 x9)))))))))) (
 tv (winP 0 ((Option.getD (some n85) n84) - 0) w1) fun v102 =>
 jmp [0,0,1,1,1,6,0,2015,0,0,0,1,0,0,1,43,0,1,0,1,1,1,1,1] (f17_6_S x10 v102 w2 w3 w4 w5 w6 w7 w8 x9))))))
theorem f17_MR (x0:TV):startQ prog 17 [x0]=f17_M x0:=by kernel_rfl
theorem f17_0_J  {x0 x1 y2 y3 y4 w5 w6 w7 w8 w9 w10 w11:TV} {r:TV} (h:Goes prog 17 (f17_0 x0 x1 y2 y3 y4 w5 w6 w7 w8 w9 w10 w11) r):Goes prog 17 (.jmp [0,0,1,0,1,1,1] (f17_0_S x0 x1 y2 y3 y4 w5 w6 w7 w8 w9 w10 w11)) r:=Goes.jmp (by kernel_rfl) h
theorem f17_1_J  {y0 y1 y2 w3 w4 w5 w6 w7 w8 w9:TV} {r:TV} (h:Goes prog 17 (f17_1 y0 y1 y2 w3 w4 w5 w6 w7 w8 w9) r):Goes prog 17 (.jmp [1,1,1,1] (f17_1_S y0 y1 y2 w3 w4 w5 w6 w7 w8 w9)) r:=Goes.jmp (by kernel_rfl) h
theorem f17_2_J  {x0 x1 y2 y3 y4 w5 w6 w7 w8 w9 w10 w11:TV} {r:TV} (h:Goes prog 17 (f17_2 x0 x1 y2 y3 y4 w5 w6 w7 w8 w9 w10 w11) r):Goes prog 17 (.jmp [0,0,1,0,1,1,1,1] (f17_2_S x0 x1 y2 y3 y4 w5 w6 w7 w8 w9 w10 w11)) r:=Goes.jmp (by kernel_rfl) h
theorem f17_3_J  {x0 x1 x2 x3 x4 y5 y6 y7 w8 w9 w10 w11 w12 w13 w14 w15:TV} {r:TV} (h:Goes prog 17 (f17_3 x0 x1 x2 x3 x4 y5 y6 y7 w8 w9 w10 w11 w12 w13 w14 w15) r):Goes prog 17 (.jmp [0,0,1,1,0,0,1,1,0,0,1,0,1,1,1,1] (f17_3_S x0 x1 x2 x3 x4 y5 y6 y7 w8 w9 w10 w11 w12 w13 w14 w15)) r:=Goes.jmp (by kernel_rfl) h
theorem f17_4_J  {w0 w1 w2 w3 w4 w5 w6:TV} {r:TV} (h:Goes prog 17 (f17_4 w0 w1 w2 w3 w4 w5 w6) r):Goes prog 17 (.jmp [1,1,1,1,1] (f17_4_S w0 w1 w2 w3 w4 w5 w6)) r:=Goes.jmp (by kernel_rfl) h
theorem f17_5_J  {x0 w1 w2 w3 w4 w5 w6 w7:TV} {r:TV} (h:Goes prog 17 (f17_5 x0 w1 w2 w3 w4 w5 w6 w7) r):Goes prog 17 (.jmp [0,0,1,43,0,1,0,1,1,1,1,1] (f17_5_S x0 w1 w2 w3 w4 w5 w6 w7)) r:=Goes.jmp (by kernel_rfl) h
theorem f17_6_J  {x0 w1 w2 w3 w4 w5 w6 w7 w8 x9:TV} {r:TV} (h:Goes prog 17 (f17_6 x0 w1 w2 w3 w4 w5 w6 w7 w8 x9) r):Goes prog 17 (.jmp [0,0,1,1,1,6,0,2015,0,0,0,1,0,0,1,43,0,1,0,1,1,1,1,1] (f17_6_S x0 w1 w2 w3 w4 w5 w6 w7 w8 x9)) r:=Goes.jmp (by kernel_rfl) h
theorem f17_7_J  {x0 w1 w2 w3 w4 w5 w6 w7 w8 x9 x10 x11:TV} {r:TV} (h:Goes prog 17 (f17_7 x0 w1 w2 w3 w4 w5 w6 w7 w8 x9 x10 x11) r):Goes prog 17 (.jmp [0,0,0,1,12,0,1,0,1,0,0,1,1,1,6,0,2015,0,0,0,1,0,0,1,43,0,1,0,1,1,1,1,1] (f17_7_S x0 w1 w2 w3 w4 w5 w6 w7 w8 x9 x10 x11)) r:=Goes.jmp (by kernel_rfl) h
end Go.Ab.L9

import Derived.Test.YtjdjnejdjhfmcabNN10T
section
set_option linter.unusedVariables false
set_option maxRecDepth 100000
namespace Go.Ab.N10
open Go Go.Ab Go.Proofs
open Go.Ab.TV (hole cell comp isSl isSc isTup cellsL tup agg)
open Go.Ab.Prg (tv tvs rws nat chk call jmp ret)
def f3_0_S  (x0 x1 x2 y3 y4 w5:TV):ASt:=⟨[AV.one CA.junk,AV.tv x0,AV.one CA.junk,AV.one CA.junk,AV.one CA.junk,AV.tv x1,AV.one (CA.ptr 0 0),AV.tv x2] ++ List.replicate 91 (AV.one CA.junk),[some (BC.cells [CA.t y3,CA.t y4,CA.sref 1 0 []]),some (BC.tree [w5])] ++ List.replicate 121 (none),[]⟩
def f3_1_S  (x0 x1 y2 y3 w4:TV):ASt:=⟨[AV.one CA.junk,AV.tv x0,AV.one CA.junk,AV.one CA.junk,AV.one CA.junk,AV.tv x1,AV.one (CA.ptr 0 0)] ++ List.replicate 92 (AV.one CA.junk),[some (BC.cells [CA.t y2,CA.t y3,CA.sref 1 0 []]),some (BC.tree [w4])] ++ List.replicate 121 (none),[]⟩
def f3_2_S  (x0 x1 x2 y3 y4 w5:TV):ASt:=⟨List.replicate 5 (AV.one CA.junk) ++ [AV.tv x0,AV.one (CA.ptr 0 0),AV.one CA.junk,AV.tv x1,AV.one CA.junk,AV.tv x2] ++ List.replicate 88 (AV.one CA.junk),[some (BC.cells [CA.t y3,CA.t y4,CA.sref 1 0 []]),some (BC.tree [w5])] ++ List.replicate 121 (none),[]⟩
def f3_3_S  (x0 x1 x2 x3 y4 y5 w6:TV):ASt:=⟨List.replicate 5 (AV.one CA.junk) ++ [AV.tv x0,AV.one (CA.ptr 0 0),AV.one CA.junk,AV.tv x1,AV.one CA.junk,AV.tv x2,AV.tv x3] ++ List.replicate 87 (AV.one CA.junk),[some (BC.cells [CA.t y4,CA.t y5,CA.sref 1 0 []]),some (BC.tree [w6])] ++ List.replicate 121 (none),[]⟩
def f3_M (x0 x1:TV):Prg TV :=
 call 4 [] fun v0 =>
 chk (fitsAt zBool [v0] 0) (
 tv (pun .not v0) fun v1 =>
 Prg.ite (asBool v1) (
 ret (B false)) (
 tv (pbin (.int .u8) .rem x0 (TV.lit (Value.int IntKind.u8 (10:Int)))) fun v2 =>
 tv (pconv (.int .i64) v2) fun v3 =>
 tv (pbin (.int .i64) .add v3 (I 2)) fun v4 =>
 chk true (
 jmp [0,0,1,0,1,1,1,1] (f3_0_S x1 v4 (I 0) (I 0) (I 1) (TV.lit nilV)))))
def f3_0  (x0 x1 x2 y3 y4 w5:TV):Prg TV :=
 tv (pbin (.int .i64) .lss x2 x1) fun v5 =>
 Prg.ite (asBool v5) (
 tv (pbin (.int .i64) .add x2 (I 1)) fun v6 =>
 rws (pelems 14 (TV.sl true 14 (chunks 14 1 [B false,I 0,TV.lit nilV,B false,B false,TV.lit nilV,I 2,I 0,I 0,I 0,TV.lit nilV,v6,I 0,I 0]))) fun r7 =>
 tv (papp 14 w5 r7) fun v8 =>
 tv (pbin (.int .i64) .add x2 (I 1)) fun v9 =>
 jmp [0,0,1,0,1,1,1,1] (f3_0_S x0 x1 v9 y3 y4 v8)) (
 jmp [1,1,1,1,1] (f3_1_S x0 x1 y3 y4 w5))
def f3_1  (x0 x1 y2 y3 w4:TV):Prg TV :=
 rws (pelems 14 (TV.sl true 14 (chunks 14 1 [B false,I 0,TV.lit nilV,B false,B false,TV.lit nilV,I 1,I 0,I 0,I 0,TV.lit nilV,I 0,I 0,I 0]))) fun r10 =>
 tv (papp 14 w4 r10) fun v11 =>
 call 5 [agg [y2,y3,frz v11]] fun v12 =>
 chk (fitsAt zSl [v12] 0) (
 tv (plen (.slice 38) v12) fun v13 =>
 tv (pbin (.int .i64) .neq v13 (I 0)) fun v14 =>
 Prg.ite (asBool v14) (
 ret (B false)) (
 tv (pconv (.int .i64) x0) fun v15 =>
 tv (pbin (.int .i64) .rem v15 x1) fun v16 =>
 tv (pbin (.int .i64) .sub x1 (I 1)) fun v17 =>
 chk (TV.isOne x1) (
 nat (slLen v11) fun n18 =>
 nat (asNat v17) fun n19 =>
 chk (Bool.and (slSize v11 14) (Nat.blt n19 n18)) (
 tvs (pel v11 n19) fun e20 =>
 chk (Bool.and (fitsOld zEnd e20 6) (fitsAt zEnd [I 3,I 0,I 0,I 0,TV.lit nilV,v16,x1,I 0] 0)) (
 tv (setC [] v11 n19 6 [I 3,I 0,I 0,I 0,TV.lit nilV,v16,x1,I 0]) fun v21 =>
 call 5 [agg [y2,y3,frz v21]] fun v22 =>
 chk (fitsAt zSl [v22] 0) (
 tv (plen (.slice 38) v22) fun v23 =>
 tv (pbin (.int .i64) .neq v23 (I 1)) fun v24 =>
 Prg.ite (asBool v24) (
 ret (B false)) (
 nat (slLen v22) fun n25 =>
 nat (asNat (I 0)) fun n26 =>
 chk (Bool.and (slSize v22 2) (Nat.blt n26 n25)) (
 tvs (pel v22 n26) fun e27 =>
 chk (fitsAt zInt e27 0) (
 tv (pbin (.int .i64) .neq (nth hole e27 0) v16) fun v28 =>
 Prg.ite (asBool v28) (
 ret (B false)) (
 nat (slLen v22) fun n29 =>
 nat (asNat (I 0)) fun n30 =>
 chk (Bool.and (slSize v22 2) (Nat.blt n30 n29)) (
 tvs (pel v22 n30) fun e31 =>
 chk (fitsAt zSl e31 1) (
 tv (getP [(n30,1)] v22) fun v32 =>
 tv (plen (.slice 3) v32) fun v33 =>
 tv (pbin (.int .i64) .sub x1 v16) fun v34 =>
 tv (pbin (.int .i64) .neq v33 v34) fun v35 =>
 Prg.ite (asBool v35) (
 ret (B false)) (
 jmp [0,0,1,0,1,1,1,1,1,1,1,1,1,1,1] (f3_2_S x1 v16 (I 0) y2 y3 v21))))))))))))))
def f3_2  (x0 x1 x2 y3 y4 w5:TV):Prg TV :=
 tv (pbin (.int .i64) .leq x2 x0) fun v36 =>
 Prg.ite (asBool v36) (
 tv (pbin (.int .i64) .geq x2 x1) fun v37 =>
 Prg.ite (asBool v37) (
 tv (pbin (.int .i64) .lss x2 x0) fun v38 =>
 Prg.ite (asBool v38) (
 jmp [1,1,0,0,1,0,0,1,0,1,1,1,1,1,1,1,1,1,1,1] (f3_3_S x0 x1 x2 (I 1) y3 y4 w5)) (
 jmp [1,1,0,0,1,0,0,1,0,1,1,1,1,1,1,1,1,1,1,1] (f3_3_S x0 x1 x2 (I 0) y3 y4 w5))) (
 jmp [1,1,0,0,1,0,0,1,0,1,1,1,1,1,1,1,1,1,1,1] (f3_3_S x0 x1 x2 (I 0) y3 y4 w5))) (
 ret (B true))
def f3_3  (x0 x1 x2 x3 y4 y5 w6:TV):Prg TV :=
 call 6 [agg [y4,y5,frz w6],x2] fun v39 =>
 chk (fitsAt zInt [v39] 0) (
 tv (pbin (.int .i64) .neq v39 x3) fun v40 =>
 Prg.ite (asBool v40) (
 ret (B false)) (
 tv (pbin (.int .i64) .add x2 (I 1)) fun v41 =>
 jmp [0,0,1,0,1,1,1,1,1,1,1,1,1,1,1] (f3_2_S x0 x1 v41 y4 y5 w6)))
theorem f3_MR (x0 x1:TV):startQ prog 3 [x0,x1]=f3_M x0 x1:=by kernel_rfl
theorem f3_0_J  {x0 x1 x2 y3 y4 w5:TV} {r:TV} (h:Goes prog 3 (f3_0 x0 x1 x2 y3 y4 w5) r):Goes prog 3 (.jmp [0,0,1,0,1,1,1,1] (f3_0_S x0 x1 x2 y3 y4 w5)) r:=Goes.jmp (by kernel_rfl) h
theorem f3_1_J  {x0 x1 y2 y3 w4:TV} {r:TV} (h:Goes prog 3 (f3_1 x0 x1 y2 y3 w4) r):Goes prog 3 (.jmp [1,1,1,1,1] (f3_1_S x0 x1 y2 y3 w4)) r:=Goes.jmp (by kernel_rfl) h
theorem f3_2_J  {x0 x1 x2 y3 y4 w5:TV} {r:TV} (h:Goes prog 3 (f3_2 x0 x1 x2 y3 y4 w5) r):Goes prog 3 (.jmp [0,0,1,0,1,1,1,1,1,1,1,1,1,1,1] (f3_2_S x0 x1 x2 y3 y4 w5)) r:=Goes.jmp (by kernel_rfl) h
theorem f3_3_J  {x0 x1 x2 x3 y4 y5 w6:TV} {r:TV} (h:Goes prog 3 (f3_3 x0 x1 x2 x3 y4 y5 w6) r):Goes prog 3 (.jmp [1,1,0,0,1,0,0,1,0,1,1,1,1,1,1,1,1,1,1,1] (f3_3_S x0 x1 x2 x3 y4 y5 w6)) r:=Goes.jmp (by kernel_rfl) h
def f4_M:Prg TV :=
 call 5 [agg [I 0,I 1,frz (TV.sl true 14 (chunks 14 3 [B false,I 0,TV.lit nilV,B false,B false,TV.lit nilV,I 2,I 0,I 0,I 0,TV.lit nilV,I 1,I 0,I 0,B false,I 0,TV.lit nilV,B false,B false,TV.lit nilV,I 3,I 0,I 0,I 0,TV.lit nilV,I 1,I 2,I 0,B false,I 0,TV.lit nilV,B false,B false,TV.lit nilV,I 1,I 0,I 0,I 0,TV.lit nilV,I 0,I 0,I 0]))]] fun v0 =>
 chk (fitsAt zSl [v0] 0) (
 tv (plen (.slice 38) v0) fun v1 =>
 tv (pbin (.int .i64) .eql v1 (I 1)) fun v2 =>
 Prg.ite (asBool v2) (
 nat (slLen v0) fun n3 =>
 nat (asNat (I 0)) fun n4 =>
 chk (Bool.and (slSize v0 2) (Nat.blt n4 n3)) (
 tvs (pel v0 n4) fun e5 =>
 chk (fitsAt zInt e5 0) (
 tv (pbin (.int .i64) .eql (nth hole e5 0) (I 1)) fun v6 =>
 Prg.ite (asBool v6) (
 nat (slLen v0) fun n7 =>
 nat (asNat (I 0)) fun n8 =>
 chk (Bool.and (slSize v0 2) (Nat.blt n8 n7)) (
 tvs (pel v0 n8) fun e9 =>
 chk (fitsAt zSl e9 1) (
 tv (getP [(n8,1)] v0) fun v10 =>
 call 7 [frz v10,frz (TV.sl true 1 (chunks 1 1 [I 1]))] fun v11 =>
 chk (fitsAt zBool [v11] 0) (
 Prg.ite (asBool v11) (
 call 6 [agg [I 0,I 1,frz (TV.sl true 14 (chunks 14 3 [B false,I 0,TV.lit nilV,B false,B false,TV.lit nilV,I 2,I 0,I 0,I 0,TV.lit nilV,I 1,I 0,I 0,B false,I 0,TV.lit nilV,B false,B false,TV.lit nilV,I 3,I 0,I 0,I 0,TV.lit nilV,I 1,I 2,I 0,B false,I 0,TV.lit nilV,B false,B false,TV.lit nilV,I 1,I 0,I 0,I 0,TV.lit nilV,I 0,I 0,I 0]))],I 1] fun v12 =>
 chk (fitsAt zInt [v12] 0) (
 tv (pbin (.int .i64) .eql v12 (I 1)) fun v13 =>
 Prg.ite (asBool v13) (
 call 6 [agg [I 0,I 1,frz (TV.sl true 14 (chunks 14 3 [B false,I 0,TV.lit nilV,B false,B false,TV.lit nilV,I 2,I 0,I 0,I 0,TV.lit nilV,I 1,I 0,I 0,B false,I 0,TV.lit nilV,B false,B false,TV.lit nilV,I 3,I 0,I 0,I 0,TV.lit nilV,I 1,I 2,I 0,B false,I 0,TV.lit nilV,B false,B false,TV.lit nilV,I 1,I 0,I 0,I 0,TV.lit nilV,I 0,I 0,I 0]))],I 2] fun v14 =>
 chk (fitsAt zInt [v14] 0) (
 tv (pbin (.int .i64) .eql v14 (I 0)) fun v15 =>
 ret v15)) (
 ret (B false)))) (
 ret (B false)))))) (
 ret (B false))))) (
 ret (B false)))
theorem f4_MR:startQ prog 4 []=f4_M  := by kernel_rfl
def f5_0_S  (x0 x1 w2 w3 w4 w5 w6 w7 w8:TV):ASt:=⟨[AV.one CA.junk,AV.one CA.junk,AV.one CA.junk,AV.one (CA.ptr 0 0),AV.one (CA.ptr 1 0)] ++ List.replicate 13 (AV.one CA.junk) ++ [AV.tv x0,AV.tv x1] ++ List.replicate 35 (AV.one CA.junk),[some (BC.cells [CA.sref 2 0 [],CA.sref 2 1 [],CA.sref 2 2 [],CA.sref 2 3 [],CA.sref 2 4 [],CA.sref 2 5 []]),some (BC.cells [CA.sref 3 0 []]),some (BC.tree [w2,w3,w4,w5,w6,w7]),some (BC.tree [w8])] ++ List.replicate 75 (none),[]⟩
def f5_1_S  (x0 y1 y2 w3 w4 w5 w6 w7 w8 w9 x10 x11:TV):ASt:=⟨[AV.one (CA.yl 0),AV.one (CA.ptr 0 0),AV.one CA.junk,AV.one CA.junk,AV.tv x0] ++ List.replicate 23 (AV.one CA.junk),[some (BC.cells [CA.sref 5 0 [],CA.sref 5 1 [],CA.sref 5 2 [],CA.sref 5 3 [],CA.sref 5 4 [],CA.sref 5 5 []]),some (BC.cells [CA.sref 5 0 [],CA.sref 5 1 [],CA.sref 5 2 [],CA.sref 5 3 [],CA.sref 5 4 [],CA.sref 5 5 []]),some (BC.cells [CA.sref 6 0 []]),some (BC.cells [CA.t y1]),some (BC.cells [CA.t y2]),some (BC.tree [w3,w4,w5,w6,w7,w8]),some (BC.tree [w9])] ++ List.replicate 100 (none),([AV.one CA.junk,AV.one CA.junk,AV.one CA.junk,AV.one (CA.ptr 1 0),AV.one (CA.ptr 2 0),AV.one (CA.ptr 3 0)] ++ List.replicate 12 (AV.one CA.junk) ++ [AV.tv x10,AV.tv x11] ++ List.replicate 4 (AV.one CA.junk) ++ [AV.clo 15 [CA.ptr 0 0,CA.ptr 4 0]] ++ List.replicate 30 (AV.one CA.junk))⟩
def f5_2_S  (w0:TV):ASt:=⟨List.replicate 4 (AV.one CA.junk) ++ [AV.one (CA.ptr 0 0)] ++ List.replicate 50 (AV.one CA.junk),[some (BC.cells [CA.sref 1 0 []]),some (BC.tree [w0])] ++ List.replicate 77 (none),[]⟩
def f5_3_S  (x0 y1 y2 w3 w4 w5 w6 w7 w8 w9 x10 x11:TV):ASt:=⟨[AV.one (CA.yl 0),AV.one (CA.ptr 0 0),AV.one CA.junk,AV.one CA.junk,AV.tv x0] ++ List.replicate 23 (AV.one CA.junk),[some (BC.cells [CA.sref 5 0 [],CA.sref 5 1 [],CA.sref 5 2 [],CA.sref 5 3 [],CA.sref 5 4 [],CA.sref 5 5 []]),some (BC.cells [CA.sref 5 0 [],CA.sref 5 1 [],CA.sref 5 2 [],CA.sref 5 3 [],CA.sref 5 4 [],CA.sref 5 5 []]),some (BC.cells [CA.sref 6 0 []]),some (BC.cells [CA.t y1]),some (BC.cells [CA.t y2]),some (BC.tree [w3,w4,w5,w6,w7,w8]),some (BC.tree [w9])] ++ List.replicate 100 (none),([AV.one CA.junk,AV.one CA.junk,AV.one CA.junk,AV.one (CA.ptr 1 0),AV.one (CA.ptr 2 0),AV.one (CA.ptr 3 0)] ++ List.replicate 12 (AV.one CA.junk) ++ [AV.tv x10,AV.tv x11] ++ List.replicate 4 (AV.one CA.junk) ++ [AV.clo 15 [CA.ptr 0 0,CA.ptr 4 0]] ++ List.replicate 30 (AV.one CA.junk))⟩
def f5_4_S  (x0 x1 w2 w3:TV):ASt:=⟨List.replicate 7 (AV.one CA.junk) ++ [AV.one (CA.sref 0 0 [])] ++ List.replicate 29 (AV.one CA.junk) ++ [AV.one (CA.sref 1 0 []),AV.tv x0,AV.tv x1] ++ List.replicate 15 (AV.one CA.junk),[some (BC.tree [w2]),some (BC.tree [w3])] ++ List.replicate 77 (none),[]⟩
def f5_M (x0:TV):Prg TV :=
 chk (TV.isAgg x0 3) (
 call 8 [agg [cell x0 0,cell x0 1,cell x0 2]] fun v0 =>
 chk (Bool.and (TV.isAgg v0 6) (fitsAt z46 (cellsL true v0) 0)) (
 tv (plen (.slice 34) (cell x0 2)) fun v1 =>
 nat (asNat v1) fun n2 =>
 nat (asNat v1) fun n3 =>
 chk (Bool.and (Nat.ble n2 n3) (Nat.ble n3 4294967296)) (
 tv (plen (.slice 34) (cell x0 2)) fun v4 =>
 jmp [0,0,1,0,1,1,1] (f5_0_S v4 (I 0) (cell v0 0) (cell v0 1) (cell v0 2) (cell v0 3) (cell v0 4) (cell v0 5) (TV.sl true 1 (List.replicate n2 [TV.lit nilV]))))))
def f5_0  (x0 x1 w2 w3 w4 w5 w6 w7 w8:TV):Prg TV :=
 tv (pbin (.int .i64) .lss x1 x0) fun v5 =>
 Prg.ite (asBool v5) (
 chk (TV.isOne x1) (
 nat (slLen w6) fun n6 =>
 nat (asNat x1) fun n7 =>
 chk (Bool.and (slSize w6 1) (Nat.blt n7 n6)) (
 tvs (pel w6 n7) fun e8 =>
 chk (fitsAt zInt e8 0) (
 nat (slLen w5) fun n9 =>
 nat (asNat x1) fun n10 =>
 chk (Bool.and (slSize w5 1) (Nat.blt n10 n9)) (
 tvs (pel w5 n10) fun e11 =>
 chk (fitsAt zBool e11 0) (
 Prg.ite (asBool (nth hole e11 0)) (
 jmp [1,1,15,0,1,1,0,0,1,1,0,0,1,0,1,1,1] (f5_1_S x1 x1 x1 w2 w3 w4 w5 w6 w7 w8 x0 x1)) (
 jmp [1,1,15,0,1,1,0,0,1,1,0,0,1,0,1,1,1] (f5_1_S (nth hole e8 0) x1 x1 w2 w3 w4 w5 w6 w7 w8 x0 x1)))))))) (
 jmp [1,1,1,1] (f5_2_S w8))
def f5_1  (x0 y1 y2 w3 w4 w5 w6 w7 w8 w9 x10 x11:TV):Prg TV :=
 jmp [0,0,1,1,15,0,1,1,0,0,1,1,0,0,1,0,1,1,1] (f5_3_S x0 y1 y2 w3 w4 w5 w6 w7 w8 w9 x10 x11)
def f5_2  (w0:TV):Prg TV :=
 tv (plen (.slice 26) w0) fun v12 =>
 chk true (
 jmp [0,0,1,0,1,1,1,1,1] (f5_4_S v12 (I 0) (TV.lit nilV) w0))
def f5_3  (x0 y1 y2 w3 w4 w5 w6 w7 w8 w9 x10 x11:TV):Prg TV :=
 tv (pbin (.int .i64) .geq x0 (I 0)) fun v13 =>
 Prg.ite (asBool v13) (
 nat (slLen w9) fun n14 =>
 nat (asNat x0) fun n15 =>
 chk (Bool.and (slSize w9 1) (Nat.blt n15 n14)) (
 tvs (pel w9 n15) fun e16 =>
 chk (fitsAt zSl e16 0) (
 rws (pelems 1 (TV.sl true 1 (chunks 1 1 [y1]))) fun r17 =>
 tv (getP [(n15,0)] w9) fun v18 =>
 tv (papp 1 v18 (lfLL r17)) fun v19 =>
 tv (setP [(n15,0)] w9 hole) fun v20 =>
 nat (slLen v20) fun n21 =>
 nat (asNat x0) fun n22 =>
 chk (Bool.and (slSize v20 1) (Nat.blt n22 n21)) (
 tvs (pel v20 n22) fun e23 =>
 chk (Bool.and (fitsOld zSl e23 0) (fitsAt zSl [v19] 0)) (
 tv (setC [] v20 n22 0 [v19]) fun v24 =>
 nat (slLen w7) fun n25 =>
 nat (asNat x0) fun n26 =>
 chk (Bool.and (slSize w7 1) (Nat.blt n26 n25)) (
 tvs (pel w7 n26) fun e27 =>
 chk (fitsAt zInt e27 0) (
 jmp [0,0,1,1,15,0,1,1,0,0,1,1,0,0,1,0,1,1,1] (f5_3_S (nth hole e27 0) y1 y2 w3 w4 w5 w6 w7 w8 v24 x10 x11)))))))) (
 tv (pbin (.int .i64) .add x11 (I 1)) fun v28 =>
 jmp [0,0,1,0,1,1,1] (f5_0_S x10 v28 w3 w4 w5 w6 w7 w8 w9))
def f5_4  (x0 x1 w2 w3:TV):Prg TV :=
 tv (pbin (.int .i64) .lss x1 x0) fun v29 =>
 Prg.ite (asBool v29) (
 nat (slLen w3) fun n30 =>
 nat (asNat x1) fun n31 =>
 chk (Bool.and (slSize w3 1) (Nat.blt n31 n30)) (
 tvs (pel w3 n31) fun e32 =>
 chk (fitsAt zSl e32 0) (
 tv (getP [(n31,0)] w3) fun v33 =>
 tv (plen (.slice 3) v33) fun v34 =>
 tv (pbin (.int .i64) .gtr v34 (I 0)) fun v35 =>
 Prg.ite (asBool v35) (
 chk (TV.isOne x1) (
 tv (getP [(n31,0)] w3) fun v36 =>
 Prg.ite (frB v36) (
 rws (pelems 2 (TV.sl true 2 (chunks 2 1 [x1,v36]))) fun r37 =>
 tv (papp 2 w2 r37) fun v38 =>
 tv (pbin (.int .i64) .add x1 (I 1)) fun v39 =>
 jmp [0,0,1,0,1,1,1,1,1] (f5_4_S x0 v39 v38 w3)) (
 tv (setP [(n31,0)] w3 hole) fun v40 =>
 rws (pelems 2 (TV.sl true 2 (chunks 2 1 [x1,v36]))) fun r41 =>
 tv (papp 2 w2 r41) fun v42 =>
 tv (pbin (.int .i64) .add x1 (I 1)) fun v43 =>
 jmp [0,0,1,0,1,1,1,1,1] (f5_4_S x0 v43 v42 v40)))) (
 tv (pbin (.int .i64) .add x1 (I 1)) fun v44 =>
 jmp [0,0,1,0,1,1,1,1,1] (f5_4_S x0 v44 w2 w3))))) (
 chk (isOwn w2) (
 ret w2))
theorem f5_MR (x0:TV):startQ prog 5 [x0]=f5_M x0:=by kernel_rfl
theorem f5_0_J  {x0 x1 w2 w3 w4 w5 w6 w7 w8:TV} {r:TV} (h:Goes prog 5 (f5_0 x0 x1 w2 w3 w4 w5 w6 w7 w8) r):Goes prog 5 (.jmp [0,0,1,0,1,1,1] (f5_0_S x0 x1 w2 w3 w4 w5 w6 w7 w8)) r:=Goes.jmp (by kernel_rfl) h
theorem f5_1_J  {x0 y1 y2 w3 w4 w5 w6 w7 w8 w9 x10 x11:TV} {r:TV} (h:Goes prog 5 (f5_1 x0 y1 y2 w3 w4 w5 w6 w7 w8 w9 x10 x11) r):Goes prog 5 (.jmp [1,1,15,0,1,1,0,0,1,1,0,0,1,0,1,1,1] (f5_1_S x0 y1 y2 w3 w4 w5 w6 w7 w8 w9 x10 x11)) r:=Goes.jmp (by kernel_rfl) h
theorem f5_2_J  {w0:TV} {r:TV} (h:Goes prog 5 (f5_2 w0) r):Goes prog 5 (.jmp [1,1,1,1] (f5_2_S w0)) r:=Goes.jmp (by kernel_rfl) h
theorem f5_3_J  {x0 y1 y2 w3 w4 w5 w6 w7 w8 w9 x10 x11:TV} {r:TV} (h:Goes prog 5 (f5_3 x0 y1 y2 w3 w4 w5 w6 w7 w8 w9 x10 x11) r):Goes prog 5 (.jmp [0,0,1,1,15,0,1,1,0,0,1,1,0,0,1,0,1,1,1] (f5_3_S x0 y1 y2 w3 w4 w5 w6 w7 w8 w9 x10 x11)) r:=Goes.jmp (by kernel_rfl) h
theorem f5_4_J  {x0 x1 w2 w3:TV} {r:TV} (h:Goes prog 5 (f5_4 x0 x1 w2 w3) r):Goes prog 5 (.jmp [0,0,1,0,1,1,1,1,1] (f5_4_S x0 x1 w2 w3)) r:=Goes.jmp (by kernel_rfl) h
def f6_0_S  (x0 y1 y2 w3 w4 w5 w6 w7 w8:TV):ASt:=⟨[AV.one (CA.yl 0),AV.one (CA.ptr 0 0),AV.one CA.junk,AV.one CA.junk,AV.tv x0] ++ List.replicate 23 (AV.one CA.junk),[some (BC.cells [CA.sref 3 0 [],CA.sref 3 1 [],CA.sref 3 2 [],CA.sref 3 3 [],CA.sref 3 4 [],CA.sref 3 5 []]),some (BC.cells [CA.t y1]),some (BC.cells [CA.t y2]),some (BC.tree [w3,w4,w5,w6,w7,w8])] ++ List.replicate 71 (none),(List.replicate 5 (AV.one CA.junk) ++ [AV.one (CA.ptr 1 0)] ++ List.replicate 12 (AV.one CA.junk) ++ [AV.clo 15 [CA.ptr 0 0,CA.ptr 2 0]] ++ List.replicate 4 (AV.one CA.junk))⟩
def f6_1_S  (x0 y1 y2 w3 w4 w5 w6 w7 w8:TV):ASt:=⟨[AV.one (CA.yl 0),AV.one (CA.ptr 0 0),AV.one CA.junk,AV.one CA.junk,AV.tv x0] ++ List.replicate 23 (AV.one CA.junk),[some (BC.cells [CA.sref 3 0 [],CA.sref 3 1 [],CA.sref 3 2 [],CA.sref 3 3 [],CA.sref 3 4 [],CA.sref 3 5 []]),some (BC.cells [CA.t y1]),some (BC.cells [CA.t y2]),some (BC.tree [w3,w4,w5,w6,w7,w8])] ++ List.replicate 71 (none),(List.replicate 5 (AV.one CA.junk) ++ [AV.one (CA.ptr 1 0)] ++ List.replicate 12 (AV.one CA.junk) ++ [AV.clo 15 [CA.ptr 0 0,CA.ptr 2 0]] ++ List.replicate 4 (AV.one CA.junk))⟩
def f6_M (x0 x1:TV):Prg TV :=
 chk (TV.isAgg x0 3) (
 tv (pbin (.int .i64) .lss x1 (I 0)) fun v0 =>
 Prg.ite (asBool v0) (
 ret (I 0)) (
 tv (plen (.slice 34) (cell x0 2)) fun v1 =>
 tv (pbin (.int .i64) .geq x1 v1) fun v2 =>
 Prg.ite (asBool v2) (
 ret (I 0)) (
 call 8 [agg [cell x0 0,cell x0 1,cell x0 2]] fun v3 =>
 chk (Bool.and (TV.isAgg v3 6) (fitsAt z46 (cellsL true v3) 0)) (
 chk (TV.isOne x1) (
 nat (slLen (cell v3 4)) fun n4 =>
 nat (asNat x1) fun n5 =>
 chk (Bool.and (slSize (cell v3 4) 1) (Nat.blt n5 n4)) (
 tvs (pel (cell v3 4) n5) fun e6 =>
 chk (fitsAt zInt e6 0) (
 nat (slLen (cell v3 3)) fun n7 =>
 nat (asNat x1) fun n8 =>
 chk (Bool.and (slSize (cell v3 3) 1) (Nat.blt n8 n7)) (
 tvs (pel (cell v3 3) n8) fun e9 =>
 chk (fitsAt zBool e9 0) (
 Prg.ite (asBool (nth hole e9 0)) (
 jmp [1,1,15,0,1,0,1,1,1] (f6_0_S x1 (I 0) x1 (cell v3 0) (cell v3 1) (cell v3 2) (cell v3 3) (cell v3 4) (cell v3 5))) (
 jmp [1,1,15,0,1,0,1,1,1] (f6_0_S (nth hole e6 0) (I 0) x1 (cell v3 0) (cell v3 1) (cell v3 2) (cell v3 3) (cell v3 4) (cell v3 5))))))))))))
def f6_0  (x0 y1 y2 w3 w4 w5 w6 w7 w8:TV):Prg TV :=
 jmp [0,0,1,1,15,0,1,0,1,1,1] (f6_1_S x0 y1 y2 w3 w4 w5 w6 w7 w8)
def f6_1  (x0 y1 y2 w3 w4 w5 w6 w7 w8:TV):Prg TV :=
 tv (pbin (.int .i64) .geq x0 (I 0)) fun v10 =>
 Prg.ite (asBool v10) (
 tv (pbin (.int .i64) .add y1 (I 1)) fun v11 =>
 nat (slLen w7) fun n12 =>
 nat (asNat x0) fun n13 =>
 chk (Bool.and (slSize w7 1) (Nat.blt n13 n12)) (
 tvs (pel w7 n13) fun e14 =>
 chk (fitsAt zInt e14 0) (
 jmp [0,0,1,1,15,0,1,0,1,1,1] (f6_1_S (nth hole e14 0) v11 y2 w3 w4 w5 w6 w7 w8)))) (
 ret y1)
theorem f6_MR (x0 x1:TV):startQ prog 6 [x0,x1]=f6_M x0 x1:=by kernel_rfl
theorem f6_0_J  {x0 y1 y2 w3 w4 w5 w6 w7 w8:TV} {r:TV} (h:Goes prog 6 (f6_0 x0 y1 y2 w3 w4 w5 w6 w7 w8) r):Goes prog 6 (.jmp [1,1,15,0,1,0,1,1,1] (f6_0_S x0 y1 y2 w3 w4 w5 w6 w7 w8)) r:=Goes.jmp (by kernel_rfl) h
theorem f6_1_J  {x0 y1 y2 w3 w4 w5 w6 w7 w8:TV} {r:TV} (h:Goes prog 6 (f6_1 x0 y1 y2 w3 w4 w5 w6 w7 w8) r):Goes prog 6 (.jmp [0,0,1,1,15,0,1,0,1,1,1] (f6_1_S x0 y1 y2 w3 w4 w5 w6 w7 w8)) r:=Goes.jmp (by kernel_rfl) h
end Go.Ab.N10
end
section
set_option linter.unusedVariables false
set_option maxRecDepth 100000
namespace Go.Ab.N10
open Go Go.Ab Go.Proofs
open Go.Ab.TV (hole cell comp isSl isSc isTup cellsL tup agg)
open Go.Ab.Prg (tv tvs rws nat chk call jmp ret)
def f7_0_S  (x0 x1 x2:TV):ASt:=⟨[AV.tv x0,AV.tv x1,AV.one CA.junk,AV.one CA.junk,AV.one CA.junk,AV.tv x2] ++ List.replicate 20 (AV.one CA.junk),List.replicate 50 (none),[]⟩
def f7_M (x0 x1:TV):Prg TV :=
 tv (plen (.slice 3) x0) fun v0 =>
 tv (plen (.slice 3) x1) fun v1 =>
 tv (pbin (.int .i64) .neq v0 v1) fun v2 =>
 Prg.ite (asBool v2) (
 ret (B false)) (
 jmp [0,0,1,0,1,1] (f7_0_S x0 x1 (I 0)))
def f7_0  (x0 x1 x2:TV):Prg TV :=
 tv (plen (.slice 3) x0) fun v3 =>
 tv (pbin (.int .i64) .lss x2 v3) fun v4 =>
 Prg.ite (asBool v4) (
 tvs (pidx 1 x0 x2) fun e5 =>
 chk (Nat.blt 0 (List.length e5)) (
 tvs (pidx 1 x1 x2) fun e6 =>
 chk (Nat.blt 0 (List.length e6)) (
 tv (pbin (.int .i64) .neq (nth hole e5 0) (nth hole e6 0)) fun v7 =>
 Prg.ite (asBool v7) (
 ret (B false)) (
 tv (pbin (.int .i64) .add x2 (I 1)) fun v8 =>
 jmp [0,0,1,0,1,1] (f7_0_S x0 x1 v8))))) (
 ret (B true))
theorem f7_MR (x0 x1:TV):startQ prog 7 [x0,x1]=f7_M x0 x1:=by kernel_rfl
theorem f7_0_J  {x0 x1 x2:TV} {r:TV} (h:Goes prog 7 (f7_0 x0 x1 x2) r):Goes prog 7 (.jmp [0,0,1,0,1,1] (f7_0_S x0 x1 x2)) r:=Goes.jmp (by kernel_rfl) h
def f8_0_S  (x0 x1 y2 y3 y4 w5 w6 w7 w8 w9 w10 w11:TV):ASt:=⟨[AV.one CA.junk,AV.one (CA.ptr 0 0),AV.one (CA.ptr 1 0),AV.one (CA.sref 2 0 []),AV.one CA.junk,AV.one (CA.ptr 3 0)] ++ List.replicate 26 (AV.one CA.junk) ++ [AV.tv x0,AV.tv x1] ++ List.replicate 48 (AV.one CA.junk),[some (BC.cells [CA.t y2,CA.t y3,CA.t y4]),some (BC.cells [CA.junk,CA.junk,CA.junk,CA.junk,CA.junk,CA.junk]),some (BC.tree [w5]),some (BC.cells [CA.sref 4 0 [],CA.sref 5 0 [],CA.sref 5 1 [],CA.sref 6 0 [],CA.sref 7 0 [],CA.sref 8 0 []]),some (BC.tree [w6]),some (BC.tree [w7,w8]),some (BC.tree [w9]),some (BC.tree [w10]),some (BC.tree [w11])] ++ List.replicate 97 (none),[]⟩
def f8_1_S  (y0 y1 y2 w3 w4 w5 w6 w7 w8 w9:TV):ASt:=⟨[AV.one CA.junk,AV.one (CA.ptr 0 0),AV.one (CA.ptr 1 0),AV.one (CA.sref 2 0 []),AV.one CA.junk,AV.one (CA.ptr 3 0)] ++ List.replicate 76 (AV.one CA.junk),[some (BC.cells [CA.t y0,CA.t y1,CA.t y2]),some (BC.cells [CA.junk,CA.junk,CA.junk,CA.junk,CA.junk,CA.junk]),some (BC.tree [w3]),some (BC.cells [CA.sref 4 0 [],CA.sref 5 0 [],CA.sref 5 1 [],CA.sref 6 0 [],CA.sref 7 0 [],CA.sref 8 0 []]),some (BC.tree [w4]),some (BC.tree [w5,w6]),some (BC.tree [w7]),some (BC.tree [w8]),some (BC.tree [w9])] ++ List.replicate 97 (none),[]⟩
def f8_2_S  (x0 x1 y2 y3 y4 w5 w6 w7 w8 w9 w10 w11:TV):ASt:=⟨[AV.one CA.junk,AV.one (CA.ptr 0 0),AV.one (CA.ptr 1 0),AV.one (CA.sref 2 0 []),AV.one CA.junk,AV.one (CA.ptr 3 0)] ++ List.replicate 40 (AV.one CA.junk) ++ [AV.one (CA.sref 2 0 []),AV.tv x0,AV.tv x1] ++ List.replicate 33 (AV.one CA.junk),[some (BC.cells [CA.t y2,CA.t y3,CA.t y4]),some (BC.cells [CA.junk,CA.junk,CA.junk,CA.junk,CA.junk,CA.junk]),some (BC.tree [w5]),some (BC.cells [CA.sref 4 0 [],CA.sref 5 0 [],CA.sref 5 1 [],CA.sref 6 0 [],CA.sref 7 0 [],CA.sref 8 0 []]),some (BC.tree [w6]),some (BC.tree [w7,w8]),some (BC.tree [w9]),some (BC.tree [w10]),some (BC.tree [w11])] ++ List.replicate 97 (none),[]⟩
def f8_3_S  (x0 x1 x2 x3 x4 y5 y6 y7 w8 w9 w10 w11 w12 w13 w14 w15:TV):ASt:=⟨[AV.one CA.junk,AV.one (CA.ptr 0 0),AV.one (CA.ptr 1 0),AV.one (CA.sref 2 0 []),AV.one CA.junk,AV.one (CA.ptr 3 0),AV.one CA.junk,AV.one CA.junk,AV.tv x0] ++ List.replicate 37 (AV.one CA.junk) ++ [AV.one (CA.sref 2 0 []),AV.tv x1,AV.tv x2] ++ List.replicate 5 (AV.one CA.junk) ++ [AV.one (CA.sref 4 0 []),AV.tv x3,AV.tv x4] ++ List.replicate 25 (AV.one CA.junk),[some (BC.cells [CA.t y5,CA.t y6,CA.t y7]),some (BC.cells [CA.junk,CA.junk,CA.junk,CA.junk,CA.junk,CA.junk]),some (BC.tree [w8]),some (BC.cells [CA.sref 5 0 [],CA.sref 6 0 [],CA.sref 6 1 [],CA.sref 7 0 [],CA.sref 8 0 [],CA.sref 9 0 []]),some (BC.tree [w9]),some (BC.tree [w10]),some (BC.tree [w11,w12]),some (BC.tree [w13]),some (BC.tree [w14]),some (BC.tree [w15])] ++ List.replicate 96 (none),[]⟩
def f8_4_S  (w0 w1 w2 w3 w4 w5 w6:TV):ASt:=⟨[AV.one CA.junk,AV.one CA.junk,AV.one (CA.ptr 0 0),AV.one (CA.sref 1 0 []),AV.one CA.junk,AV.one (CA.ptr 2 0)] ++ List.replicate 76 (AV.one CA.junk),[some (BC.cells [CA.junk,CA.junk,CA.junk,CA.junk,CA.junk,CA.junk]),some (BC.tree [w0]),some (BC.cells [CA.sref 3 0 [],CA.sref 4 0 [],CA.sref 4 1 [],CA.sref 5 0 [],CA.sref 6 0 [],CA.sref 7 0 []]),some (BC.tree [w1]),some (BC.tree [w2,w3]),some (BC.tree [w4]),some (BC.tree [w5]),some (BC.tree [w6])] ++ List.replicate 98 (none),[]⟩
def f8_5_S  (x0 w1 w2 w3 w4 w5 w6 w7:TV):ASt:=⟨[AV.one (CA.yl 0),AV.one (CA.ptr 0 0),AV.one CA.junk,AV.tv x0] ++ List.replicate 15 (AV.one CA.junk),[some (BC.cells [CA.sref 3 0 []]),some (BC.cells [CA.junk,CA.junk,CA.junk,CA.junk,CA.junk,CA.junk]),some (BC.cells [CA.sref 4 0 [],CA.sref 5 0 [],CA.sref 5 1 [],CA.sref 6 0 [],CA.sref 7 0 [],CA.sref 8 0 []]),some (BC.tree [w1]),some (BC.tree [w2]),some (BC.tree [w3,w4]),some (BC.tree [w5]),some (BC.tree [w6]),some (BC.tree [w7])] ++ List.replicate 116 (none),([AV.one CA.junk,AV.one CA.junk,AV.one (CA.ptr 1 0),AV.one CA.junk,AV.one CA.junk,AV.one (CA.ptr 2 0)] ++ List.replicate 69 (AV.one CA.junk) ++ [AV.clo 24 [CA.ptr 0 0]] ++ List.replicate 6 (AV.one CA.junk))⟩
def f8_6_S  (x0 w1 w2 w3 w4 w5 w6 w7 w8 x9:TV):ASt:=⟨[AV.one CA.junk,AV.tv x0,AV.one (CA.ptr 0 0),AV.one CA.junk,AV.one (CA.sref 1 0 [])] ++ List.replicate 47 (AV.one CA.junk),[some (BC.cells [CA.sref 5 0 [],CA.sref 6 0 [],CA.sref 6 1 [],CA.sref 7 0 [],CA.sref 8 0 [],CA.sref 9 0 []]),some (BC.tree [w1]),some (BC.cells [CA.junk,CA.junk,CA.junk,CA.junk,CA.junk,CA.junk]),some (BC.cells [CA.sref 5 0 [],CA.sref 6 0 [],CA.sref 6 1 [],CA.sref 7 0 [],CA.sref 8 0 [],CA.sref 9 0 []]),some (BC.cells [CA.sref 10 0 []]),some (BC.tree [w2]),some (BC.tree [w3,w4]),some (BC.tree [w5]),some (BC.tree [w6]),some (BC.tree [w7]),some (BC.tree [w8])] ++ List.replicate 248 (none),([AV.one CA.junk,AV.one CA.junk,AV.one (CA.ptr 2 0),AV.one CA.junk,AV.one CA.junk,AV.one (CA.ptr 3 0)] ++ List.replicate 69 (AV.one CA.junk) ++ [AV.clo 24 [CA.ptr 4 0]] ++ List.replicate 6 (AV.one CA.junk) ++ [AV.one (CA.yl 0),AV.one (CA.ptr 4 0),AV.one CA.junk,AV.tv x9] ++ List.replicate 97 (AV.one CA.junk))⟩
def f8_7_S  (x0 w1 w2 w3 w4 w5 w6 w7 w8 x9 x10 x11:TV):ASt:=⟨[AV.one CA.junk,AV.tv x0,AV.one (CA.ptr 0 0)] ++ List.replicate 28 (AV.one CA.junk),[some (BC.cells [CA.sref 6 0 [],CA.sref 7 0 [],CA.sref 7 1 [],CA.sref 8 0 [],CA.sref 9 0 [],CA.sref 10 0 []]),some (BC.cells [CA.junk,CA.junk,CA.junk,CA.junk,CA.junk,CA.junk]),some (BC.cells [CA.sref 6 0 [],CA.sref 7 0 [],CA.sref 7 1 [],CA.sref 8 0 [],CA.sref 9 0 [],CA.sref 10 0 []]),some (BC.cells [CA.sref 11 0 []]),some (BC.cells [CA.sref 6 0 [],CA.sref 7 0 [],CA.sref 7 1 [],CA.sref 8 0 [],CA.sref 9 0 [],CA.sref 10 0 []]),some (BC.tree [w1]),some (BC.tree [w2]),some (BC.tree [w3,w4]),some (BC.tree [w5]),some (BC.tree [w6]),some (BC.tree [w7]),some (BC.tree [w8])] ++ List.replicate 278 (none),([AV.one CA.junk,AV.one CA.junk,AV.one (CA.ptr 1 0),AV.one CA.junk,AV.one CA.junk,AV.one (CA.ptr 2 0)] ++ List.replicate 69 (AV.one CA.junk) ++ [AV.clo 24 [CA.ptr 3 0]] ++ List.replicate 6 (AV.one CA.junk) ++ [AV.one (CA.yl 0),AV.one (CA.ptr 3 0),AV.one CA.junk,AV.tv x9] ++ List.replicate 98 (AV.one CA.junk) ++ [AV.tv x10,AV.one (CA.ptr 4 0),AV.one CA.junk,AV.one (CA.sref 5 0 []),AV.tv x11] ++ List.replicate 46 (AV.one CA.junk))⟩
def f8_M (x0:TV):Prg TV :=
 chk (TV.isAgg x0 3) (
 call 10 [agg [cell x0 0,cell x0 1,cell x0 2]] fun v0 =>
 chk (fitsAt zSl [v0] 0) (
 tv (plen (.slice 34) (cell x0 2)) fun v1 =>
 nat (asNat v1) fun n2 =>
 nat (asNat v1) fun n3 =>
 chk (Bool.and (Nat.ble n2 n3) (Nat.ble n3 4294967296)) (
 call 11 [agg [cell x0 0,cell x0 1,cell x0 2],frz v0] fun v4 =>
 chk (Bool.and (TV.isAgg v4 2) (fitsAt z43 (cellsL true v4) 0)) (
 nat (asNat v1) fun n5 =>
 nat (asNat v1) fun n6 =>
 chk (Bool.and (Nat.ble n5 n6) (Nat.ble n6 4294967296)) (
 nat (asNat v1) fun n7 =>
 nat (asNat v1) fun n8 =>
 chk (Bool.and (Nat.ble n7 n8) (Nat.ble n8 4294967296)) (
 nat (asNat v1) fun n9 =>
 nat (asNat v1) fun n10 =>
 chk (Bool.and (Nat.ble n9 n10) (Nat.ble n10 4294967296)) (
 tv (plen (.slice 34) (cell x0 2)) fun v11 =>
 jmp [0,0,1,0,1,1,1] (f8_0_S v11 (I 0) (cell x0 0) (cell x0 1) (cell x0 2) v0 (TV.sl true 1 (List.replicate n2 [TV.lit nilV])) (cell v4 0) (cell v4 1) (TV.sl true 1 (List.replicate n5 [B false])) (TV.sl true 1 (List.replicate n7 [I 0])) (TV.sl true 1 (List.replicate n9 [I 0]))))))))))
def f8_0  (x0 x1 y2 y3 y4 w5 w6 w7 w8 w9 w10 w11:TV):Prg TV :=
 tv (pbin (.int .i64) .lss x1 x0) fun v12 =>
 Prg.ite (asBool v12) (
 nat (slLen w10) fun n13 =>
 nat (asNat x1) fun n14 =>
 chk (Bool.and (slSize w10 1) (Nat.blt n14 n13)) (
 tvs (pel w10 n14) fun e15 =>
 chk (fitsAt zInt e15 0) (
 tv (setC [] w10 n14 0 [TV.lit (Value.int IntKind.i64 (-1))]) fun v16 =>
 nat (slLen w11) fun n17 =>
 nat (asNat x1) fun n18 =>
 chk (Bool.and (slSize w11 1) (Nat.blt n18 n17)) (
 chk (TV.isOne x1) (
 tvs (pel w11 n18) fun e19 =>
 chk (fitsAt zInt e19 0) (
 tv (setC [] w11 n18 0 [x1]) fun v20 =>
 tv (pbin (.int .i64) .add x1 (I 1)) fun v21 =>
 jmp [0,0,1,0,1,1,1] (f8_0_S x0 v21 y2 y3 y4 w5 w6 w7 w8 w9 v16 v20))))))) (
 jmp [1,1,1,1] (f8_1_S y2 y3 y4 w5 w6 w7 w8 w9 w10 w11))
def f8_1  (y0 y1 y2 w3 w4 w5 w6 w7 w8 w9:TV):Prg TV :=
 tv (plen (.slice 3) w3) fun v22 =>
 jmp [0,0,1,0,1,1,1,1] (f8_2_S v22 (I 0) y0 y1 y2 w3 w4 w5 w6 w7 w8 w9)
def f8_2  (x0 x1 y2 y3 y4 w5 w6 w7 w8 w9 w10 w11:TV):Prg TV :=
 tv (pbin (.int .i64) .lss x1 x0) fun v23 =>
 Prg.ite (asBool v23) (
 nat (slLen w5) fun n24 =>
 nat (asNat x1) fun n25 =>
 chk (Bool.and (slSize w5 1) (Nat.blt n25 n24)) (
 tvs (pel w5 n25) fun e26 =>
 chk (fitsAt zInt e26 0) (
 call 12 [agg [y2,y3,y4],nth hole e26 0] fun v27 =>
 chk (fitsAt zSl [v27] 0) (
 tv (plen (.slice 3) v27) fun v28 =>
 jmp [0,0,1,1,0,0,1,1,0,0,1,0,1,1,1,1] (f8_3_S (nth hole e26 0) x0 x1 v28 (I 0) y2 y3 y4 w5 v27 w6 w7 w8 w9 w10 w11))))) (
 jmp [1,1,1,1,1] (f8_4_S w5 w6 w7 w8 w9 w10 w11))
def f8_3  (x0 x1 x2 x3 x4 y5 y6 y7 w8 w9 w10 w11 w12 w13 w14 w15:TV):Prg TV :=
 tv (pbin (.int .i64) .lss x4 x3) fun v29 =>
 Prg.ite (asBool v29) (
 nat (slLen w9) fun n30 =>
 nat (asNat x4) fun n31 =>
 chk (Bool.and (slSize w9 1) (Nat.blt n31 n30)) (
 tvs (pel w9 n31) fun e32 =>
 chk (fitsAt zInt e32 0) (
 nat (slLen w10) fun n33 =>
 nat (asNat (nth hole e32 0)) fun n34 =>
 chk (Bool.and (slSize w10 1) (Nat.blt n34 n33)) (
 tvs (pel w10 n34) fun e35 =>
 chk (fitsAt zSl e35 0) (
 chk (TV.isOne x0) (
 rws (pelems 1 (TV.sl true 1 (chunks 1 1 [x0]))) fun r36 =>
 tv (getP [(n34,0)] w10) fun v37 =>
 tv (papp 1 v37 (lfLL r36)) fun v38 =>
 tv (setP [(n34,0)] w10 hole) fun v39 =>
 nat (slLen v39) fun n40 =>
 nat (asNat (nth hole e32 0)) fun n41 =>
 chk (Bool.and (slSize v39 1) (Nat.blt n41 n40)) (
 tvs (pel v39 n41) fun e42 =>
 chk (Bool.and (fitsOld zSl e42 0) (fitsAt zSl [v38] 0)) (
 tv (setC [] v39 n41 0 [v38]) fun v43 =>
 tv (pbin (.int .i64) .add x4 (I 1)) fun v44 =>
 jmp [0,0,1,1,0,0,1,1,0,0,1,0,1,1,1,1] (f8_3_S x0 x1 x2 x3 v44 y5 y6 y7 w8 w9 v43 w11 w12 w13 w14 w15))))))))) (
 tv (pbin (.int .i64) .add x2 (I 1)) fun v45 =>
 jmp [0,0,1,0,1,1,1,1] (f8_2_S x1 v45 y5 y6 y7 w8 w10 w11 w12 w13 w14 w15))
def f8_4  (w0 w1 w2 w3 w4 w5 w6:TV):Prg TV :=
 tv (plen (.slice 3) w0) fun v46 =>
 tv (pbin (.int .i64) .sub v46 (I 1)) fun v47 =>
 jmp [0,0,1,24,0,1,0,1,1,1,1,1] (f8_5_S v47 w0 w1 w2 w3 w4 w5 w6)
def f8_5  (x0 w1 w2 w3 w4 w5 w6 w7:TV):Prg TV :=
 tv (pbin (.int .i64) .geq x0 (I 0)) fun v48 =>
 Prg.ite (asBool v48) (
 nat (slLen w1) fun n49 =>
 nat (asNat x0) fun n50 =>
 chk (Bool.and (slSize w1 1) (Nat.blt n50 n49)) (
 tvs (pel w1 n50) fun e51 =>
 chk (fitsAt zInt e51 0) (
 call 25 [agg [frz w2,frz w3,frz w4,frz w5,frz w6,frz w7],nth hole e51 0] fun v52 =>
 chk (fitsAt zSl [v52] 0) (
 tv (plen (.slice 3) v52) fun v53 =>
 tv (pbin (.int .i64) .gtr v53 (I 0)) fun v54 =>
 nat (slLen w5) fun n55 =>
 nat (asNat (nth hole e51 0)) fun n56 =>
 chk (Bool.and (slSize w5 1) (Nat.blt n56 n55)) (
 tvs (pel w5 n56) fun e57 =>
 chk (fitsAt zBool e57 0) (
 tv (setC [] w5 n56 0 [v54]) fun v58 =>
 jmp [0,0,1,1,1,6,0,2015,0,0,0,1,0,0,1,24,0,1,0,1,1,1,1,1] (f8_6_S (nth hole e51 0) v52 w2 w3 w4 v58 w6 w7 w1 x0))))))) (
 chk (isOwn (agg [w2,w3,w4,w5,w6,w7])) (
 ret (agg [w2,w3,w4,w5,w6,w7])))
def f8_6  (x0 w1 w2 w3 w4 w5 w6 w7 w8 x9:TV):Prg TV :=
 tv (plen (.slice 3) w1) fun v59 =>
 tv (pbin (.int .i64) .gtr v59 (I 0)) fun v60 =>
 Prg.ite (asBool v60) (
 tv (plen (.slice 3) w1) fun v61 =>
 tv (pbin (.int .i64) .sub v61 (I 1)) fun v62 =>
 nat (slLen w1) fun n63 =>
 nat (asNat v62) fun n64 =>
 chk (Bool.and (slSize w1 1) (Nat.blt n64 n63)) (
 tvs (pel w1 n64) fun e65 =>
 chk (fitsAt zInt e65 0) (
 jmp [0,0,0,1,12,0,1,0,1,0,0,1,1,1,6,0,2015,0,0,0,1,0,0,1,24,0,1,0,1,1,1,1,1] (f8_7_S (nth hole e65 0) w1 w2 w3 w4 w5 w6 w7 w8 x9 x0 v62)))) (
 tv (pbin (.int .i64) .sub x9 (I 1)) fun v66 =>
 jmp [0,0,1,24,0,1,0,1,1,1,1,1] (f8_5_S v66 w8 w2 w3 w4 w5 w6 w7))
def f8_7  (x0 w1 w2 w3 w4 w5 w6 w7 w8 x9 x10 x11:TV):Prg TV :=
 nat (slLen w7) fun n67 =>
 nat (asNat x0) fun n68 =>
 chk (Bool.and (slSize w7 1) (Nat.blt n68 n67)) (
 tvs (pel w7 n68) fun e69 =>
 chk (fitsAt zInt e69 0) (
 tv (pbin (.int .i64) .neq (nth hole e69 0) x0) fun v70 =>
 Prg.ite (asBool v70) (
 nat (slLen w7) fun n71 =>
 nat (asNat x0) fun n72 =>
 chk (Bool.and (slSize w7 1) (Nat.blt n72 n71)) (
 tvs (pel w7 n72) fun e73 =>
 chk (fitsAt zInt e73 0) (
 nat (slLen w7) fun n74 =>
 nat (asNat (nth hole e73 0)) fun n75 =>
 chk (Bool.and (slSize w7 1) (Nat.blt n75 n74)) (
 tvs (pel w7 n75) fun e76 =>
 chk (fitsAt zInt e76 0) (
 nat (slLen w7) fun n77 =>
 nat (asNat x0) fun n78 =>
 chk (Bool.and (slSize w7 1) (Nat.blt n78 n77)) (
 tvs (pel w7 n78) fun e79 =>
 chk (fitsAt zInt e79 0) (
 tv (setC [] w7 n78 0 [nth hole e76 0]) fun v80 =>
 nat (slLen v80) fun n81 =>
 nat (asNat x0) fun n82 =>
 chk (Bool.and (slSize v80 1) (Nat.blt n82 n81)) (
 tvs (pel v80 n82) fun e83 =>
 chk (fitsAt zInt e83 0) (
 jmp [0,0,0,1,12,0,1,0,1,0,0,1,1,1,6,0,2015,0,0,0,1,0,0,1,24,0,1,0,1,1,1,1,1] (f8_7_S (nth hole e83 0) w1 w2 w3 w4 w5 w6 v80 w8 x9 x10 x11)))))))))) (
 nat (slLen w1) fun n84 =>
 nat (asNat x11) fun n85 =>
 chk (Bool.and (Bool.and (slSize w1 1) (Nat.ble 0 (Option.getD (some n85) n84))) (Nat.ble (Option.getD (some n85) n84) n84)) (
 tv (pbin (.int .i64) .neq x0 x10) fun v86 =>
 Prg.ite (asBool v86) (
 nat (slLen w6) fun n87 =>
 nat (asNat x0) fun n88 =>
 chk (Bool.and (slSize w6 1) (Nat.blt n88 n87)) (
 chk (TV.isOne x10) (
 tvs (pel w6 n88) fun e89 =>
 chk (fitsAt zInt e89 0) (
 tv (setC [] w6 n88 0 [x10]) fun v90 =>
 nat (slLen w7) fun n91 =>
 nat (asNat x0) fun n92 =>
 chk (Bool.and (slSize w7 1) (Nat.blt n92 n91)) (
 chk (TV.isOne x10) (
 tvs (pel w7 n92) fun e93 =>
 chk (fitsAt zInt e93 0) (
 tv (setC [] w7 n92 0 [x10]) fun v94 =>
 nat (slLen w2) fun n95 =>
 nat (asNat x0) fun n96 =>
 chk (Bool.and (slSize w2 1) (Nat.blt n96 n95)) (
 tvs (pel w2 n96) fun e97 =>
 chk (fitsAt zSl e97 0) (
 tv (getP [(n96,0)] w2) fun v98 =>
 rws (pelems 1 v98) fun r99 =>
 tv (winP 0 ((Option.getD (some n85) n84) - 0) w1) fun v100 =>
 tv (papp 1 v100 (lfLL r99)) fun v101 =>
 jmp [0,0,1,1,1,6,0,2015,0,0,0,1,0,0,1,24,0,1,0,1,1,1,1,1] (f8_6_S x10 v101 w2 w3 w4 w5 v90 v94 w8 x9)))))))))) (
 tv (winP 0 ((Option.getD (some n85) n84) - 0) w1) fun v102 =>
 jmp [0,0,1,1,1,6,0,2015,0,0,0,1,0,0,1,24,0,1,0,1,1,1,1,1] (f8_6_S x10 v102 w2 w3 w4 w5 w6 w7 w8 x9))))))
theorem f8_MR (x0:TV):startQ prog 8 [x0]=f8_M x0:=by kernel_rfl
theorem f8_0_J  {x0 x1 y2 y3 y4 w5 w6 w7 w8 w9 w10 w11:TV} {r:TV} (h:Goes prog 8 (f8_0 x0 x1 y2 y3 y4 w5 w6 w7 w8 w9 w10 w11) r):Goes prog 8 (.jmp [0,0,1,0,1,1,1] (f8_0_S x0 x1 y2 y3 y4 w5 w6 w7 w8 w9 w10 w11)) r:=Goes.jmp (by kernel_rfl) h
theorem f8_1_J  {y0 y1 y2 w3 w4 w5 w6 w7 w8 w9:TV} {r:TV} (h:Goes prog 8 (f8_1 y0 y1 y2 w3 w4 w5 w6 w7 w8 w9) r):Goes prog 8 (.jmp [1,1,1,1] (f8_1_S y0 y1 y2 w3 w4 w5 w6 w7 w8 w9)) r:=Goes.jmp (by kernel_rfl) h
theorem f8_2_J  {x0 x1 y2 y3 y4 w5 w6 w7 w8 w9 w10 w11:TV} {r:TV} (h:Goes prog 8 (f8_2 x0 x1 y2 y3 y4 w5 w6 w7 w8 w9 w10 w11) r):Goes prog 8 (.jmp [0,0,1,0,1,1,1,1] (f8_2_S x0 x1 y2 y3 y4 w5 w6 w7 w8 w9 w10 w11)) r:=Goes.jmp (by kernel_rfl) h
theorem f8_3_J  {x0 x1 x2 x3 x4 y5 y6 y7 w8 w9 w10 w11 w12 w13 w14 w15:TV} {r:TV} (h:Goes prog 8 (f8_3 x0 x1 x2 x3 x4 y5 y6 y7 w8 w9 w10 w11 w12 w13 w14 w15) r):Goes prog 8 (.jmp [0,0,1,1,0,0,1,1,0,0,1,0,1,1,1,1] (f8_3_S x0 x1 x2 x3 x4 y5 y6 y7 w8 w9 w10 w11 w12 w13 w14 w15)) r:=Goes.jmp (by kernel_rfl) h
theorem f8_4_J  {w0 w1 w2 w3 w4 w5 w6:TV} {r:TV} (h:Goes prog 8 (f8_4 w0 w1 w2 w3 w4 w5 w6) r):Goes prog 8 (.jmp [1,1,1,1,1] (f8_4_S w0 w1 w2 w3 w4 w5 w6)) r:=Goes.jmp (by kernel_rfl) h
theorem f8_5_J  {x0 w1 w2 w3 w4 w5 w6 w7:TV} {r:TV} (h:Goes prog 8 (f8_5 x0 w1 w2 w3 w4 w5 w6 w7) r):Goes prog 8 (.jmp [0,0,1,24,0,1,0,1,1,1,1,1] (f8_5_S x0 w1 w2 w3 w4 w5 w6 w7)) r:=Goes.jmp (by kernel_rfl) h
theorem f8_6_J  {x0 w1 w2 w3 w4 w5 w6 w7 w8 x9:TV} {r:TV} (h:Goes prog 8 (f8_6 x0 w1 w2 w3 w4 w5 w6 w7 w8 x9) r):Goes prog 8 (.jmp [0,0,1,1,1,6,0,2015,0,0,0,1,0,0,1,24,0,1,0,1,1,1,1,1] (f8_6_S x0 w1 w2 w3 w4 w5 w6 w7 w8 x9)) r:=Goes.jmp (by kernel_rfl) h
theorem f8_7_J  {x0 w1 w2 w3 w4 w5 w6 w7 w8 x9 x10 x11:TV} {r:TV} (h:Goes prog 8 (f8_7 x0 w1 w2 w3 w4 w5 w6 w7 w8 x9 x10 x11) r):Goes prog 8 (.jmp [0,0,0,1,12,0,1,0,1,0,0,1,1,1,6,0,2015,0,0,0,1,0,0,1,24,0,1,0,1,1,1,1,1] (f8_7_S x0 w1 w2 w3 w4 w5 w6 w7 w8 x9 x10 x11)) r:=Goes.jmp (by kernel_rfl) h
def f10_0_S  (y0 y1 y2 w3 w4 w5:TV):ASt:=⟨[AV.one CA.junk,AV.one CA.junk,AV.one CA.junk,AV.one (CA.ptr 0 0)] ++ List.replicate 21 (AV.one CA.junk),[some (BC.cells [CA.t y0,CA.t y1,CA.t y2,CA.sref 1 0 [],CA.sref 2 0 [],CA.sref 3 0 []]),some (BC.tree [w3]),some (BC.tree [w4]),some (BC.tree [w5])] ++ List.replicate 45 (none),[]⟩
def f10_1_S  (x0 x1 w2 y3 y4 y5 w6 w7:TV):ASt:=⟨[AV.one (CA.sref 0 0 []),AV.one CA.junk,AV.tv x0,AV.tv x1] ++ List.replicate 24 (AV.one CA.junk),[some (BC.tree [w2]),some (BC.cells [CA.t y3,CA.t y4,CA.t y5,CA.sref 2 0 [],CA.sref 3 0 [],CA.sref 0 0 []]),some (BC.tree [w6]),some (BC.tree [w7])] ++ List.replicate 73 (none),([AV.one CA.junk,AV.one CA.junk,AV.one CA.junk,AV.one (CA.ptr 1 0)] ++ List.replicate 21 (AV.one CA.junk))⟩
def f10_M (x0:TV):Prg TV :=
 chk (TV.isAgg x0 3) (
 tv (plen (.slice 34) (cell x0 2)) fun v0 =>
 tv (pbin (.int .i64) .eql v0 (I 0)) fun v1 =>
 Prg.ite (asBool v1) (
 chk true (
 ret (TV.lit nilV))) (
 tv (plen (.slice 34) (cell x0 2)) fun v2 =>
 nat (asNat v2) fun n3 =>
 nat (asNat v2) fun n4 =>
 chk (Bool.and (Nat.ble n3 n4) (Nat.ble n4 4294967296)) (
 nat (slLen (TV.sl true 1 (List.replicate n3 [B false]))) fun n5 =>
 nat (asNat (I 0)) fun n6 =>
 chk (Bool.and (slSize (TV.sl true 1 (List.replicate n3 [B false])) 1) (Nat.blt n6 n5)) (
 tvs (pel (TV.sl true 1 (List.replicate n3 [B false])) n6) fun e7 =>
 chk (fitsAt zBool e7 0) (
 tv (setC [] (TV.sl true 1 (List.replicate n3 [B false])) n6 0 [B true]) fun v8 =>
 call 12 [agg [cell x0 0,cell x0 1,cell x0 2],I 0] fun v9 =>
 chk (fitsAt zSl [v9] 0) (
 rws (pelems 2 (TV.sl true 2 (chunks 2 1 [I 0,v9]))) fun r10 =>
 tv (papp 2 (TV.lit nilV) r10) fun v11 =>
 chk true (
 jmp [0,0,0,1,1,1,1] (f10_0_S (cell x0 0) (cell x0 1) (cell x0 2) v8 (coolT v11) (TV.lit nilV)))))))))
def f10_0  (y0 y1 y2 w3 w4 w5:TV):Prg TV :=
 tv (plen (.slice 72) w4) fun v12 =>
 tv (pbin (.int .i64) .gtr v12 (I 0)) fun v13 =>
 Prg.ite (asBool v13) (
 tv (plen (.slice 72) w4) fun v14 =>
 tv (pbin (.int .i64) .sub v14 (I 1)) fun v15 =>
 nat (slLen w4) fun n16 =>
 nat (asNat v15) fun n17 =>
 chk (Bool.and (slSize w4 2) (Nat.blt n17 n16)) (
 tvs (pel w4 n17) fun e18 =>
 chk (fitsAt zSl e18 1) (
 tv (getP [(n17,1)] w4) fun v19 =>
 tv (plen (.slice 3) v19) fun v20 =>
 tv (pbin (.int .i64) .eql v20 (I 0)) fun v21 =>
 Prg.ite (asBool v21) (
 tv (plen (.slice 72) w4) fun v22 =>
 tv (pbin (.int .i64) .sub v22 (I 1)) fun v23 =>
 nat (slLen w4) fun n24 =>
 nat (asNat v23) fun n25 =>
 chk (Bool.and (slSize w4 2) (Nat.blt n25 n24)) (
 tvs (pel w4 n25) fun e26 =>
 chk (fitsAt zInt e26 0) (
 rws (pelems 1 (TV.sl true 1 (chunks 1 1 [nth hole e26 0]))) fun r27 =>
 tv (papp 1 w5 (lfLL r27)) fun v28 =>
 nat (slLen w4) fun n29 =>
 nat (asNat v23) fun n30 =>
 chk (Bool.and (Bool.and (slSize w4 2) (Nat.ble 0 (Option.getD (some n30) n29))) (Nat.ble (Option.getD (some n30) n29) n29)) (
 tv (winP 0 ((Option.getD (some n30) n29) - 0) w4) fun v31 =>
 jmp [0,0,0,1,1,1,1] (f10_0_S y0 y1 y2 w3 (coolT v31) v28))))) (
 tvs (pel w4 n17) fun e32 =>
 chk (fitsAt zSl e32 1) (
 tv (getP [(n17,1)] w4) fun v33 =>
 nat (slLen v33) fun n34 =>
 nat (asNat (I 0)) fun n35 =>
 chk (Bool.and (slSize v33 1) (Nat.blt n35 n34)) (
 tv (getP [(n17,1)] w4) fun v36 =>
 tvs (pel v36 n35) fun e37 =>
 chk (fitsAt zInt e37 0) (
 tvs (pel w4 n17) fun e38 =>
 chk (fitsAt zSl e38 1) (
 tv (getP [(n17,1)] w4) fun v39 =>
 nat (slLen v39) fun n40 =>
 nat (asNat (I 1)) fun n41 =>
 chk (Bool.and (Bool.and (slSize v39 1) (Nat.ble (Option.getD (some n41) 0) (Option.getD none n40))) (Nat.ble (Option.getD none n40) n40)) (
 tv (getP [(n17,1)] w4) fun v42 =>
 tv (winP (Option.getD (some n41) 0) ((Option.getD none n40) - (Option.getD (some n41) 0)) v42) fun v43 =>
 chk (TV.isFr v43) (
 tvs (pel w4 n17) fun e44 =>
 chk (Bool.and (fitsOld zSl e44 1) (fitsAt zSl [v43] 0)) (
 tv (setC [] w4 n17 1 [v43]) fun v45 =>
 nat (slLen w3) fun n46 =>
 nat (asNat (nth hole e37 0)) fun n47 =>
 chk (Bool.and (slSize w3 1) (Nat.blt n47 n46)) (
 tvs (pel w3 n47) fun e48 =>
 chk (fitsAt zBool e48 0) (
 tv (pun .not (nth hole e48 0)) fun v49 =>
 Prg.ite (asBool v49) (
 nat (slLen w3) fun n50 =>
 nat (asNat (nth hole e37 0)) fun n51 =>
 chk (Bool.and (slSize w3 1) (Nat.blt n51 n50)) (
 tvs (pel w3 n51) fun e52 =>
 chk (fitsAt zBool e52 0) (
 tv (setC [] w3 n51 0 [B true]) fun v53 =>
 call 12 [agg [y0,y1,y2],nth hole e37 0] fun v54 =>
 chk (fitsAt zSl [v54] 0) (
 rws (pelems 2 (TV.sl true 2 (chunks 2 1 [nth hole e37 0,v54]))) fun r55 =>
 tv (papp 2 v45 r55) fun v56 =>
 jmp [0,0,0,1,1,1,1] (f10_0_S y0 y1 y2 v53 (coolT v56) w5))))) (
 jmp [0,0,0,1,1,1,1] (f10_0_S y0 y1 y2 w3 (coolT v45) w5))))))))))))))) (
 tv (plen (.slice 3) w5) fun v57 =>
 tv (pbin (.int .i64) .sub v57 (I 1)) fun v58 =>
 jmp [0,0,1,6,0,1,1,1,1,1] (f10_1_S (I 0) v58 w5 y0 y1 y2 w3 w4))
def f10_1  (x0 x1 w2 y3 y4 y5 w6 w7:TV):Prg TV :=
 tv (pbin (.int .i64) .lss x0 x1) fun v59 =>
 Prg.ite (asBool v59) (
 nat (slLen w2) fun n60 =>
 nat (asNat x1) fun n61 =>
 chk (Bool.and (slSize w2 1) (Nat.blt n61 n60)) (
 tvs (pel w2 n61) fun e62 =>
 chk (fitsAt zInt e62 0) (
 nat (slLen w2) fun n63 =>
 nat (asNat x0) fun n64 =>
 chk (Bool.and (slSize w2 1) (Nat.blt n64 n63)) (
 tvs (pel w2 n64) fun e65 =>
 chk (fitsAt zInt e65 0) (
 nat (slLen w2) fun n66 =>
 nat (asNat x0) fun n67 =>
 chk (Bool.and (slSize w2 1) (Nat.blt n67 n66)) (
 tvs (pel w2 n67) fun e68 =>
 chk (fitsAt zInt e68 0) (
 tv (setC [] w2 n67 0 [nth hole e62 0]) fun v69 =>
 nat (slLen v69) fun n70 =>
 nat (asNat x1) fun n71 =>
 chk (Bool.and (slSize v69 1) (Nat.blt n71 n70)) (
 tvs (pel v69 n71) fun e72 =>
 chk (fitsAt zInt e72 0) (
 tv (setC [] v69 n71 0 [nth hole e65 0]) fun v73 =>
 tv (pbin (.int .i64) .add x0 (I 1)) fun v74 =>
 tv (pbin (.int .i64) .sub x1 (I 1)) fun v75 =>
 jmp [0,0,1,6,0,1,1,1,1,1] (f10_1_S v74 v75 v73 y3 y4 y5 w6 w7)))))))))) (
 chk (isOwn w2) (
 ret w2))
theorem f10_MR (x0:TV):startQ prog 10 [x0]=f10_M x0:=by kernel_rfl
theorem f10_0_J  {y0 y1 y2 w3 w4 w5:TV} {r:TV} (h:Goes prog 10 (f10_0 y0 y1 y2 w3 w4 w5) r):Goes prog 10 (.jmp [0,0,0,1,1,1,1] (f10_0_S y0 y1 y2 w3 w4 w5)) r:=Goes.jmp (by kernel_rfl) h
theorem f10_1_J  {x0 x1 w2 y3 y4 y5 w6 w7:TV} {r:TV} (h:Goes prog 10 (f10_1 x0 x1 w2 y3 y4 y5 w6 w7) r):Goes prog 10 (.jmp [0,0,1,6,0,1,1,1,1,1] (f10_1_S x0 x1 w2 y3 y4 y5 w6 w7)) r:=Goes.jmp (by kernel_rfl) h
end Go.Ab.N10
end

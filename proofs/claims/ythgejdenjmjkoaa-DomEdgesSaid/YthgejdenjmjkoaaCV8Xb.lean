import Derived.Test.YthgejdenjmjkoaaCV8T
section
set_option linter.unusedVariables false
set_option maxRecDepth 100000
namespace Go.Ab.V8
open Go Go.Ab Go.Proofs
open Go.Ab.TV (hole cell comp isSl isSc isTup cellsL tup agg)
open Go.Ab.Prg (tv tvs rws nat chk call jmp ret)
def f5_0_S  (x0 y1 y2 y3 w4 w5:TV):ASt:=⟨[AV.one CA.junk,AV.one (CA.ptr 0 0),AV.one CA.junk,AV.one (CA.sref 1 0 []),AV.one (CA.sref 2 0 []),AV.tv x0] ++ List.replicate 132 (AV.one CA.junk),[some (BC.cells [CA.t y1,CA.t y2,CA.t y3]),some (BC.tree [w4]),some (BC.tree [w5])] ++ List.replicate 159 (none),[]⟩
def f5_1_S  (x0 y1 y2 y3 w4 w5:TV):ASt:=⟨[AV.one CA.junk,AV.one (CA.ptr 0 0),AV.one CA.junk,AV.one (CA.sref 1 0 []),AV.one (CA.sref 2 0 []),AV.tv x0] ++ List.replicate 132 (AV.one CA.junk),[some (BC.cells [CA.t y1,CA.t y2,CA.t y3]),some (BC.tree [w4]),some (BC.tree [w5])] ++ List.replicate 159 (none),[]⟩
def f5_2_S  (x0 x1 y2 y3 y4 w5 w6 w7:TV):ASt:=⟨[AV.one CA.junk,AV.one (CA.ptr 0 0),AV.one CA.junk,AV.one (CA.sref 1 0 []),AV.one (CA.sref 2 0 []),AV.tv x0,AV.one (CA.sref 3 0 []),AV.tv x1] ++ List.replicate 130 (AV.one CA.junk),[some (BC.cells [CA.t y2,CA.t y3,CA.t y4]),some (BC.tree [w5]),some (BC.tree [w6]),some (BC.tree [w7])] ++ List.replicate 158 (none),[]⟩
def f5_3_S  (x0 x1 y2 y3 y4 w5 w6 w7:TV):ASt:=⟨[AV.one CA.junk,AV.one (CA.ptr 0 0),AV.one CA.junk,AV.one (CA.sref 1 0 []),AV.one (CA.sref 2 0 []),AV.tv x0,AV.one (CA.sref 3 0 []),AV.tv x1] ++ List.replicate 130 (AV.one CA.junk),[some (BC.cells [CA.t y2,CA.t y3,CA.t y4]),some (BC.tree [w5]),some (BC.tree [w6]),some (BC.tree [w7])] ++ List.replicate 158 (none),[]⟩
def f5_4_S  (x0 y1 y2 y3 w4 w5:TV):ASt:=⟨[AV.one CA.junk,AV.one (CA.ptr 0 0),AV.one CA.junk,AV.one (CA.sref 1 0 []),AV.one (CA.sref 2 0 []),AV.tv x0] ++ List.replicate 132 (AV.one CA.junk),[some (BC.cells [CA.t y1,CA.t y2,CA.t y3]),some (BC.tree [w4]),some (BC.tree [w5])] ++ List.replicate 159 (none),[]⟩
def f5_5_S  (x0 x1 x2 y3 y4 y5 w6 w7 w8 w9:TV):ASt:=⟨[AV.one CA.junk,AV.one (CA.ptr 0 0),AV.one CA.junk,AV.one (CA.sref 1 0 []),AV.one (CA.sref 2 0 []),AV.tv x0,AV.one (CA.sref 3 0 []),AV.tv x1,AV.one (CA.sref 4 0 []),AV.tv x2] ++ List.replicate 128 (AV.one CA.junk),[some (BC.cells [CA.t y3,CA.t y4,CA.t y5]),some (BC.tree [w6]),some (BC.tree [w7]),some (BC.tree [w8]),some (BC.tree [w9])] ++ List.replicate 157 (none),[]⟩
def f5_M (x0:TV):Prg TV :=
 chk (TV.isAgg x0 3) (
 call 7 [] fun v0 =>
 chk (fitsAt zBool [v0] 0) (
 tv (pun .not v0) fun v1 =>
 Prg.ite (asBool v1) (
 ret (B false)) (
 tv (plen (.slice 44) (cell x0 2)) fun v2 =>
 tv (pbin (.int .i64) .gtr v2 (I 30)) fun v3 =>
 Prg.ite (asBool v3) (
 ret (B true)) (
 call 9 [agg [cell x0 0,cell x0 1,cell x0 2]] fun v4 =>
 chk (fitsAt zSl [v4] 0) (
 call 15 [agg [cell x0 0,cell x0 1,cell x0 2]] fun v5 =>
 chk (fitsAt zSl [v5] 0) (
 tv (plen (.slice 3) v4) fun v6 =>
 tv (plen (.slice 44) (cell x0 2)) fun v7 =>
 tv (pbin (.int .i64) .neq v6 v7) fun v8 =>
 Prg.ite (asBool v8) (
 ret (B false)) (
 jmp [0,0,1,0,1,1,1,1,1] (f5_0_S (I 0) (cell x0 0) (cell x0 1) (cell x0 2) v4 v5))))))))
def f5_0  (x0 y1 y2 y3 w4 w5:TV):Prg TV :=
 tv (plen (.slice 44) y3) fun v9 =>
 tv (pbin (.int .i64) .lss x0 v9) fun v10 =>
 Prg.ite (asBool v10) (
 nat (slLen w4) fun n11 =>
 nat (asNat x0) fun n12 =>
 chk (Bool.and (slSize w4 1) (Nat.blt n12 n11)) (
 tvs (pel w4 n12) fun e13 =>
 chk (fitsAt zInt e13 0) (
 tv (pbin (.int .i64) .geq (nth hole e13 0) (I 0)) fun v14 =>
 nat (slLen w5) fun n15 =>
 nat (asNat x0) fun n16 =>
 chk (Bool.and (slSize w5 1) (Nat.blt n16 n15)) (
 tvs (pel w5 n16) fun e17 =>
 chk (fitsAt zBool e17 0) (
 Prg.ite (asBool (nth hole e17 0)) (
 tv (pbin (.int .i64) .gtr x0 (I 0)) fun v18 =>
 tv (pbin Kd.bool .neq v14 v18) fun v19 =>
 Prg.ite (asBool v19) (
 ret (B false)) (
 jmp [1,0,0,1,0,0,1,0,1,1,1,1,1] (f5_1_S x0 y1 y2 y3 w4 w5))) (
 tv (pbin Kd.bool .neq v14 (B false)) fun v20 =>
 Prg.ite (asBool v20) (
 ret (B false)) (
 jmp [1,0,0,1,0,0,1,0,1,1,1,1,1] (f5_1_S x0 y1 y2 y3 w4 w5)))))))) (
 ret (B true))
def f5_1  (x0 y1 y2 y3 w4 w5:TV):Prg TV :=
 call 13 [agg [y1,y2,y3],x0] fun v21 =>
 chk (fitsAt zSl [v21] 0) (
 jmp [0,0,1,0,1,1,0,0,1,0,0,1,0,1,1,1,1,1] (f5_2_S x0 (I 0) y1 y2 y3 w4 w5 v21))
def f5_2  (x0 x1 y2 y3 y4 w5 w6 w7:TV):Prg TV :=
 tv (plen (.slice 44) y4) fun v22 =>
 tv (pbin (.int .i64) .lss x1 v22) fun v23 =>
 Prg.ite (asBool v23) (
 nat (slLen w5) fun n24 =>
 nat (asNat x0) fun n25 =>
 chk (Bool.and (slSize w5 1) (Nat.blt n25 n24)) (
 tvs (pel w5 n25) fun e26 =>
 chk (fitsAt zInt e26 0) (
 tv (pbin (.int .i64) .geq (nth hole e26 0) (I 0)) fun v27 =>
 Prg.ite (asBool v27) (
 tv (pbin (.int .i64) .neq x1 x0) fun v28 =>
 Prg.ite (asBool v28) (
 call 11 [agg [y2,y3,y4],x1,x0] fun v29 =>
 chk (fitsAt zBool [v29] 0) (
 Prg.ite (asBool v29) (
 nat (slLen w5) fun n30 =>
 nat (asNat x0) fun n31 =>
 chk (Bool.and (slSize w5 1) (Nat.blt n31 n30)) (
 tvs (pel w5 n31) fun e32 =>
 chk (fitsAt zInt e32 0) (
 call 11 [agg [y2,y3,y4],x1,nth hole e32 0] fun v33 =>
 chk (fitsAt zBool [v33] 0) (
 tv (pun .not v33) fun v34 =>
 Prg.ite (asBool v34) (
 ret (B false)) (
 jmp [1,0,0,1,0,0,1,0,1,1,0,0,1,0,0,1,0,1,1,1,1,1] (f5_3_S x0 x1 y2 y3 y4 w5 w6 w7)))))) (
 jmp [1,0,0,1,0,0,1,0,1,1,0,0,1,0,0,1,0,1,1,1,1,1] (f5_3_S x0 x1 y2 y3 y4 w5 w6 w7)))) (
 jmp [1,0,0,1,0,0,1,0,1,1,0,0,1,0,0,1,0,1,1,1,1,1] (f5_3_S x0 x1 y2 y3 y4 w5 w6 w7))) (
 jmp [1,0,0,1,0,0,1,0,1,1,0,0,1,0,0,1,0,1,1,1,1,1] (f5_3_S x0 x1 y2 y3 y4 w5 w6 w7))))) (
 jmp [1,1,1,0,0,1,0,0,1,0,1,1,1,1,1] (f5_4_S x0 y2 y3 y4 w5 w6))
def f5_3  (x0 x1 y2 y3 y4 w5 w6 w7:TV):Prg TV :=
 call 16 [agg [y2,y3,y4],x1] fun v35 =>
 chk (fitsAt zSl [v35] 0) (
 jmp [0,0,1,1,1,0,0,1,0,0,1,0,1,1,0,0,1,0,0,1,0,1,1,1,1,1] (f5_5_S x0 x1 (I 0) y2 y3 y4 w5 w6 w7 v35))
def f5_4  (x0 y1 y2 y3 w4 w5:TV):Prg TV :=
 nat (slLen w4) fun n36 =>
 nat (asNat x0) fun n37 =>
 chk (Bool.and (slSize w4 1) (Nat.blt n37 n36)) (
 tvs (pel w4 n37) fun e38 =>
 chk (fitsAt zInt e38 0) (
 tv (pbin (.int .i64) .geq (nth hole e38 0) (I 0)) fun v39 =>
 Prg.ite (asBool v39) (
 nat (slLen w4) fun n40 =>
 nat (asNat x0) fun n41 =>
 chk (Bool.and (slSize w4 1) (Nat.blt n41 n40)) (
 tvs (pel w4 n41) fun e42 =>
 chk (fitsAt zInt e42 0) (
 call 11 [agg [y1,y2,y3],nth hole e42 0,x0] fun v43 =>
 chk (fitsAt zBool [v43] 0) (
 tv (pun .not v43) fun v44 =>
 Prg.ite (asBool v44) (
 ret (B false)) (
 tv (pbin (.int .i64) .add x0 (I 1)) fun v45 =>
 jmp [0,0,1,0,1,1,1,1,1] (f5_0_S v45 y1 y2 y3 w4 w5)))))) (
 tv (pbin (.int .i64) .add x0 (I 1)) fun v46 =>
 jmp [0,0,1,0,1,1,1,1,1] (f5_0_S v46 y1 y2 y3 w4 w5))))
def f5_5  (x0 x1 x2 y3 y4 y5 w6 w7 w8 w9:TV):Prg TV :=
 tv (plen (.slice 3) w9) fun v47 =>
 tv (pbin (.int .i64) .lss x2 v47) fun v48 =>
 Prg.ite (asBool v48) (
 call 11 [agg [y3,y4,y5],x0,x1] fun v49 =>
 chk (fitsAt zBool [v49] 0) (
 Prg.ite (asBool v49) (
 nat (slLen w9) fun n50 =>
 nat (asNat x2) fun n51 =>
 chk (Bool.and (slSize w9 1) (Nat.blt n51 n50)) (
 tvs (pel w9 n51) fun e52 =>
 chk (fitsAt zInt e52 0) (
 tv (pbin (.int .i64) .eql (nth hole e52 0) x0) fun v53 =>
 Prg.ite (asBool v53) (
 nat (slLen w9) fun n54 =>
 nat (asNat x2) fun n55 =>
 chk (Bool.and (slSize w9 1) (Nat.blt n55 n54)) (
 tvs (pel w9 n55) fun e56 =>
 chk (fitsAt zInt e56 0) (
 call 17 [frz w8,nth hole e56 0] fun v57 =>
 chk (fitsAt zBool [v57] 0) (
 tv (pun .not v57) fun v58 =>
 Prg.ite (asBool v58) (
 ret (B false)) (
 tv (pbin (.int .i64) .add x2 (I 1)) fun v59 =>
 jmp [0,0,1,1,1,0,0,1,0,0,1,0,1,1,0,0,1,0,0,1,0,1,1,1,1,1] (f5_5_S x0 x1 v59 y3 y4 y5 w6 w7 w8 w9)))))) (
 nat (slLen w9) fun n60 =>
 nat (asNat x2) fun n61 =>
 chk (Bool.and (slSize w9 1) (Nat.blt n61 n60)) (
 tvs (pel w9 n61) fun e62 =>
 chk (fitsAt zInt e62 0) (
 call 11 [agg [y3,y4,y5],x0,nth hole e62 0] fun v63 =>
 chk (fitsAt zBool [v63] 0) (
 tv (pun .not v63) fun v64 =>
 Prg.ite (asBool v64) (
 nat (slLen w9) fun n65 =>
 nat (asNat x2) fun n66 =>
 chk (Bool.and (slSize w9 1) (Nat.blt n66 n65)) (
 tvs (pel w9 n66) fun e67 =>
 chk (fitsAt zInt e67 0) (
 call 17 [frz w8,nth hole e67 0] fun v68 =>
 chk (fitsAt zBool [v68] 0) (
 tv (pun .not v68) fun v69 =>
 Prg.ite (asBool v69) (
 ret (B false)) (
 tv (pbin (.int .i64) .add x2 (I 1)) fun v70 =>
 jmp [0,0,1,1,1,0,0,1,0,0,1,0,1,1,0,0,1,0,0,1,0,1,1,1,1,1] (f5_5_S x0 x1 v70 y3 y4 y5 w6 w7 w8 w9)))))) (
 tv (pbin (.int .i64) .add x2 (I 1)) fun v71 =>
 jmp [0,0,1,1,1,0,0,1,0,0,1,0,1,1,0,0,1,0,0,1,0,1,1,1,1,1] (f5_5_S x0 x1 v71 y3 y4 y5 w6 w7 w8 w9))))))))) (
 tv (pbin (.int .i64) .add x2 (I 1)) fun v72 =>
 jmp [0,0,1,1,1,0,0,1,0,0,1,0,1,1,0,0,1,0,0,1,0,1,1,1,1,1] (f5_5_S x0 x1 v72 y3 y4 y5 w6 w7 w8 w9)))) (
 tv (pbin (.int .i64) .add x1 (I 1)) fun v73 =>
 jmp [0,0,1,0,1,1,0,0,1,0,0,1,0,1,1,1,1,1] (f5_2_S x0 v73 y3 y4 y5 w6 w7 w8))
theorem f5_MR (x0:TV):startQ prog 5 [x0]=f5_M x0:=by kernel_rfl
theorem f5_0_J  {x0 y1 y2 y3 w4 w5:TV} {r:TV} (h:Goes prog 5 (f5_0 x0 y1 y2 y3 w4 w5) r):Goes prog 5 (.jmp [0,0,1,0,1,1,1,1,1] (f5_0_S x0 y1 y2 y3 w4 w5)) r:=Goes.jmp (by kernel_rfl) h
theorem f5_1_J  {x0 y1 y2 y3 w4 w5:TV} {r:TV} (h:Goes prog 5 (f5_1 x0 y1 y2 y3 w4 w5) r):Goes prog 5 (.jmp [1,0,0,1,0,0,1,0,1,1,1,1,1] (f5_1_S x0 y1 y2 y3 w4 w5)) r:=Goes.jmp (by kernel_rfl) h
theorem f5_2_J  {x0 x1 y2 y3 y4 w5 w6 w7:TV} {r:TV} (h:Goes prog 5 (f5_2 x0 x1 y2 y3 y4 w5 w6 w7) r):Goes prog 5 (.jmp [0,0,1,0,1,1,0,0,1,0,0,1,0,1,1,1,1,1] (f5_2_S x0 x1 y2 y3 y4 w5 w6 w7)) r:=Goes.jmp (by kernel_rfl) h
theorem f5_3_J  {x0 x1 y2 y3 y4 w5 w6 w7:TV} {r:TV} (h:Goes prog 5 (f5_3 x0 x1 y2 y3 y4 w5 w6 w7) r):Goes prog 5 (.jmp [1,0,0,1,0,0,1,0,1,1,0,0,1,0,0,1,0,1,1,1,1,1] (f5_3_S x0 x1 y2 y3 y4 w5 w6 w7)) r:=Goes.jmp (by kernel_rfl) h
theorem f5_4_J  {x0 y1 y2 y3 w4 w5:TV} {r:TV} (h:Goes prog 5 (f5_4 x0 y1 y2 y3 w4 w5) r):Goes prog 5 (.jmp [1,1,1,0,0,1,0,0,1,0,1,1,1,1,1] (f5_4_S x0 y1 y2 y3 w4 w5)) r:=Goes.jmp (by kernel_rfl) h
theorem f5_5_J  {x0 x1 x2 y3 y4 y5 w6 w7 w8 w9:TV} {r:TV} (h:Goes prog 5 (f5_5 x0 x1 x2 y3 y4 y5 w6 w7 w8 w9) r):Goes prog 5 (.jmp [0,0,1,1,1,0,0,1,0,0,1,0,1,1,0,0,1,0,0,1,0,1,1,1,1,1] (f5_5_S x0 x1 x2 y3 y4 y5 w6 w7 w8 w9)) r:=Goes.jmp (by kernel_rfl) h
def f7_M:Prg TV :=
 call 9 [agg [I 0,I 1,frz (TV.sl true 14 (chunks 14 4 [B false,I 0,TV.lit nilV,B false,B false,TV.lit nilV,I 3,I 0,I 0,I 0,TV.lit nilV,I 1,I 2,I 0,B false,I 0,TV.lit nilV,B false,B false,TV.lit nilV,I 2,I 0,I 0,I 0,TV.lit nilV,I 3,I 0,I 0,B false,I 0,TV.lit nilV,B false,B false,TV.lit nilV,I 2,I 0,I 0,I 0,TV.lit nilV,I 3,I 0,I 0,B false,I 0,TV.lit nilV,B false,B false,TV.lit nilV,I 1,I 0,I 0,I 0,TV.lit nilV,I 0,I 0,I 0]))]] fun v0 =>
 chk (fitsAt zSl [v0] 0) (
 call 8 [frz v0,frz (TV.sl true 1 (chunks 1 4 [TV.lit (Value.int IntKind.i64 (-1)),I 0,I 0,I 0]))] fun v1 =>
 chk (fitsAt zBool [v1] 0) (
 Prg.ite (asBool v1) (
 call 13 [agg [I 0,I 1,frz (TV.sl true 14 (chunks 14 4 [B false,I 0,TV.lit nilV,B false,B false,TV.lit nilV,I 3,I 0,I 0,I 0,TV.lit nilV,I 1,I 2,I 0,B false,I 0,TV.lit nilV,B false,B false,TV.lit nilV,I 2,I 0,I 0,I 0,TV.lit nilV,I 3,I 0,I 0,B false,I 0,TV.lit nilV,B false,B false,TV.lit nilV,I 2,I 0,I 0,I 0,TV.lit nilV,I 3,I 0,I 0,B false,I 0,TV.lit nilV,B false,B false,TV.lit nilV,I 1,I 0,I 0,I 0,TV.lit nilV,I 0,I 0,I 0]))],I 1] fun v2 =>
 chk (fitsAt zSl [v2] 0) (
 call 8 [frz v2,frz (TV.sl true 1 (chunks 1 1 [I 3]))] fun v3 =>
 chk (fitsAt zBool [v3] 0) (
 Prg.ite (asBool v3) (
 call 11 [agg [I 0,I 1,frz (TV.sl true 14 (chunks 14 4 [B false,I 0,TV.lit nilV,B false,B false,TV.lit nilV,I 3,I 0,I 0,I 0,TV.lit nilV,I 1,I 2,I 0,B false,I 0,TV.lit nilV,B false,B false,TV.lit nilV,I 2,I 0,I 0,I 0,TV.lit nilV,I 3,I 0,I 0,B false,I 0,TV.lit nilV,B false,B false,TV.lit nilV,I 2,I 0,I 0,I 0,TV.lit nilV,I 3,I 0,I 0,B false,I 0,TV.lit nilV,B false,B false,TV.lit nilV,I 1,I 0,I 0,I 0,TV.lit nilV,I 0,I 0,I 0]))],I 0,I 3] fun v4 =>
 chk (fitsAt zBool [v4] 0) (
 Prg.ite (asBool v4) (
 call 11 [agg [I 0,I 1,frz (TV.sl true 14 (chunks 14 4 [B false,I 0,TV.lit nilV,B false,B false,TV.lit nilV,I 3,I 0,I 0,I 0,TV.lit nilV,I 1,I 2,I 0,B false,I 0,TV.lit nilV,B false,B false,TV.lit nilV,I 2,I 0,I 0,I 0,TV.lit nilV,I 3,I 0,I 0,B false,I 0,TV.lit nilV,B false,B false,TV.lit nilV,I 2,I 0,I 0,I 0,TV.lit nilV,I 3,I 0,I 0,B false,I 0,TV.lit nilV,B false,B false,TV.lit nilV,I 1,I 0,I 0,I 0,TV.lit nilV,I 0,I 0,I 0]))],I 1,I 3] fun v5 =>
 chk (fitsAt zBool [v5] 0) (
 tv (pun .not v5) fun v6 =>
 ret v6)) (
 ret (B false)))) (
 ret (B false))))) (
 ret (B false))))
theorem f7_MR:startQ prog 7 []=f7_M  := by kernel_rfl
end Go.Ab.V8
end
section
set_option linter.unusedVariables false
set_option maxRecDepth 100000
namespace Go.Ab.V8
open Go Go.Ab Go.Proofs
open Go.Ab.TV (hole cell comp isSl isSc isTup cellsL tup agg)
open Go.Ab.Prg (tv tvs rws nat chk call jmp ret)
def f8_0_S  (x0 x1 x2:TV):ASt:=⟨[AV.tv x0,AV.tv x1,AV.one CA.junk,AV.one CA.junk,AV.one CA.junk,AV.tv x2] ++ List.replicate 20 (AV.one CA.junk),List.replicate 50 (none),[]⟩
def f8_M (x0 x1:TV):Prg TV :=
 tv (plen (.slice 3) x0) fun v0 =>
 tv (plen (.slice 3) x1) fun v1 =>
 tv (pbin (.int .i64) .neq v0 v1) fun v2 =>
 Prg.ite (asBool v2) (
 ret (B false)) (
 jmp [0,0,1,0,1,1] (f8_0_S x0 x1 (I 0)))
def f8_0  (x0 x1 x2:TV):Prg TV :=
 tv (plen (.slice 3) x0) fun v3 =>
 tv (pbin (.int .i64) .lss x2 v3) fun v4 =>
 Prg.ite (asBool v4) (
 tvs (pidx 1 x0 x2) fun e5 =>
 chk (Nat.blt 0 (List.length e5)) (
 tvs (pidx 1 x1 x2) fun e6 =>
 chk (Nat.blt 0 (List.length e6)) (
 tv (pbin (.int .i64) .neq (nth hole e5 0) (nth hole e6 0)) fun v7 =>
 Prg.ite (asBool v7) (
 ret (B false)) (
 tv (pbin (.int .i64) .add x2 (I 1)) fun v8 =>
 jmp [0,0,1,0,1,1] (f8_0_S x0 x1 v8))))) (
 ret (B true))
theorem f8_MR (x0 x1:TV):startQ prog 8 [x0,x1]=f8_M x0 x1:=by kernel_rfl
theorem f8_0_J  {x0 x1 x2:TV} {r:TV} (h:Goes prog 8 (f8_0 x0 x1 x2) r):Goes prog 8 (.jmp [0,0,1,0,1,1] (f8_0_S x0 x1 x2)) r:=Goes.jmp (by kernel_rfl) h
def f9_0_S  (y0 y1 y2 w3 w4 w5:TV):ASt:=⟨[AV.one CA.junk,AV.one (CA.ptr 0 0),AV.one CA.junk,AV.one (CA.ptr 1 0)] ++ List.replicate 44 (AV.one CA.junk),[some (BC.cells [CA.t y0,CA.t y1,CA.t y2]),some (BC.cells [CA.sref 2 0 [],CA.sref 2 1 [],CA.sref 2 2 []]),some (BC.tree [w3,w4,w5])] ++ List.replicate 69 (none),[]⟩
def f9_1_S  (x0 x1 y2 y3 y4 w5 w6 w7:TV):ASt:=⟨[AV.one CA.junk,AV.one (CA.ptr 0 0),AV.one CA.junk,AV.tv x0,AV.tv x1] ++ List.replicate 28 (AV.one CA.junk),[some (BC.cells [CA.sref 3 0 [],CA.sref 3 1 [],CA.sref 3 2 []]),some (BC.cells [CA.t y2,CA.t y3,CA.t y4]),some (BC.cells [CA.sref 3 0 [],CA.sref 3 1 [],CA.sref 3 2 []]),some (BC.tree [w5,w6,w7])] ++ List.replicate 101 (none),([AV.one CA.junk,AV.one (CA.ptr 1 0),AV.one CA.junk,AV.one (CA.ptr 2 0)] ++ List.replicate 44 (AV.one CA.junk))⟩
def f9_2_S  (y0 y1 y2 w3 w4 w5:TV):ASt:=⟨[AV.one CA.junk,AV.one (CA.ptr 0 0),AV.one CA.junk,AV.one (CA.ptr 1 0)] ++ List.replicate 44 (AV.one CA.junk),[some (BC.cells [CA.t y0,CA.t y1,CA.t y2]),some (BC.cells [CA.sref 2 0 [],CA.sref 2 1 [],CA.sref 2 2 []]),some (BC.tree [w3,w4,w5])] ++ List.replicate 69 (none),[]⟩
def f9_3_S  (x0 x1 w2 w3 w4 w5:TV):ASt:=⟨[AV.one CA.junk,AV.one CA.junk,AV.one CA.junk,AV.one (CA.ptr 0 0),AV.one (CA.sref 1 0 [])] ++ List.replicate 11 (AV.one CA.junk) ++ [AV.tv x0,AV.tv x1] ++ List.replicate 30 (AV.one CA.junk),[some (BC.cells [CA.sref 2 0 [],CA.sref 2 1 [],CA.sref 2 2 []]),some (BC.tree [w2]),some (BC.tree [w3,w4,w5])] ++ List.replicate 69 (none),[]⟩
def f9_4_S  (w0 w1 w2 w3:TV):ASt:=⟨[AV.one CA.junk,AV.one CA.junk,AV.one CA.junk,AV.one (CA.ptr 0 0),AV.one (CA.sref 1 0 [])] ++ List.replicate 43 (AV.one CA.junk),[some (BC.cells [CA.sref 2 0 [],CA.sref 2 1 [],CA.sref 2 2 []]),some (BC.tree [w0]),some (BC.tree [w1,w2,w3])] ++ List.replicate 69 (none),[]⟩
def f9_5_S  (x0 w1 w2 w3 w4:TV):ASt:=⟨[AV.one CA.junk,AV.one CA.junk,AV.one CA.junk,AV.one (CA.ptr 0 0),AV.one (CA.sref 1 0 []),AV.one CA.junk,AV.tv x0] ++ List.replicate 41 (AV.one CA.junk),[some (BC.cells [CA.sref 2 0 [],CA.sref 2 1 [],CA.sref 2 2 []]),some (BC.tree [w1]),some (BC.tree [w2,w3,w4])] ++ List.replicate 69 (none),[]⟩
def f9_M (x0:TV):Prg TV :=
 chk (TV.isAgg x0 3) (
 call 18 [agg [cell x0 0,cell x0 1,cell x0 2]] fun v0 =>
 chk (Bool.and (TV.isAgg v0 3) (fitsAt z46 (cellsL true v0) 0)) (
 jmp [0,0,0,1,1] (f9_0_S (cell x0 0) (cell x0 1) (cell x0 2) (cell v0 0) (cell v0 1) (cell v0 2))))
def f9_0  (y0 y1 y2 w3 w4 w5:TV):Prg TV :=
 jmp [0,0,1,0,1,1,3,0,0,0,0,0,1,1] (f9_1_S (B false) (I 1) y0 y1 y2 w3 w4 w5)
def f9_1  (x0 x1 y2 y3 y4 w5 w6 w7:TV):Prg TV :=
 tv (plen (.slice 3) w7) fun v1 =>
 tv (pbin (.int .i64) .lss x1 v1) fun v2 =>
 Prg.ite (asBool v2) (
 nat (slLen w6) fun n3 =>
 nat (asNat x1) fun n4 =>
 chk (Bool.and (slSize w6 1) (Nat.blt n4 n3)) (
 tvs (pel w6 n4) fun e5 =>
 chk (fitsAt zSl e5 0) (
 tv (getP [(n4,0)] w6) fun v6 =>
 call 31 [agg [frz w5,frz w6,frz w7],frz v6] fun v7 =>
 chk (fitsAt zInt [v7] 0) (
 nat (slLen w7) fun n8 =>
 nat (asNat x1) fun n9 =>
 chk (Bool.and (slSize w7 1) (Nat.blt n9 n8)) (
 tvs (pel w7 n9) fun e10 =>
 chk (fitsAt zInt e10 0) (
 tv (pbin (.int .i64) .neq v7 (nth hole e10 0)) fun v11 =>
 Prg.ite (asBool v11) (
 nat (slLen w7) fun n12 =>
 nat (asNat x1) fun n13 =>
 chk (Bool.and (slSize w7 1) (Nat.blt n13 n12)) (
 tvs (pel w7 n13) fun e14 =>
 chk (fitsAt zInt e14 0) (
 tv (setC [] w7 n13 0 [v7]) fun v15 =>
 tv (pbin (.int .i64) .add x1 (I 1)) fun v16 =>
 jmp [0,0,1,0,1,1,3,0,0,0,0,0,1,1] (f9_1_S (B true) v16 y2 y3 y4 w5 w6 v15)))) (
 tv (pbin (.int .i64) .add x1 (I 1)) fun v17 =>
 jmp [0,0,1,0,1,1,3,0,0,0,0,0,1,1] (f9_1_S x0 v17 y2 y3 y4 w5 w6 w7)))))))) (
 Prg.ite (asBool x0) (
 jmp [0,0,0,1,1] (f9_0_S y2 y3 y4 w5 w6 w7)) (
 jmp [1,1,1] (f9_2_S y2 y3 y4 w5 w6 w7)))
def f9_2  (y0 y1 y2 w3 w4 w5:TV):Prg TV :=
 tv (plen (.slice 44) y2) fun v18 =>
 nat (asNat v18) fun n19 =>
 nat (asNat v18) fun n20 =>
 chk (Bool.and (Nat.ble n19 n20) (Nat.ble n20 4294967296)) (
 tv (plen (.slice 3) (TV.sl true 1 (List.replicate n19 [I 0]))) fun v21 =>
 jmp [0,0,1,0,1,1,1,1] (f9_3_S v21 (I 0) (TV.sl true 1 (List.replicate n19 [I 0])) w3 w4 w5))
def f9_3  (x0 x1 w2 w3 w4 w5:TV):Prg TV :=
 tv (pbin (.int .i64) .lss x1 x0) fun v22 =>
 Prg.ite (asBool v22) (
 nat (slLen w2) fun n23 =>
 nat (asNat x1) fun n24 =>
 chk (Bool.and (slSize w2 1) (Nat.blt n24 n23)) (
 tvs (pel w2 n24) fun e25 =>
 chk (fitsAt zInt e25 0) (
 tv (setC [] w2 n24 0 [TV.lit (Value.int IntKind.i64 (-1))]) fun v26 =>
 tv (pbin (.int .i64) .add x1 (I 1)) fun v27 =>
 jmp [0,0,1,0,1,1,1,1] (f9_3_S x0 v27 v26 w3 w4 w5)))) (
 jmp [1,1,1,1,1] (f9_4_S w2 w3 w4 w5))
def f9_4  (w0 w1 w2 w3:TV):Prg TV :=
 jmp [0,0,1,0,1,1,1,1,1] (f9_5_S (I 1) w0 w1 w2 w3)
def f9_5  (x0 w1 w2 w3 w4:TV):Prg TV :=
 tv (plen (.slice 3) w2) fun v28 =>
 tv (pbin (.int .i64) .lss x0 v28) fun v29 =>
 Prg.ite (asBool v29) (
 nat (slLen w2) fun n30 =>
 nat (asNat x0) fun n31 =>
 chk (Bool.and (slSize w2 1) (Nat.blt n31 n30)) (
 tvs (pel w2 n31) fun e32 =>
 chk (fitsAt zInt e32 0) (
 nat (slLen w4) fun n33 =>
 nat (asNat x0) fun n34 =>
 chk (Bool.and (slSize w4 1) (Nat.blt n34 n33)) (
 tvs (pel w4 n34) fun e35 =>
 chk (fitsAt zInt e35 0) (
 nat (slLen w2) fun n36 =>
 nat (asNat (nth hole e35 0)) fun n37 =>
 chk (Bool.and (slSize w2 1) (Nat.blt n37 n36)) (
 tvs (pel w2 n37) fun e38 =>
 chk (fitsAt zInt e38 0) (
 nat (slLen w1) fun n39 =>
 nat (asNat (nth hole e32 0)) fun n40 =>
 chk (Bool.and (slSize w1 1) (Nat.blt n40 n39)) (
 tvs (pel w1 n40) fun e41 =>
 chk (fitsAt zInt e41 0) (
 tv (setC [] w1 n40 0 [nth hole e38 0]) fun v42 =>
 tv (pbin (.int .i64) .add x0 (I 1)) fun v43 =>
 jmp [0,0,1,0,1,1,1,1,1] (f9_5_S v43 v42 w2 w3 w4)))))))))) (
 chk (isOwn w1) (
 ret w1))
theorem f9_MR (x0:TV):startQ prog 9 [x0]=f9_M x0:=by kernel_rfl
theorem f9_0_J  {y0 y1 y2 w3 w4 w5:TV} {r:TV} (h:Goes prog 9 (f9_0 y0 y1 y2 w3 w4 w5) r):Goes prog 9 (.jmp [0,0,0,1,1] (f9_0_S y0 y1 y2 w3 w4 w5)) r:=Goes.jmp (by kernel_rfl) h
theorem f9_1_J  {x0 x1 y2 y3 y4 w5 w6 w7:TV} {r:TV} (h:Goes prog 9 (f9_1 x0 x1 y2 y3 y4 w5 w6 w7) r):Goes prog 9 (.jmp [0,0,1,0,1,1,3,0,0,0,0,0,1,1] (f9_1_S x0 x1 y2 y3 y4 w5 w6 w7)) r:=Goes.jmp (by kernel_rfl) h
theorem f9_2_J  {y0 y1 y2 w3 w4 w5:TV} {r:TV} (h:Goes prog 9 (f9_2 y0 y1 y2 w3 w4 w5) r):Goes prog 9 (.jmp [1,1,1] (f9_2_S y0 y1 y2 w3 w4 w5)) r:=Goes.jmp (by kernel_rfl) h
theorem f9_3_J  {x0 x1 w2 w3 w4 w5:TV} {r:TV} (h:Goes prog 9 (f9_3 x0 x1 w2 w3 w4 w5) r):Goes prog 9 (.jmp [0,0,1,0,1,1,1,1] (f9_3_S x0 x1 w2 w3 w4 w5)) r:=Goes.jmp (by kernel_rfl) h
theorem f9_4_J  {w0 w1 w2 w3:TV} {r:TV} (h:Goes prog 9 (f9_4 w0 w1 w2 w3) r):Goes prog 9 (.jmp [1,1,1,1,1] (f9_4_S w0 w1 w2 w3)) r:=Goes.jmp (by kernel_rfl) h
theorem f9_5_J  {x0 w1 w2 w3 w4:TV} {r:TV} (h:Goes prog 9 (f9_5 x0 w1 w2 w3 w4) r):Goes prog 9 (.jmp [0,0,1,0,1,1,1,1,1] (f9_5_S x0 w1 w2 w3 w4)) r:=Goes.jmp (by kernel_rfl) h
def f11_M (x0 x1 x2:TV):Prg TV :=
 chk (TV.isAgg x0 3) (
 call 21 [agg [cell x0 0,cell x0 1,cell x0 2],x1] fun v0 =>
 chk (fitsAt zSl [v0] 0) (
 tv (pbin (.int .i64) .leq (I 0) x2) fun v1 =>
 Prg.ite (asBool v1) (
 tv (plen (.slice 4) v0) fun v2 =>
 tv (pbin (.int .i64) .lss x2 v2) fun v3 =>
 Prg.ite (asBool v3) (
 nat (slLen v0) fun n4 =>
 nat (asNat x2) fun n5 =>
 chk (Bool.and (slSize v0 1) (Nat.blt n5 n4)) (
 tvs (pel v0 n5) fun e6 =>
 chk (fitsAt zBool e6 0) (
 ret (nth hole e6 0)))) (
 ret (B false))) (
 ret (B false))))
theorem f11_MR (x0 x1 x2:TV):startQ prog 11 [x0,x1,x2]=f11_M x0 x1 x2:=by kernel_rfl
def f13_0_S  (x0 x1 x2 y3 y4 y5 w6 w7:TV):ASt:=⟨[AV.one CA.junk,AV.tv x0,AV.one (CA.ptr 0 0),AV.one CA.junk,AV.one CA.junk,AV.one (CA.sref 1 0 []),AV.one (CA.sref 2 0 [])] ++ List.replicate 14 (AV.one CA.junk) ++ [AV.tv x1,AV.tv x2] ++ List.replicate 45 (AV.one CA.junk),[some (BC.cells [CA.t y3,CA.t y4,CA.t y5]),some (BC.tree [w6]),some (BC.tree [w7])] ++ List.replicate 89 (none),[]⟩
def f13_1_S  (x0 x1 x2 x3 x4 y5 y6 y7 w8 w9 w10:TV):ASt:=⟨[AV.one CA.junk,AV.tv x0,AV.one (CA.ptr 0 0),AV.one CA.junk,AV.one CA.junk,AV.one (CA.sref 1 0 []),AV.one (CA.sref 2 0 [])] ++ List.replicate 14 (AV.one CA.junk) ++ [AV.tv x1,AV.tv x2] ++ List.replicate 9 (AV.one CA.junk) ++ [AV.one (CA.sref 3 0 []),AV.tv x3,AV.tv x4] ++ List.replicate 33 (AV.one CA.junk),[some (BC.cells [CA.t y5,CA.t y6,CA.t y7]),some (BC.tree [w8]),some (BC.tree [w9]),some (BC.tree [w10])] ++ List.replicate 88 (none),[]⟩
def f13_2_S  (w0:TV):ASt:=⟨List.replicate 6 (AV.one CA.junk) ++ [AV.one (CA.sref 0 0 [])] ++ List.replicate 61 (AV.one CA.junk),[some (BC.tree [w0])] ++ List.replicate 91 (none),[]⟩
def f13_3_S  (x0 x1 w2 w3:TV):ASt:=⟨List.replicate 6 (AV.one CA.junk) ++ [AV.one (CA.sref 0 0 []),AV.one CA.junk,AV.one CA.junk,AV.one CA.junk,AV.one (CA.sref 1 0 [])] ++ List.replicate 43 (AV.one CA.junk) ++ [AV.tv x0,AV.tv x1] ++ List.replicate 12 (AV.one CA.junk),[some (BC.tree [w2]),some (BC.tree [w3])] ++ List.replicate 90 (none),[]⟩
def f13_M (x0 x1:TV):Prg TV :=
 chk (TV.isAgg x0 3) (
 call 21 [agg [cell x0 0,cell x0 1,cell x0 2],x1] fun v0 =>
 chk (fitsAt zSl [v0] 0) (
 tv (plen (.slice 44) (cell x0 2)) fun v1 =>
 nat (asNat v1) fun n2 =>
 nat (asNat v1) fun n3 =>
 chk (Bool.and (Nat.ble n2 n3) (Nat.ble n3 4294967296)) (
 tv (plen (.slice 44) (cell x0 2)) fun v4 =>
 jmp [0,0,1,0,1,1,1] (f13_0_S x1 v4 (I 0) (cell x0 0) (cell x0 1) (cell x0 2) v0 (TV.sl true 1 (List.replicate n2 [B false]))))))
def f13_0  (x0 x1 x2 y3 y4 y5 w6 w7:TV):Prg TV :=
 tv (pbin (.int .i64) .lss x2 x1) fun v5 =>
 Prg.ite (asBool v5) (
 nat (slLen w6) fun n6 =>
 nat (asNat x2) fun n7 =>
 chk (Bool.and (slSize w6 1) (Nat.blt n7 n6)) (
 tvs (pel w6 n7) fun e8 =>
 chk (fitsAt zBool e8 0) (
 tv (pun .not (nth hole e8 0)) fun v9 =>
 Prg.ite (asBool v9) (
 tv (pbin (.int .i64) .add x2 (I 1)) fun v10 =>
 jmp [0,0,1,0,1,1,1] (f13_0_S x0 x1 v10 y3 y4 y5 w6 w7)) (
 call 16 [agg [y3,y4,y5],x2] fun v11 =>
 chk (fitsAt zSl [v11] 0) (
 tv (plen (.slice 3) v11) fun v12 =>
 jmp [0,0,1,1,1,0,0,1,1,0,0,1,0,1,1,1] (f13_1_S x0 x1 x2 v12 (I 0) y3 y4 y5 w6 w7 v11)))))) (
 jmp [1,1,1,1] (f13_2_S w7))
def f13_1  (x0 x1 x2 x3 x4 y5 y6 y7 w8 w9 w10:TV):Prg TV :=
 tv (pbin (.int .i64) .lss x4 x3) fun v13 =>
 Prg.ite (asBool v13) (
 nat (slLen w10) fun n14 =>
 nat (asNat x4) fun n15 =>
 chk (Bool.and (slSize w10 1) (Nat.blt n15 n14)) (
 tvs (pel w10 n15) fun e16 =>
 chk (fitsAt zInt e16 0) (
 tv (pbin (.int .i64) .eql (nth hole e16 0) x0) fun v17 =>
 Prg.ite (asBool v17) (
 nat (slLen w9) fun n18 =>
 nat (asNat (nth hole e16 0)) fun n19 =>
 chk (Bool.and (slSize w9 1) (Nat.blt n19 n18)) (
 tvs (pel w9 n19) fun e20 =>
 chk (fitsAt zBool e20 0) (
 tv (setC [] w9 n19 0 [B true]) fun v21 =>
 tv (pbin (.int .i64) .add x4 (I 1)) fun v22 =>
 jmp [0,0,1,1,1,0,0,1,1,0,0,1,0,1,1,1] (f13_1_S x0 x1 x2 x3 v22 y5 y6 y7 w8 v21 w10)))) (
 nat (slLen w8) fun n23 =>
 nat (asNat (nth hole e16 0)) fun n24 =>
 chk (Bool.and (slSize w8 1) (Nat.blt n24 n23)) (
 tvs (pel w8 n24) fun e25 =>
 chk (fitsAt zBool e25 0) (
 tv (pun .not (nth hole e25 0)) fun v26 =>
 nat (slLen w9) fun n27 =>
 nat (asNat (nth hole e16 0)) fun n28 =>
 chk (Bool.and (slSize w9 1) (Nat.blt n28 n27)) (
 tvs (pel w9 n28) fun e29 =>
 chk (fitsAt zBool e29 0) (
 tv (setC [] w9 n28 0 [v26]) fun v30 =>
 tv (pbin (.int .i64) .add x4 (I 1)) fun v31 =>
 jmp [0,0,1,1,1,0,0,1,1,0,0,1,0,1,1,1] (f13_1_S x0 x1 x2 x3 v31 y5 y6 y7 w8 v30 w10))))))))) (
 tv (pbin (.int .i64) .add x2 (I 1)) fun v32 =>
 jmp [0,0,1,0,1,1,1] (f13_0_S x0 x1 v32 y5 y6 y7 w8 w9))
def f13_2  (w0:TV):Prg TV :=
 tv (plen (.slice 4) w0) fun v33 =>
 chk true (
 jmp [0,0,1,0,1,1,1,1,1] (f13_3_S v33 (I 0) w0 (TV.lit nilV)))
def f13_3  (x0 x1 w2 w3:TV):Prg TV :=
 tv (pbin (.int .i64) .lss x1 x0) fun v34 =>
 Prg.ite (asBool v34) (
 nat (slLen w2) fun n35 =>
 nat (asNat x1) fun n36 =>
 chk (Bool.and (slSize w2 1) (Nat.blt n36 n35)) (
 tvs (pel w2 n36) fun e37 =>
 chk (fitsAt zBool e37 0) (
 Prg.ite (asBool (nth hole e37 0)) (
 chk (TV.isOne x1) (
 rws (pelems 1 (TV.sl true 1 (chunks 1 1 [x1]))) fun r38 =>
 tv (papp 1 w3 (lfLL r38)) fun v39 =>
 tv (pbin (.int .i64) .add x1 (I 1)) fun v40 =>
 jmp [0,0,1,0,1,1,1,1,1] (f13_3_S x0 v40 w2 v39))) (
 tv (pbin (.int .i64) .add x1 (I 1)) fun v41 =>
 jmp [0,0,1,0,1,1,1,1,1] (f13_3_S x0 v41 w2 w3))))) (
 chk (isOwn w3) (
 ret w3))
theorem f13_MR (x0 x1:TV):startQ prog 13 [x0,x1]=f13_M x0 x1:=by kernel_rfl
theorem f13_0_J  {x0 x1 x2 y3 y4 y5 w6 w7:TV} {r:TV} (h:Goes prog 13 (f13_0 x0 x1 x2 y3 y4 y5 w6 w7) r):Goes prog 13 (.jmp [0,0,1,0,1,1,1] (f13_0_S x0 x1 x2 y3 y4 y5 w6 w7)) r:=Goes.jmp (by kernel_rfl) h
theorem f13_1_J  {x0 x1 x2 x3 x4 y5 y6 y7 w8 w9 w10:TV} {r:TV} (h:Goes prog 13 (f13_1 x0 x1 x2 x3 x4 y5 y6 y7 w8 w9 w10) r):Goes prog 13 (.jmp [0,0,1,1,1,0,0,1,1,0,0,1,0,1,1,1] (f13_1_S x0 x1 x2 x3 x4 y5 y6 y7 w8 w9 w10)) r:=Goes.jmp (by kernel_rfl) h
theorem f13_2_J  {w0:TV} {r:TV} (h:Goes prog 13 (f13_2 w0) r):Goes prog 13 (.jmp [1,1,1,1] (f13_2_S w0)) r:=Goes.jmp (by kernel_rfl) h
theorem f13_3_J  {x0 x1 w2 w3:TV} {r:TV} (h:Goes prog 13 (f13_3 x0 x1 w2 w3) r):Goes prog 13 (.jmp [0,0,1,0,1,1,1,1,1] (f13_3_S x0 x1 w2 w3)) r:=Goes.jmp (by kernel_rfl) h
end Go.Ab.V8
end

import Derived.Test.YtjdjnejdjhfmcaaGA10T
section
set_option linter.unusedVariables false
set_option maxRecDepth 100000
namespace Go.Ab.A10
open Go Go.Ab Go.Proofs
open Go.Ab.TV (hole cell comp isSl isSc isTup cellsL tup agg)
open Go.Ab.Prg (tv tvs rws nat chk call jmp ret)
def f4_0_S  (x0 y1 y2 y3 w4 w5:TV):ASt:=⟨[AV.one CA.junk,AV.one (CA.ptr 0 0),AV.one CA.junk,AV.one (CA.sref 1 0 []),AV.one (CA.sref 2 0 [])] ++ List.replicate 36 (AV.one CA.junk) ++ [AV.tv x0] ++ List.replicate 135 (AV.one CA.junk),[some (BC.cells [CA.t y1,CA.t y2,CA.t y3]),some (BC.tree [w4]),some (BC.tree [w5])] ++ List.replicate 198 (none),[]⟩
def f4_1_S  (x0 y1 y2 y3 w4 w5:TV):ASt:=⟨[AV.one CA.junk,AV.one (CA.ptr 0 0),AV.one CA.junk,AV.one (CA.sref 1 0 []),AV.one (CA.sref 2 0 []),AV.tv x0] ++ List.replicate 171 (AV.one CA.junk),[some (BC.cells [CA.t y1,CA.t y2,CA.t y3]),some (BC.tree [w4]),some (BC.tree [w5])] ++ List.replicate 198 (none),[]⟩
def f4_2_S  (x0 x1 y2 y3 y4 w5 w6 y7 y8 y9 y10 y11 y12 y13 y14 y15 y16 y17 y18 y19 y20:TV):ASt:=⟨[AV.one CA.junk,AV.one (CA.ptr 0 0),AV.one CA.junk,AV.one (CA.sref 1 0 []),AV.one (CA.sref 2 0 []),AV.tv x0,AV.one (CA.ptr 3 0),AV.tv x1] ++ List.replicate 169 (AV.one CA.junk),[some (BC.cells [CA.t y2,CA.t y3,CA.t y4]),some (BC.tree [w5]),some (BC.tree [w6]),some (BC.cells [CA.t y7,CA.t y8,CA.t y9,CA.t y10,CA.t y11,CA.t y12,CA.t y13,CA.t y14,CA.t y15,CA.t y16,CA.t y17,CA.t y18,CA.t y19,CA.t y20])] ++ List.replicate 197 (none),[]⟩
def f4_3_S  (x0 x1 x2 x3 y4 y5 y6 w7 w8 y9 y10 y11 y12 y13 y14 y15 y16 y17 y18 y19 y20 y21 y22:TV):ASt:=⟨[AV.one CA.junk,AV.one (CA.ptr 0 0),AV.one CA.junk,AV.one (CA.sref 1 0 []),AV.one (CA.sref 2 0 []),AV.tv x0,AV.one (CA.ptr 3 0),AV.tv x1,AV.tv x2] ++ List.replicate 78 (AV.one CA.junk) ++ [AV.tv x3] ++ List.replicate 89 (AV.one CA.junk),[some (BC.cells [CA.t y4,CA.t y5,CA.t y6]),some (BC.tree [w7]),some (BC.tree [w8]),some (BC.cells [CA.t y9,CA.t y10,CA.t y11,CA.t y12,CA.t y13,CA.t y14,CA.t y15,CA.t y16,CA.t y17,CA.t y18,CA.t y19,CA.t y20,CA.t y21,CA.t y22])] ++ List.replicate 197 (none),[]⟩
def f4_4_S  (x0 y1 y2 y3 w4 w5 y6 y7 y8 y9 y10 y11 y12 y13 y14 y15 y16 y17 y18 y19:TV):ASt:=⟨[AV.one CA.junk,AV.one (CA.ptr 0 0),AV.one CA.junk,AV.one (CA.sref 1 0 []),AV.one (CA.sref 2 0 []),AV.tv x0,AV.one (CA.ptr 3 0)] ++ List.replicate 170 (AV.one CA.junk),[some (BC.cells [CA.t y1,CA.t y2,CA.t y3]),some (BC.tree [w4]),some (BC.tree [w5]),some (BC.cells [CA.t y6,CA.t y7,CA.t y8,CA.t y9,CA.t y10,CA.t y11,CA.t y12,CA.t y13,CA.t y14,CA.t y15,CA.t y16,CA.t y17,CA.t y18,CA.t y19])] ++ List.replicate 197 (none),[]⟩
def f4_5_S  (x0 x1 x2 y3 y4 y5 w6 w7 y8 y9 y10 y11 y12 y13 y14 y15 y16 y17 y18 y19 y20 y21:TV):ASt:=⟨[AV.one CA.junk,AV.one (CA.ptr 0 0),AV.one CA.junk,AV.one (CA.sref 1 0 []),AV.one (CA.sref 2 0 []),AV.tv x0,AV.one (CA.ptr 3 0),AV.tv x1,AV.tv x2] ++ List.replicate 168 (AV.one CA.junk),[some (BC.cells [CA.t y3,CA.t y4,CA.t y5]),some (BC.tree [w6]),some (BC.tree [w7]),some (BC.cells [CA.t y8,CA.t y9,CA.t y10,CA.t y11,CA.t y12,CA.t y13,CA.t y14,CA.t y15,CA.t y16,CA.t y17,CA.t y18,CA.t y19,CA.t y20,CA.t y21])] ++ List.replicate 197 (none),[]⟩
def f4_6_S  (x0 x1 y2 y3 y4 w5 w6 w7:TV):ASt:=⟨[AV.one CA.junk,AV.one (CA.ptr 0 0),AV.one CA.junk,AV.one (CA.sref 1 0 []),AV.one (CA.sref 2 0 []),AV.tv x0,AV.one CA.junk,AV.one CA.junk,AV.one CA.junk,AV.one (CA.sref 3 0 []),AV.tv x1] ++ List.replicate 166 (AV.one CA.junk),[some (BC.cells [CA.t y2,CA.t y3,CA.t y4]),some (BC.tree [w5]),some (BC.tree [w6]),some (BC.tree [w7])] ++ List.replicate 197 (none),[]⟩
def f4_7_S  (x0 x1 x2 y3 y4 y5 w6 w7 y8 y9 y10 y11 y12 y13 y14 y15 y16 y17 y18 y19 y20 y21:TV):ASt:=⟨[AV.one CA.junk,AV.one (CA.ptr 0 0),AV.one CA.junk,AV.one (CA.sref 1 0 []),AV.one (CA.sref 2 0 []),AV.tv x0,AV.one (CA.ptr 3 0),AV.tv x1,AV.tv x2] ++ List.replicate 168 (AV.one CA.junk),[some (BC.cells [CA.t y3,CA.t y4,CA.t y5]),some (BC.tree [w6]),some (BC.tree [w7]),some (BC.cells [CA.t y8,CA.t y9,CA.t y10,CA.t y11,CA.t y12,CA.t y13,CA.t y14,CA.t y15,CA.t y16,CA.t y17,CA.t y18,CA.t y19,CA.t y20,CA.t y21])] ++ List.replicate 197 (none),[]⟩
def f4_8_S  (x0 x1 x2 y3 y4 y5 w6 w7 y8 y9 y10 y11 y12 y13 y14 y15 y16 y17 y18 y19 y20 y21:TV):ASt:=⟨[AV.one CA.junk,AV.one (CA.ptr 0 0),AV.one CA.junk,AV.one (CA.sref 1 0 []),AV.one (CA.sref 2 0 []),AV.tv x0,AV.one (CA.ptr 3 0),AV.tv x1,AV.tv x2] ++ List.replicate 168 (AV.one CA.junk),[some (BC.cells [CA.t y3,CA.t y4,CA.t y5]),some (BC.tree [w6]),some (BC.tree [w7]),some (BC.cells [CA.t y8,CA.t y9,CA.t y10,CA.t y11,CA.t y12,CA.t y13,CA.t y14,CA.t y15,CA.t y16,CA.t y17,CA.t y18,CA.t y19,CA.t y20,CA.t y21])] ++ List.replicate 197 (none),[]⟩
def f4_M (x0:TV):Prg TV :=
 chk (TV.isAgg x0 3) (
 call 5 [] fun v0 =>
 chk (fitsAt zBool [v0] 0) (
 tv (pun .not v0) fun v1 =>
 Prg.ite (asBool v1) (
 ret (B false)) (
 call 8 [agg [cell x0 0,cell x0 1,cell x0 2]] fun v2 =>
 chk (fitsAt zSl [v2] 0) (
 call 12 [agg [cell x0 0,cell x0 1,cell x0 2]] fun v3 =>
 chk (fitsAt zSl [v3] 0) (
 tv (plen (.slice 55) (cell x0 2)) fun v4 =>
 tv (pbin (.int .i64) .gtr v4 (I 30)) fun v5 =>
 Prg.ite (asBool v5) (
 jmp [1,0,1,1,1] (f4_0_S (B true) (cell x0 0) (cell x0 1) (cell x0 2) v2 v3)) (
 tv (pbin (.int .i64) .gtr (cell x0 1) (I 30)) fun v6 =>
 Prg.ite (asBool v6) (
 jmp [1,0,1,1,1] (f4_0_S (B true) (cell x0 0) (cell x0 1) (cell x0 2) v2 v3)) (
 tv (plen (.slice 45) v2) fun v7 =>
 tv (plen (.slice 55) (cell x0 2)) fun v8 =>
 tv (pbin (.int .i64) .neq v7 v8) fun v9 =>
 Prg.ite (asBool v9) (
 jmp [1,0,1,1,1] (f4_0_S (B true) (cell x0 0) (cell x0 1) (cell x0 2) v2 v3)) (
 tv (plen (.slice 45) v3) fun v10 =>
 tv (plen (.slice 55) (cell x0 2)) fun v11 =>
 tv (pbin (.int .i64) .neq v10 v11) fun v12 =>
 jmp [1,0,1,1,1] (f4_0_S v12 (cell x0 0) (cell x0 1) (cell x0 2) v2 v3)))))))))
def f4_0  (x0 y1 y2 y3 w4 w5:TV):Prg TV :=
 Prg.ite (asBool x0) (
 tv (plen (.slice 45) w4) fun v13 =>
 tv (plen (.slice 45) w5) fun v14 =>
 tv (pbin (.int .i64) .eql v13 v14) fun v15 =>
 ret v15) (
 jmp [0,0,1,0,1,1,1,1] (f4_1_S (I 0) y1 y2 y3 w4 w5))
def f4_1  (x0 y1 y2 y3 w4 w5:TV):Prg TV :=
 tv (plen (.slice 55) y3) fun v16 =>
 tv (pbin (.int .i64) .lss x0 v16) fun v17 =>
 Prg.ite (asBool v17) (
 tvs (pidx 14 y3 x0) fun e18 =>
 chk (Nat.ble 14 (List.length e18)) (
 jmp [0,0,1,0,1,0,0,1,0,0,1,0,1,1,1,1] (f4_2_S x0 (I 0) y1 y2 y3 w4 w5 (nth hole e18 0) (nth hole e18 1) (nth hole e18 2) (nth hole e18 3) (nth hole e18 4) (nth hole e18 5) (nth hole e18 6) (nth hole e18 7) (nth hole e18 8) (nth hole e18 9) (nth hole e18 10) (nth hole e18 11) (nth hole e18 12) (nth hole e18 13)))) (
 ret (B true))
def f4_2  (x0 x1 y2 y3 y4 w5 w6 y7 y8 y9 y10 y11 y12 y13 y14 y15 y16 y17 y18 y19 y20:TV):Prg TV :=
 tv (pbin (.int .i64) .lss x1 y3) fun v19 =>
 Prg.ite (asBool v19) (
 tv (pbin (.int .i64) .eql y13 (I 2)) fun v20 =>
 Prg.ite (asBool v20) (
 jmp [1,0,1,0,0,1,0,0,1,0,1,0,0,1,0,0,1,0,1,1,1,1] (f4_3_S x0 x1 (B false) (B true) y2 y3 y4 w5 w6 y7 y8 y9 y10 y11 y12 y13 y14 y15 y16 y17 y18 y19 y20)) (
 tv (pbin (.int .i64) .eql y13 (I 3)) fun v21 =>
 Prg.ite (asBool v21) (
 jmp [1,0,1,0,0,1,0,0,1,0,1,0,0,1,0,0,1,0,1,1,1,1] (f4_3_S x0 x1 (B false) (B true) y2 y3 y4 w5 w6 y7 y8 y9 y10 y11 y12 y13 y14 y15 y16 y17 y18 y19 y20)) (
 tv (pbin (.int .i64) .eql y13 (I 4)) fun v22 =>
 Prg.ite (asBool v22) (
 tv (pbin (.int .i64) .neq y15 x1) fun v23 =>
 jmp [1,0,1,0,0,1,0,0,1,0,1,0,0,1,0,0,1,0,1,1,1,1] (f4_3_S x0 x1 (B false) v23 y2 y3 y4 w5 w6 y7 y8 y9 y10 y11 y12 y13 y14 y15 y16 y17 y18 y19 y20)) (
 jmp [1,0,1,0,0,1,0,0,1,0,1,0,0,1,0,0,1,0,1,1,1,1] (f4_3_S x0 x1 (B false) (B false) y2 y3 y4 w5 w6 y7 y8 y9 y10 y11 y12 y13 y14 y15 y16 y17 y18 y19 y20))))) (
 jmp [1,1,0,0,1,0,0,1,0,1,1,1,1] (f4_4_S x0 y2 y3 y4 w5 w6 y7 y8 y9 y10 y11 y12 y13 y14 y15 y16 y17 y18 y19 y20))
def f4_3  (x0 x1 x2 x3 y4 y5 y6 w7 w8 y9 y10 y11 y12 y13 y14 y15 y16 y17 y18 y19 y20 y21 y22:TV):Prg TV :=
 Prg.ite (asBool x3) (
 nat (slLen w7) fun n24 =>
 nat (asNat y20) fun n25 =>
 chk (Bool.and (slSize w7 1) (Nat.blt n25 n24)) (
 tvs (pel w7 n25) fun e26 =>
 chk (fitsAt zSl e26 0) (
 tv (getP [(n25,0)] w7) fun v27 =>
 nat (slLen v27) fun n28 =>
 nat (asNat x1) fun n29 =>
 chk (Bool.and (slSize v27 1) (Nat.blt n29 n28)) (
 tv (getP [(n25,0)] w7) fun v30 =>
 tvs (pel v30 n29) fun e31 =>
 chk (fitsAt zBool e31 0) (
 jmp [1,1,0,0,1,0,0,1,0,1,0,0,1,0,0,1,0,1,1,1,1] (f4_5_S x0 x1 (nth hole e31 0) y4 y5 y6 w7 w8 y9 y10 y11 y12 y13 y14 y15 y16 y17 y18 y19 y20 y21 y22)))))) (
 jmp [1,1,0,0,1,0,0,1,0,1,0,0,1,0,0,1,0,1,1,1,1] (f4_5_S x0 x1 x2 y4 y5 y6 w7 w8 y9 y10 y11 y12 y13 y14 y15 y16 y17 y18 y19 y20 y21 y22))
def f4_4  (x0 y1 y2 y3 w4 w5 y6 y7 y8 y9 y10 y11 y12 y13 y14 y15 y16 y17 y18 y19:TV):Prg TV :=
 tv (plen (.slice 58) y11) fun v32 =>
 tv (pbin (.int .i64) .gtr v32 (I 0)) fun v33 =>
 Prg.ite (asBool v33) (
 tvs (pidx 7 y11 (I 0)) fun e34 =>
 chk (Nat.ble 7 (List.length e34)) (
 call 13 [agg [nth hole e34 0,nth hole e34 1,nth hole e34 2,nth hole e34 3,nth hole e34 4,nth hole e34 5,nth hole e34 6]] fun v35 =>
 chk (fitsAt zSl [v35] 0) (
 jmp [0,0,1,1,0,1,1,1,0,0,1,0,0,1,0,1,1,1,1] (f4_6_S x0 (I 0) y1 y2 y3 w4 w5 v35)))) (
 tv (pbin (.int .i64) .add x0 (I 1)) fun v36 =>
 jmp [0,0,1,0,1,1,1,1] (f4_1_S v36 y1 y2 y3 w4 w5))
def f4_5  (x0 x1 x2 y3 y4 y5 w6 w7 y8 y9 y10 y11 y12 y13 y14 y15 y16 y17 y18 y19 y20 y21:TV):Prg TV :=
 tv (pbin (.int .i64) .eql y14 (I 3)) fun v37 =>
 Prg.ite (asBool v37) (
 Prg.ite (asBool x2) (
 jmp [1,1,1,0,0,1,0,0,1,0,1,0,0,1,0,0,1,0,1,1,1,1] (f4_7_S x0 x1 (B true) y3 y4 y5 w6 w7 y8 y9 y10 y11 y12 y13 y14 y15 y16 y17 y18 y19 y20 y21)) (
 nat (slLen w6) fun n38 =>
 nat (asNat y20) fun n39 =>
 chk (Bool.and (slSize w6 1) (Nat.blt n39 n38)) (
 tvs (pel w6 n39) fun e40 =>
 chk (fitsAt zSl e40 0) (
 tv (getP [(n39,0)] w6) fun v41 =>
 nat (slLen v41) fun n42 =>
 nat (asNat x1) fun n43 =>
 chk (Bool.and (slSize v41 1) (Nat.blt n43 n42)) (
 tv (getP [(n39,0)] w6) fun v44 =>
 tvs (pel v44 n43) fun e45 =>
 chk (fitsAt zBool e45 0) (
 jmp [1,1,1,0,0,1,0,0,1,0,1,0,0,1,0,0,1,0,1,1,1,1] (f4_7_S x0 x1 (nth hole e45 0) y3 y4 y5 w6 w7 y8 y9 y10 y11 y12 y13 y14 y15 y16 y17 y18 y19 y20 y21))))))) (
 jmp [1,1,1,0,0,1,0,0,1,0,1,0,0,1,0,0,1,0,1,1,1,1] (f4_7_S x0 x1 x2 y3 y4 y5 w6 w7 y8 y9 y10 y11 y12 y13 y14 y15 y16 y17 y18 y19 y20 y21))
def f4_6  (x0 x1 y2 y3 y4 w5 w6 w7:TV):Prg TV :=
 tv (plen (.slice 3) w7) fun v46 =>
 tv (pbin (.int .i64) .lss x1 v46) fun v47 =>
 Prg.ite (asBool v47) (
 nat (slLen w5) fun n48 =>
 nat (asNat x0) fun n49 =>
 chk (Bool.and (slSize w5 1) (Nat.blt n49 n48)) (
 tvs (pel w5 n49) fun e50 =>
 chk (fitsAt zSl e50 0) (
 nat (slLen w7) fun n51 =>
 nat (asNat x1) fun n52 =>
 chk (Bool.and (slSize w7 1) (Nat.blt n52 n51)) (
 tvs (pel w7 n52) fun e53 =>
 chk (fitsAt zInt e53 0) (
 tv (getP [(n49,0)] w5) fun v54 =>
 nat (slLen v54) fun n55 =>
 nat (asNat (nth hole e53 0)) fun n56 =>
 chk (Bool.and (slSize v54 1) (Nat.blt n56 n55)) (
 tv (getP [(n49,0)] w5) fun v57 =>
 tvs (pel v57 n56) fun e58 =>
 chk (fitsAt zBool e58 0) (
 tv (pun .not (nth hole e58 0)) fun v59 =>
 Prg.ite (asBool v59) (
 ret (B false)) (
 tv (pbin (.int .i64) .add x1 (I 1)) fun v60 =>
 jmp [0,0,1,1,0,1,1,1,0,0,1,0,0,1,0,1,1,1,1] (f4_6_S x0 v60 y2 y3 y4 w5 w6 w7))))))))) (
 tv (pbin (.int .i64) .add x0 (I 1)) fun v61 =>
 jmp [0,0,1,0,1,1,1,1] (f4_1_S v61 y2 y3 y4 w5 w6))
def f4_7  (x0 x1 x2 y3 y4 y5 w6 w7 y8 y9 y10 y11 y12 y13 y14 y15 y16 y17 y18 y19 y20 y21:TV):Prg TV :=
 tv (pbin (.int .i64) .eql y14 (I 4)) fun v62 =>
 Prg.ite (asBool v62) (
 tvs (pidx 14 y5 y21) fun e63 =>
 chk (Nat.blt 1 (List.length e63)) (
 tv (pbin (.int .i64) .neq (nth hole e63 1) x1) fun v64 =>
 Prg.ite (asBool v64) (
 Prg.ite (asBool x2) (
 jmp [1,1,1,1,0,0,1,0,0,1,0,1,0,0,1,0,0,1,0,1,1,1,1] (f4_8_S x0 x1 (B true) y3 y4 y5 w6 w7 y8 y9 y10 y11 y12 y13 y14 y15 y16 y17 y18 y19 y20 y21)) (
 nat (slLen w6) fun n65 =>
 nat (asNat y21) fun n66 =>
 chk (Bool.and (slSize w6 1) (Nat.blt n66 n65)) (
 tvs (pel w6 n66) fun e67 =>
 chk (fitsAt zSl e67 0) (
 tv (getP [(n66,0)] w6) fun v68 =>
 nat (slLen v68) fun n69 =>
 nat (asNat x1) fun n70 =>
 chk (Bool.and (slSize v68 1) (Nat.blt n70 n69)) (
 tv (getP [(n66,0)] w6) fun v71 =>
 tvs (pel v71 n70) fun e72 =>
 chk (fitsAt zBool e72 0) (
 jmp [1,1,1,1,0,0,1,0,0,1,0,1,0,0,1,0,0,1,0,1,1,1,1] (f4_8_S x0 x1 (nth hole e72 0) y3 y4 y5 w6 w7 y8 y9 y10 y11 y12 y13 y14 y15 y16 y17 y18 y19 y20 y21))))))) (
 jmp [1,1,1,1,0,0,1,0,0,1,0,1,0,0,1,0,0,1,0,1,1,1,1] (f4_8_S x0 x1 x2 y3 y4 y5 w6 w7 y8 y9 y10 y11 y12 y13 y14 y15 y16 y17 y18 y19 y20 y21)))) (
 jmp [1,1,1,1,0,0,1,0,0,1,0,1,0,0,1,0,0,1,0,1,1,1,1] (f4_8_S x0 x1 x2 y3 y4 y5 w6 w7 y8 y9 y10 y11 y12 y13 y14 y15 y16 y17 y18 y19 y20 y21))
def f4_8  (x0 x1 x2 y3 y4 y5 w6 w7 y8 y9 y10 y11 y12 y13 y14 y15 y16 y17 y18 y19 y20 y21:TV):Prg TV :=
 nat (slLen w7) fun n73 =>
 nat (asNat x0) fun n74 =>
 chk (Bool.and (slSize w7 1) (Nat.blt n74 n73)) (
 tvs (pel w7 n74) fun e75 =>
 chk (fitsAt zSl e75 0) (
 tv (getP [(n74,0)] w7) fun v76 =>
 nat (slLen v76) fun n77 =>
 nat (asNat x1) fun n78 =>
 chk (Bool.and (slSize v76 1) (Nat.blt n78 n77)) (
 tv (getP [(n74,0)] w7) fun v79 =>
 tvs (pel v79 n78) fun e80 =>
 chk (fitsAt zBool e80 0) (
 tv (pbin Kd.bool .neq (nth hole e80 0) x2) fun v81 =>
 Prg.ite (asBool v81) (
 ret (B false)) (
 tv (pbin (.int .i64) .add x1 (I 1)) fun v82 =>
 jmp [0,0,1,0,1,0,0,1,0,0,1,0,1,1,1,1] (f4_2_S x0 v82 y3 y4 y5 w6 w7 y8 y9 y10 y11 y12 y13 y14 y15 y16 y17 y18 y19 y20 y21))))))
theorem f4_MR (x0:TV):startQ prog 4 [x0]=f4_M x0:=by kernel_rfl
theorem f4_0_J  {x0 y1 y2 y3 w4 w5:TV} {r:TV} (h:Goes prog 4 (f4_0 x0 y1 y2 y3 w4 w5) r):Goes prog 4 (.jmp [1,0,1,1,1] (f4_0_S x0 y1 y2 y3 w4 w5)) r:=Goes.jmp (by kernel_rfl) h
theorem f4_1_J  {x0 y1 y2 y3 w4 w5:TV} {r:TV} (h:Goes prog 4 (f4_1 x0 y1 y2 y3 w4 w5) r):Goes prog 4 (.jmp [0,0,1,0,1,1,1,1] (f4_1_S x0 y1 y2 y3 w4 w5)) r:=Goes.jmp (by kernel_rfl) h
theorem f4_2_J  {x0 x1 y2 y3 y4 w5 w6 y7 y8 y9 y10 y11 y12 y13 y14 y15 y16 y17 y18 y19 y20:TV} {r:TV} (h:Goes prog 4 (f4_2 x0 x1 y2 y3 y4 w5 w6 y7 y8 y9 y10 y11 y12 y13 y14 y15 y16 y17 y18 y19 y20) r):Goes prog 4 (.jmp [0,0,1,0,1,0,0,1,0,0,1,0,1,1,1,1] (f4_2_S x0 x1 y2 y3 y4 w5 w6 y7 y8 y9 y10 y11 y12 y13 y14 y15 y16 y17 y18 y19 y20)) r:=Goes.jmp (by kernel_rfl) h
theorem f4_3_J  {x0 x1 x2 x3 y4 y5 y6 w7 w8 y9 y10 y11 y12 y13 y14 y15 y16 y17 y18 y19 y20 y21 y22:TV} {r:TV} (h:Goes prog 4 (f4_3 x0 x1 x2 x3 y4 y5 y6 w7 w8 y9 y10 y11 y12 y13 y14 y15 y16 y17 y18 y19 y20 y21 y22) r):Goes prog 4 (.jmp [1,0,1,0,0,1,0,0,1,0,1,0,0,1,0,0,1,0,1,1,1,1] (f4_3_S x0 x1 x2 x3 y4 y5 y6 w7 w8 y9 y10 y11 y12 y13 y14 y15 y16 y17 y18 y19 y20 y21 y22)) r:=Goes.jmp (by kernel_rfl) h
theorem f4_4_J  {x0 y1 y2 y3 w4 w5 y6 y7 y8 y9 y10 y11 y12 y13 y14 y15 y16 y17 y18 y19:TV} {r:TV} (h:Goes prog 4 (f4_4 x0 y1 y2 y3 w4 w5 y6 y7 y8 y9 y10 y11 y12 y13 y14 y15 y16 y17 y18 y19) r):Goes prog 4 (.jmp [1,1,0,0,1,0,0,1,0,1,1,1,1] (f4_4_S x0 y1 y2 y3 w4 w5 y6 y7 y8 y9 y10 y11 y12 y13 y14 y15 y16 y17 y18 y19)) r:=Goes.jmp (by kernel_rfl) h
theorem f4_5_J  {x0 x1 x2 y3 y4 y5 w6 w7 y8 y9 y10 y11 y12 y13 y14 y15 y16 y17 y18 y19 y20 y21:TV} {r:TV} (h:Goes prog 4 (f4_5 x0 x1 x2 y3 y4 y5 w6 w7 y8 y9 y10 y11 y12 y13 y14 y15 y16 y17 y18 y19 y20 y21) r):Goes prog 4 (.jmp [1,1,0,0,1,0,0,1,0,1,0,0,1,0,0,1,0,1,1,1,1] (f4_5_S x0 x1 x2 y3 y4 y5 w6 w7 y8 y9 y10 y11 y12 y13 y14 y15 y16 y17 y18 y19 y20 y21)) r:=Goes.jmp (by kernel_rfl) h
theorem f4_6_J  {x0 x1 y2 y3 y4 w5 w6 w7:TV} {r:TV} (h:Goes prog 4 (f4_6 x0 x1 y2 y3 y4 w5 w6 w7) r):Goes prog 4 (.jmp [0,0,1,1,0,1,1,1,0,0,1,0,0,1,0,1,1,1,1] (f4_6_S x0 x1 y2 y3 y4 w5 w6 w7)) r:=Goes.jmp (by kernel_rfl) h
theorem f4_7_J  {x0 x1 x2 y3 y4 y5 w6 w7 y8 y9 y10 y11 y12 y13 y14 y15 y16 y17 y18 y19 y20 y21:TV} {r:TV} (h:Goes prog 4 (f4_7 x0 x1 x2 y3 y4 y5 w6 w7 y8 y9 y10 y11 y12 y13 y14 y15 y16 y17 y18 y19 y20 y21) r):Goes prog 4 (.jmp [1,1,1,0,0,1,0,0,1,0,1,0,0,1,0,0,1,0,1,1,1,1] (f4_7_S x0 x1 x2 y3 y4 y5 w6 w7 y8 y9 y10 y11 y12 y13 y14 y15 y16 y17 y18 y19 y20 y21)) r:=Goes.jmp (by kernel_rfl) h
theorem f4_8_J  {x0 x1 x2 y3 y4 y5 w6 w7 y8 y9 y10 y11 y12 y13 y14 y15 y16 y17 y18 y19 y20 y21:TV} {r:TV} (h:Goes prog 4 (f4_8 x0 x1 x2 y3 y4 y5 w6 w7 y8 y9 y10 y11 y12 y13 y14 y15 y16 y17 y18 y19 y20 y21) r):Goes prog 4 (.jmp [1,1,1,1,0,0,1,0,0,1,0,1,0,0,1,0,0,1,0,1,1,1,1] (f4_8_S x0 x1 x2 y3 y4 y5 w6 w7 y8 y9 y10 y11 y12 y13 y14 y15 y16 y17 y18 y19 y20 y21)) r:=Goes.jmp (by kernel_rfl) h
def f8_0_S  (x0 x1 y2 y3 y4 y5 y6 y7 w8 w9:TV):ASt:=⟨[AV.one CA.junk,AV.one (CA.ptr 0 0),AV.one (CA.ptr 1 0),AV.one (CA.ptr 2 0)] ++ List.replicate 17 (AV.one CA.junk) ++ [AV.tv x0,AV.tv x1] ++ List.replicate 12 (AV.one CA.junk),[some (BC.cells [CA.t y2,CA.t y3,CA.t y4]),some (BC.cells [CA.junk,CA.junk,CA.junk,CA.junk,CA.junk]),some (BC.cells [CA.t y5,CA.t y6,CA.t y7,CA.sref 3 0 [],CA.sref 4 0 []]),some (BC.tree [w8]),some (BC.tree [w9])] ++ List.replicate 60 (none),List.replicate 6 (AV.one CA.junk)⟩
def f8_1_S  (y0 y1 y2 w3 w4:TV):ASt:=⟨[AV.one CA.junk,AV.one CA.junk,AV.one (CA.ptr 0 0),AV.one (CA.ptr 1 0)] ++ List.replicate 31 (AV.one CA.junk),[some (BC.cells [CA.junk,CA.junk,CA.junk,CA.junk,CA.junk]),some (BC.cells [CA.t y0,CA.t y1,CA.t y2,CA.sref 2 0 [],CA.sref 3 0 []]),some (BC.tree [w3]),some (BC.tree [w4])] ++ List.replicate 61 (none),List.replicate 6 (AV.one CA.junk)⟩
def f8_2_S  (y0 y1 y2 w3 w4:TV):ASt:=⟨[AV.one CA.junk,AV.one CA.junk,AV.one (CA.ptr 0 0),AV.one (CA.ptr 1 0)] ++ List.replicate 31 (AV.one CA.junk),[some (BC.cells [CA.junk,CA.junk,CA.junk,CA.junk,CA.junk]),some (BC.cells [CA.t y0,CA.t y1,CA.t y2,CA.sref 2 0 [],CA.sref 3 0 []]),some (BC.tree [w3]),some (BC.tree [w4])] ++ List.replicate 61 (none),List.replicate 6 (AV.one CA.junk)⟩
def f8_3_S  (x0 y1 y2 y3 y4 y5 y6 y7 y8 w9 w10:TV):ASt:=⟨[AV.one (CA.yl 0),AV.one (CA.ptr 0 0),AV.one CA.junk,AV.tv x0] ++ List.replicate 15 (AV.one CA.junk),[some (BC.cells [CA.t y1]),some (BC.cells [CA.junk,CA.junk,CA.junk,CA.junk,CA.junk]),some (BC.cells [CA.t y2,CA.t y3,CA.t y4,CA.sref 5 0 [],CA.sref 6 0 []]),some (BC.cells [CA.t y5,CA.t y6,CA.t y7,CA.sref 5 0 [],CA.sref 6 0 []]),some (BC.cells [CA.t y8]),some (BC.tree [w9]),some (BC.tree [w10])] ++ List.replicate 106 (none),(List.replicate 8 (AV.one CA.junk) ++ [AV.one (CA.ptr 1 0),AV.one (CA.ptr 2 0)] ++ List.replicate 32 (AV.one CA.junk) ++ [AV.one (CA.ptr 3 0),AV.one CA.junk,AV.one (CA.ptr 4 0)] ++ List.replicate 6 (AV.one CA.junk) ++ [AV.clo 64 [CA.ptr 0 0]] ++ List.replicate 18 (AV.one CA.junk))⟩
def f8_M (x0:TV):Prg TV :=
 chk (TV.isAgg x0 3) (
 call 28 [agg [cell x0 0,cell x0 1,cell x0 2]] fun v0 =>
 chk (fitsAt zBool [v0] 0) (
 tv (pun .not v0) fun v1 =>
 Prg.ite (asBool v1) (
 chk true (
 ret (TV.lit nilV))) (
 tv (plen (.slice 55) (cell x0 2)) fun v2 =>
 nat (asNat v2) fun n3 =>
 nat (asNat v2) fun n4 =>
 chk (Bool.and (Nat.ble n3 n4) (Nat.ble n4 4294967296)) (
 tv (plen (.slice 55) (cell x0 2)) fun v5 =>
 nat (asNat v5) fun n6 =>
 nat (asNat v5) fun n7 =>
 chk (Bool.and (Nat.ble n6 n7) (Nat.ble n7 4294967296)) (
 tv (plen (.slice 55) (cell x0 2)) fun v8 =>
 jmp [0,0,1,0,1,1,1,4,0,1] (f8_0_S v8 (I 0) (cell x0 0) (cell x0 1) (cell x0 2) (cell x0 0) (cell x0 1) (cell x0 2) (TV.sl true 1 (List.replicate n3 [TV.lit nilV])) (TV.sl true 1 (List.replicate n6 [TV.lit nilV]))))))))
def f8_0  (x0 x1 y2 y3 y4 y5 y6 y7 w8 w9:TV):Prg TV :=
 tv (pbin (.int .i64) .lss x1 x0) fun v9 =>
 Prg.ite (asBool v9) (
 nat (asNat y3) fun n10 =>
 nat (asNat y3) fun n11 =>
 chk (Bool.and (Nat.ble n10 n11) (Nat.ble n11 4294967296)) (
 tvs (pidx 14 y7 x1) fun e12 =>
 chk (Nat.ble 14 (List.length e12)) (
 call 45 [agg [nth hole e12 0,nth hole e12 1,nth hole e12 2,nth hole e12 3,nth hole e12 4,nth hole e12 5,nth hole e12 6,nth hole e12 7,nth hole e12 8,nth hole e12 9,nth hole e12 10,nth hole e12 11,nth hole e12 12,nth hole e12 13],frz (TV.sl true 1 (List.replicate n10 [B false]))] fun v13 =>
 chk (fitsAt zSl [v13] 0) (
 nat (slLen w8) fun n14 =>
 nat (asNat x1) fun n15 =>
 chk (Bool.and (slSize w8 1) (Nat.blt n15 n14)) (
 tvs (pel w8 n15) fun e16 =>
 chk (Bool.and (fitsOld zSl e16 0) (fitsAt zSl [v13] 0)) (
 tv (setC [] w8 n15 0 [v13]) fun v17 =>
 nat (slLen w9) fun n18 =>
 nat (asNat x1) fun n19 =>
 chk (Bool.and (slSize w9 1) (Nat.blt n19 n18)) (
 tvs (pel w9 n19) fun e20 =>
 chk (Bool.and (fitsOld zSl e20 0) (fitsAt zSl [TV.sl true 1 (List.replicate n10 [B false])] 0)) (
 tv (setC [] w9 n19 0 [TV.sl true 1 (List.replicate n10 [B false])]) fun v21 =>
 tv (pbin (.int .i64) .add x1 (I 1)) fun v22 =>
 jmp [0,0,1,0,1,1,1,4,0,1] (f8_0_S x0 v22 y2 y3 y4 y5 y6 y7 v17 v21))))))))) (
 jmp [1,1,1,1,4,0,1] (f8_1_S y5 y6 y7 w8 w9))
def f8_1  (y0 y1 y2 w3 w4:TV):Prg TV :=
 jmp [0,0,0,1,1,1,1,4,0,1] (f8_2_S y0 y1 y2 w3 w4)
def f8_2  (y0 y1 y2 w3 w4:TV):Prg TV :=
 tv (plen (.slice 55) y2) fun v23 =>
 tv (pbin (.int .i64) .sub v23 (I 1)) fun v24 =>
 jmp [0,0,1,64,0,1,0,1,1,4,0,0,0,0,0,1,1,1,1,4,0,1] (f8_3_S v24 y2 y0 y1 y2 y0 y1 y2 (B false) w3 w4)
def f8_3  (x0 y1 y2 y3 y4 y5 y6 y7 y8 w9 w10:TV):Prg TV :=
 tv (pbin (.int .i64) .geq x0 (I 0)) fun v25 =>
 Prg.ite (asBool v25) (
 tvs (pidx 14 y1 x0) fun e26 =>
 chk (Nat.ble 14 (List.length e26)) (
 call 47 [agg [y5,y6,y7,frz w9,frz w10],agg [nth hole e26 0,nth hole e26 1,nth hole e26 2,nth hole e26 3,nth hole e26 4,nth hole e26 5,nth hole e26 6,nth hole e26 7,nth hole e26 8,nth hole e26 9,nth hole e26 10,nth hole e26 11,nth hole e26 12,nth hole e26 13]] fun v27 =>
 chk (fitsAt zSl [v27] 0) (
 nat (slLen w10) fun n28 =>
 nat (asNat x0) fun n29 =>
 chk (Bool.and (slSize w10 1) (Nat.blt n29 n28)) (
 tvs (pel w10 n29) fun e30 =>
 chk (fitsAt zSl e30 0) (
 tv (getP [(n29,0)] w10) fun v31 =>
 call 48 [frz v27,frz v31] fun v32 =>
 chk (fitsAt zBool [v32] 0) (
 tv (pun .not v32) fun v33 =>
 Prg.ite (asBool v33) (
 tvs (pidx 14 y7 x0) fun e34 =>
 chk (Nat.ble 14 (List.length e34)) (
 call 45 [agg [nth hole e34 0,nth hole e34 1,nth hole e34 2,nth hole e34 3,nth hole e34 4,nth hole e34 5,nth hole e34 6,nth hole e34 7,nth hole e34 8,nth hole e34 9,nth hole e34 10,nth hole e34 11,nth hole e34 12,nth hole e34 13],frz v27] fun v35 =>
 chk (fitsAt zSl [v35] 0) (
 nat (slLen w9) fun n36 =>
 nat (asNat x0) fun n37 =>
 chk (Bool.and (slSize w9 1) (Nat.blt n37 n36)) (
 tvs (pel w9 n37) fun e38 =>
 chk (Bool.and (fitsOld zSl e38 0) (fitsAt zSl [v35] 0)) (
 tv (setC [] w9 n37 0 [v35]) fun v39 =>
 nat (slLen w10) fun n40 =>
 nat (asNat x0) fun n41 =>
 chk (Bool.and (slSize w10 1) (Nat.blt n41 n40)) (
 tvs (pel w10 n41) fun e42 =>
 chk (Bool.and (fitsOld zSl e42 0) (fitsAt zSl [v27] 0)) (
 tv (setC [] w10 n41 0 [v27]) fun v43 =>
 tv (pbin (.int .i64) .sub x0 (I 1)) fun v44 =>
 jmp [0,0,1,64,0,1,0,1,1,4,0,0,0,0,0,1,1,1,1,4,0,1] (f8_3_S v44 y1 y2 y3 y4 y5 y6 y7 (B true) v39 v43)))))))) (
 tv (pbin (.int .i64) .sub x0 (I 1)) fun v45 =>
 jmp [0,0,1,64,0,1,0,1,1,4,0,0,0,0,0,1,1,1,1,4,0,1] (f8_3_S v45 y1 y2 y3 y4 y5 y6 y7 y8 w9 w10)))))))) (
 Prg.ite (asBool y8) (
 jmp [0,0,0,1,1,1,1,4,0,1] (f8_2_S y2 y3 y4 w9 w10)) (
 chk (isOwn w9) (
 ret w9)))
theorem f8_MR (x0:TV):startQ prog 8 [x0]=f8_M x0:=by kernel_rfl
theorem f8_0_J  {x0 x1 y2 y3 y4 y5 y6 y7 w8 w9:TV} {r:TV} (h:Goes prog 8 (f8_0 x0 x1 y2 y3 y4 y5 y6 y7 w8 w9) r):Goes prog 8 (.jmp [0,0,1,0,1,1,1,4,0,1] (f8_0_S x0 x1 y2 y3 y4 y5 y6 y7 w8 w9)) r:=Goes.jmp (by kernel_rfl) h
theorem f8_1_J  {y0 y1 y2 w3 w4:TV} {r:TV} (h:Goes prog 8 (f8_1 y0 y1 y2 w3 w4) r):Goes prog 8 (.jmp [1,1,1,1,4,0,1] (f8_1_S y0 y1 y2 w3 w4)) r:=Goes.jmp (by kernel_rfl) h
theorem f8_2_J  {y0 y1 y2 w3 w4:TV} {r:TV} (h:Goes prog 8 (f8_2 y0 y1 y2 w3 w4) r):Goes prog 8 (.jmp [0,0,0,1,1,1,1,4,0,1] (f8_2_S y0 y1 y2 w3 w4)) r:=Goes.jmp (by kernel_rfl) h
theorem f8_3_J  {x0 y1 y2 y3 y4 y5 y6 y7 y8 w9 w10:TV} {r:TV} (h:Goes prog 8 (f8_3 x0 y1 y2 y3 y4 y5 y6 y7 y8 w9 w10) r):Goes prog 8 (.jmp [0,0,1,64,0,1,0,1,1,4,0,0,0,0,0,1,1,1,1,4,0,1] (f8_3_S x0 y1 y2 y3 y4 y5 y6 y7 y8 w9 w10)) r:=Goes.jmp (by kernel_rfl) h
end Go.Ab.A10
end
section
set_option linter.unusedVariables false
set_option maxRecDepth 100000
namespace Go.Ab.A10
open Go Go.Ab Go.Proofs
open Go.Ab.TV (hole cell comp isSl isSc isTup cellsL tup agg)
open Go.Ab.Prg (tv tvs rws nat chk call jmp ret)
def f12_0_S  (x0 x1 y2 y3 y4 y5 y6 y7 w8 w9:TV):ASt:=⟨[AV.one CA.junk,AV.one (CA.ptr 0 0),AV.one (CA.ptr 1 0),AV.one (CA.ptr 2 0)] ++ List.replicate 17 (AV.one CA.junk) ++ [AV.tv x0,AV.tv x1] ++ List.replicate 12 (AV.one CA.junk),[some (BC.cells [CA.t y2,CA.t y3,CA.t y4]),some (BC.cells [CA.junk,CA.junk,CA.junk,CA.junk,CA.junk]),some (BC.cells [CA.t y5,CA.t y6,CA.t y7,CA.sref 3 0 [],CA.sref 4 0 []]),some (BC.tree [w8]),some (BC.tree [w9])] ++ List.replicate 60 (none),List.replicate 6 (AV.one CA.junk)⟩
def f12_1_S  (y0 y1 y2 w3 w4:TV):ASt:=⟨[AV.one CA.junk,AV.one CA.junk,AV.one (CA.ptr 0 0),AV.one (CA.ptr 1 0)] ++ List.replicate 31 (AV.one CA.junk),[some (BC.cells [CA.junk,CA.junk,CA.junk,CA.junk,CA.junk]),some (BC.cells [CA.t y0,CA.t y1,CA.t y2,CA.sref 2 0 [],CA.sref 3 0 []]),some (BC.tree [w3]),some (BC.tree [w4])] ++ List.replicate 61 (none),List.replicate 6 (AV.one CA.junk)⟩
def f12_2_S  (y0 y1 y2 w3 w4:TV):ASt:=⟨[AV.one CA.junk,AV.one CA.junk,AV.one (CA.ptr 0 0),AV.one (CA.ptr 1 0)] ++ List.replicate 31 (AV.one CA.junk),[some (BC.cells [CA.junk,CA.junk,CA.junk,CA.junk,CA.junk]),some (BC.cells [CA.t y0,CA.t y1,CA.t y2,CA.sref 2 0 [],CA.sref 3 0 []]),some (BC.tree [w3]),some (BC.tree [w4])] ++ List.replicate 61 (none),List.replicate 6 (AV.one CA.junk)⟩
def f12_3_S  (x0 y1 y2 y3 y4 y5 y6 y7 y8 w9 w10:TV):ASt:=⟨[AV.one (CA.yl 0),AV.one (CA.ptr 0 0),AV.one CA.junk,AV.tv x0] ++ List.replicate 15 (AV.one CA.junk),[some (BC.cells [CA.t y1]),some (BC.cells [CA.junk,CA.junk,CA.junk,CA.junk,CA.junk]),some (BC.cells [CA.t y2,CA.t y3,CA.t y4,CA.sref 5 0 [],CA.sref 6 0 []]),some (BC.cells [CA.t y5,CA.t y6,CA.t y7,CA.sref 5 0 [],CA.sref 6 0 []]),some (BC.cells [CA.t y8]),some (BC.tree [w9]),some (BC.tree [w10])] ++ List.replicate 106 (none),(List.replicate 8 (AV.one CA.junk) ++ [AV.one (CA.ptr 1 0),AV.one (CA.ptr 2 0)] ++ List.replicate 32 (AV.one CA.junk) ++ [AV.one (CA.ptr 3 0),AV.one CA.junk,AV.one (CA.ptr 4 0)] ++ List.replicate 6 (AV.one CA.junk) ++ [AV.clo 64 [CA.ptr 0 0]] ++ List.replicate 18 (AV.one CA.junk))⟩
def f12_M (x0:TV):Prg TV :=
 chk (TV.isAgg x0 3) (
 call 28 [agg [cell x0 0,cell x0 1,cell x0 2]] fun v0 =>
 chk (fitsAt zBool [v0] 0) (
 tv (pun .not v0) fun v1 =>
 Prg.ite (asBool v1) (
 chk true (
 ret (TV.lit nilV))) (
 tv (plen (.slice 55) (cell x0 2)) fun v2 =>
 nat (asNat v2) fun n3 =>
 nat (asNat v2) fun n4 =>
 chk (Bool.and (Nat.ble n3 n4) (Nat.ble n4 4294967296)) (
 tv (plen (.slice 55) (cell x0 2)) fun v5 =>
 nat (asNat v5) fun n6 =>
 nat (asNat v5) fun n7 =>
 chk (Bool.and (Nat.ble n6 n7) (Nat.ble n7 4294967296)) (
 tv (plen (.slice 55) (cell x0 2)) fun v8 =>
 jmp [0,0,1,0,1,1,1,4,0,1] (f12_0_S v8 (I 0) (cell x0 0) (cell x0 1) (cell x0 2) (cell x0 0) (cell x0 1) (cell x0 2) (TV.sl true 1 (List.replicate n3 [TV.lit nilV])) (TV.sl true 1 (List.replicate n6 [TV.lit nilV]))))))))
def f12_0  (x0 x1 y2 y3 y4 y5 y6 y7 w8 w9:TV):Prg TV :=
 tv (pbin (.int .i64) .lss x1 x0) fun v9 =>
 Prg.ite (asBool v9) (
 nat (asNat y3) fun n10 =>
 nat (asNat y3) fun n11 =>
 chk (Bool.and (Nat.ble n10 n11) (Nat.ble n11 4294967296)) (
 tvs (pidx 14 y7 x1) fun e12 =>
 chk (Nat.ble 14 (List.length e12)) (
 call 45 [agg [nth hole e12 0,nth hole e12 1,nth hole e12 2,nth hole e12 3,nth hole e12 4,nth hole e12 5,nth hole e12 6,nth hole e12 7,nth hole e12 8,nth hole e12 9,nth hole e12 10,nth hole e12 11,nth hole e12 12,nth hole e12 13],frz (TV.sl true 1 (List.replicate n10 [B false]))] fun v13 =>
 chk (fitsAt zSl [v13] 0) (
 nat (slLen w8) fun n14 =>
 nat (asNat x1) fun n15 =>
 chk (Bool.and (slSize w8 1) (Nat.blt n15 n14)) (
 tvs (pel w8 n15) fun e16 =>
 chk (Bool.and (fitsOld zSl e16 0) (fitsAt zSl [v13] 0)) (
 tv (setC [] w8 n15 0 [v13]) fun v17 =>
 nat (slLen w9) fun n18 =>
 nat (asNat x1) fun n19 =>
 chk (Bool.and (slSize w9 1) (Nat.blt n19 n18)) (
 tvs (pel w9 n19) fun e20 =>
 chk (Bool.and (fitsOld zSl e20 0) (fitsAt zSl [TV.sl true 1 (List.replicate n10 [B false])] 0)) (
 tv (setC [] w9 n19 0 [TV.sl true 1 (List.replicate n10 [B false])]) fun v21 =>
 tv (pbin (.int .i64) .add x1 (I 1)) fun v22 =>
 jmp [0,0,1,0,1,1,1,4,0,1] (f12_0_S x0 v22 y2 y3 y4 y5 y6 y7 v17 v21))))))))) (
 jmp [1,1,1,1,4,0,1] (f12_1_S y5 y6 y7 w8 w9))
def f12_1  (y0 y1 y2 w3 w4:TV):Prg TV :=
 jmp [0,0,0,1,1,1,1,4,0,1] (f12_2_S y0 y1 y2 w3 w4)
def f12_2  (y0 y1 y2 w3 w4:TV):Prg TV :=
 tv (plen (.slice 55) y2) fun v23 =>
 tv (pbin (.int .i64) .sub v23 (I 1)) fun v24 =>
 jmp [0,0,1,64,0,1,0,1,1,4,0,0,0,0,0,1,1,1,1,4,0,1] (f12_3_S v24 y2 y0 y1 y2 y0 y1 y2 (B false) w3 w4)
def f12_3  (x0 y1 y2 y3 y4 y5 y6 y7 y8 w9 w10:TV):Prg TV :=
 tv (pbin (.int .i64) .geq x0 (I 0)) fun v25 =>
 Prg.ite (asBool v25) (
 tvs (pidx 14 y1 x0) fun e26 =>
 chk (Nat.ble 14 (List.length e26)) (
 call 47 [agg [y5,y6,y7,frz w9,frz w10],agg [nth hole e26 0,nth hole e26 1,nth hole e26 2,nth hole e26 3,nth hole e26 4,nth hole e26 5,nth hole e26 6,nth hole e26 7,nth hole e26 8,nth hole e26 9,nth hole e26 10,nth hole e26 11,nth hole e26 12,nth hole e26 13]] fun v27 =>
 chk (fitsAt zSl [v27] 0) (
 nat (slLen w10) fun n28 =>
 nat (asNat x0) fun n29 =>
 chk (Bool.and (slSize w10 1) (Nat.blt n29 n28)) (
 tvs (pel w10 n29) fun e30 =>
 chk (fitsAt zSl e30 0) (
 tv (getP [(n29,0)] w10) fun v31 =>
 call 48 [frz v27,frz v31] fun v32 =>
 chk (fitsAt zBool [v32] 0) (
 tv (pun .not v32) fun v33 =>
 Prg.ite (asBool v33) (
 tvs (pidx 14 y7 x0) fun e34 =>
 chk (Nat.ble 14 (List.length e34)) (
 call 45 [agg [nth hole e34 0,nth hole e34 1,nth hole e34 2,nth hole e34 3,nth hole e34 4,nth hole e34 5,nth hole e34 6,nth hole e34 7,nth hole e34 8,nth hole e34 9,nth hole e34 10,nth hole e34 11,nth hole e34 12,nth hole e34 13],frz v27] fun v35 =>
 chk (fitsAt zSl [v35] 0) (
 nat (slLen w9) fun n36 =>
 nat (asNat x0) fun n37 =>
 chk (Bool.and (slSize w9 1) (Nat.blt n37 n36)) (
 tvs (pel w9 n37) fun e38 =>
 chk (Bool.and (fitsOld zSl e38 0) (fitsAt zSl [v35] 0)) (
 tv (setC [] w9 n37 0 [v35]) fun v39 =>
 nat (slLen w10) fun n40 =>
 nat (asNat x0) fun n41 =>
 chk (Bool.and (slSize w10 1) (Nat.blt n41 n40)) (
 tvs (pel w10 n41) fun e42 =>
 chk (Bool.and (fitsOld zSl e42 0) (fitsAt zSl [v27] 0)) (
 tv (setC [] w10 n41 0 [v27]) fun v43 =>
 tv (pbin (.int .i64) .sub x0 (I 1)) fun v44 =>
 jmp [0,0,1,64,0,1,0,1,1,4,0,0,0,0,0,1,1,1,1,4,0,1] (f12_3_S v44 y1 y2 y3 y4 y5 y6 y7 (B true) v39 v43)))))))) (
 tv (pbin (.int .i64) .sub x0 (I 1)) fun v45 =>
 jmp [0,0,1,64,0,1,0,1,1,4,0,0,0,0,0,1,1,1,1,4,0,1] (f12_3_S v45 y1 y2 y3 y4 y5 y6 y7 y8 w9 w10)))))))) (
 Prg.ite (asBool y8) (
 jmp [0,0,0,1,1,1,1,4,0,1] (f12_2_S y2 y3 y4 w9 w10)) (
 chk (isOwn w10) (
 ret w10)))
theorem f12_MR (x0:TV):startQ prog 12 [x0]=f12_M x0:=by kernel_rfl
theorem f12_0_J  {x0 x1 y2 y3 y4 y5 y6 y7 w8 w9:TV} {r:TV} (h:Goes prog 12 (f12_0 x0 x1 y2 y3 y4 y5 y6 y7 w8 w9) r):Goes prog 12 (.jmp [0,0,1,0,1,1,1,4,0,1] (f12_0_S x0 x1 y2 y3 y4 y5 y6 y7 w8 w9)) r:=Goes.jmp (by kernel_rfl) h
theorem f12_1_J  {y0 y1 y2 w3 w4:TV} {r:TV} (h:Goes prog 12 (f12_1 y0 y1 y2 w3 w4) r):Goes prog 12 (.jmp [1,1,1,1,4,0,1] (f12_1_S y0 y1 y2 w3 w4)) r:=Goes.jmp (by kernel_rfl) h
theorem f12_2_J  {y0 y1 y2 w3 w4:TV} {r:TV} (h:Goes prog 12 (f12_2 y0 y1 y2 w3 w4) r):Goes prog 12 (.jmp [0,0,0,1,1,1,1,4,0,1] (f12_2_S y0 y1 y2 w3 w4)) r:=Goes.jmp (by kernel_rfl) h
theorem f12_3_J  {x0 y1 y2 y3 y4 y5 y6 y7 y8 w9 w10:TV} {r:TV} (h:Goes prog 12 (f12_3 x0 y1 y2 y3 y4 y5 y6 y7 y8 w9 w10) r):Goes prog 12 (.jmp [0,0,1,64,0,1,0,1,1,4,0,0,0,0,0,1,1,1,1,4,0,1] (f12_3_S x0 y1 y2 y3 y4 y5 y6 y7 y8 w9 w10)) r:=Goes.jmp (by kernel_rfl) h
def f13_0_S  (x0 x1 y2 y3 y4 y5 y6 y7 y8:TV):ASt:=⟨[AV.one CA.junk,AV.one (CA.ptr 0 0),AV.one CA.junk,AV.one CA.junk,AV.tv x0,AV.tv x1] ++ List.replicate 24 (AV.one CA.junk),[some (BC.cells [CA.t y2,CA.t y3,CA.t y4,CA.t y5,CA.t y6,CA.t y7,CA.t y8])] ++ List.replicate 53 (none),[]⟩
def f13_1_S  (x0 x1 y2 y3 y4 y5 y6 y7 y8:TV):ASt:=⟨[AV.one CA.junk,AV.one (CA.ptr 0 0),AV.one CA.junk,AV.one CA.junk,AV.tv x0] ++ List.replicate 7 (AV.one CA.junk) ++ [AV.tv x1] ++ List.replicate 17 (AV.one CA.junk),[some (BC.cells [CA.t y2,CA.t y3,CA.t y4,CA.t y5,CA.t y6,CA.t y7,CA.t y8])] ++ List.replicate 53 (none),[]⟩
def f13_M (x0:TV):Prg TV :=
 chk (TV.isAgg x0 7) (
 tv (pbin (.int .i64) .eql (cell x0 0) (I 2)) fun v0 =>
 Prg.ite (asBool v0) (
 jmp [1,0,1,0,1] (f13_0_S (cell x0 0) v0 (cell x0 0) (cell x0 1) (cell x0 2) (cell x0 3) (cell x0 4) (cell x0 5) (cell x0 6))) (
 tv (pbin (.int .i64) .eql (cell x0 0) (I 9)) fun v1 =>
 Prg.ite (asBool v1) (
 jmp [1,0,1,0,1] (f13_0_S (cell x0 0) v1 (cell x0 0) (cell x0 1) (cell x0 2) (cell x0 3) (cell x0 4) (cell x0 5) (cell x0 6))) (
 tv (pbin (.int .i64) .eql (cell x0 0) (I 12)) fun v2 =>
 jmp [1,0,1,0,1] (f13_0_S (cell x0 0) v2 (cell x0 0) (cell x0 1) (cell x0 2) (cell x0 3) (cell x0 4) (cell x0 5) (cell x0 6)))))
def f13_0  (x0 x1 y2 y3 y4 y5 y6 y7 y8:TV):Prg TV :=
 Prg.ite (asBool x1) (
 chk (isOwn (TV.sl true 1 (chunks 1 1 [y4]))) (
 ret (TV.sl true 1 (chunks 1 1 [y4])))) (
 tv (pbin (.int .i64) .eql x0 (I 3)) fun v3 =>
 Prg.ite (asBool v3) (
 jmp [1,1,1,0,1,0,1] (f13_1_S x0 v3 y2 y3 y4 y5 y6 y7 y8)) (
 tv (pbin (.int .i64) .eql x0 (I 4)) fun v4 =>
 Prg.ite (asBool v4) (
 jmp [1,1,1,0,1,0,1] (f13_1_S x0 v4 y2 y3 y4 y5 y6 y7 y8)) (
 tv (pbin (.int .i64) .eql x0 (I 5)) fun v5 =>
 Prg.ite (asBool v5) (
 jmp [1,1,1,0,1,0,1] (f13_1_S x0 v5 y2 y3 y4 y5 y6 y7 y8)) (
 tv (pbin (.int .i64) .eql x0 (I 6)) fun v6 =>
 Prg.ite (asBool v6) (
 jmp [1,1,1,0,1,0,1] (f13_1_S x0 v6 y2 y3 y4 y5 y6 y7 y8)) (
 tv (pbin (.int .i64) .eql x0 (I 7)) fun v7 =>
 Prg.ite (asBool v7) (
 jmp [1,1,1,0,1,0,1] (f13_1_S x0 v7 y2 y3 y4 y5 y6 y7 y8)) (
 tv (pbin (.int .i64) .eql x0 (I 8)) fun v8 =>
 Prg.ite (asBool v8) (
 jmp [1,1,1,0,1,0,1] (f13_1_S x0 v8 y2 y3 y4 y5 y6 y7 y8)) (
 tv (pbin (.int .i64) .eql x0 (I 10)) fun v9 =>
 jmp [1,1,1,0,1,0,1] (f13_1_S x0 v9 y2 y3 y4 y5 y6 y7 y8))))))))
def f13_1  (x0 x1 y2 y3 y4 y5 y6 y7 y8:TV):Prg TV :=
 Prg.ite (asBool x1) (
 chk (isOwn (TV.sl true 1 (chunks 1 2 [y4,y5]))) (
 ret (TV.sl true 1 (chunks 1 2 [y4,y5])))) (
 tv (pbin (.int .i64) .eql x0 (I 11)) fun v10 =>
 Prg.ite (asBool v10) (
 call 20 [y8] fun v11 =>
 chk (fitsAt zSl [v11] 0) (
 chk (isOwn v11) (
 ret v11))) (
 chk true (
 ret (TV.lit nilV))))
theorem f13_MR (x0:TV):startQ prog 13 [x0]=f13_M x0:=by kernel_rfl
theorem f13_0_J  {x0 x1 y2 y3 y4 y5 y6 y7 y8:TV} {r:TV} (h:Goes prog 13 (f13_0 x0 x1 y2 y3 y4 y5 y6 y7 y8) r):Goes prog 13 (.jmp [1,0,1,0,1] (f13_0_S x0 x1 y2 y3 y4 y5 y6 y7 y8)) r:=Goes.jmp (by kernel_rfl) h
theorem f13_1_J  {x0 x1 y2 y3 y4 y5 y6 y7 y8:TV} {r:TV} (h:Goes prog 13 (f13_1 x0 x1 y2 y3 y4 y5 y6 y7 y8) r):Goes prog 13 (.jmp [1,1,1,0,1,0,1] (f13_1_S x0 x1 y2 y3 y4 y5 y6 y7 y8)) r:=Goes.jmp (by kernel_rfl) h
end Go.Ab.A10
end

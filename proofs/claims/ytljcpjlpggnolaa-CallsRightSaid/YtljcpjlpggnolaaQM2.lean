import Derived.Test.YtljcpjlpggnolaaQC11T
import Derived.Test.YtljcpjlpggnolaaQC11Xa
import Derived.Test.YtljcpjlpggnolaaQC11Xb
import Derived.OpenShut
import Derived.Test.YtljcpjlpggnolaaQM0
import Derived.Below
import Derived.Orders
import Derived.Laws.Cells
import Derived.Laws.OwnMore
import Derived.Laws.CopyOwn
import Derived.Maps.AppendAt
import Derived.Lib.FrozenHead
set_option linter.all false
section
set_option maxRecDepth 100000
namespace Go.Ab.C11
open Go Go.Ab Go.Proofs
open Go.Ab.TV (hole cell comp isSl isSc isTup cellsL tup agg)
open Go.Ab.Prg (tv tvs rws nat chk call jmp ret)
def f28_0_S  (y0 y1 w2 w3:TV):ASt:=⟨[Jk,Pt 0,Jk,Pt 1,Pt 2] ++ Rj 26,[some (BC.cells [CA.t y0,CA.t y1]),some (BC.cells [CA.sref 3 0 []]),some (BC.cells [CA.sref 4 0 []]),Tr w2,Tr w3] ++ Rz 50,[]⟩
def f28_1_S  (x0 y1 y2 w3 w4 w5:TV):ASt:=⟨[AV.one (CA.yl 0),Pt 0,Jk,AV.tv x0] ++ Rj 15,[some (BC.cells [CA.sref 4 0 []]),some (BC.cells [CA.t y1,CA.t y2]),some (BC.cells [CA.sref 5 0 []]),some (BC.cells [CA.sref 6 0 []]),Tr w3,Tr w4,Tr w5] ++ Rz 67,([Jk,Pt 1,Jk,Pt 2,Pt 3] ++ Rj 8 ++ [AV.clo 53 [CA.ptr 0 0]] ++ Rj 17)⟩
def f28_2_S  (x0 w1 y2 y3 w4 y5 y6 w7 w8 x9:TV):ASt:=⟨[Jk,Jk,Sr 0,Pt 1,Jk,Jk,Jk,Sr 2,AV.tv x0] ++ Rj 42,[Tr w1,some (BC.cells [CA.t y2,CA.t y3]),Tr w4,some (BC.cells [CA.t y5,CA.t y6]),some (BC.cells [CA.sref 7 0 []]),some (BC.cells [CA.sref 0 0 []]),some (BC.cells [CA.sref 8 0 []]),Tr w7,Tr w8] ++ Rz 147,([Jk,Pt 3,Jk,Pt 4,Pt 5] ++ Rj 8 ++ [AV.clo 53 [CA.ptr 6 0]] ++ Rj 17 ++ [AV.one (CA.yl 0),Pt 6,Jk,AV.tv x9] ++ Rj 18 ++ [Pt 4] ++ Rj 17 ++ [Sr 7] ++ Rj 9)⟩
def f28_3_S  (x0 x1 x2 x3 w4 y5 y6 w7 y8 y9 w10 w11 x12:TV):ASt:=⟨[Jk,Jk,Sr 0,Pt 1,Jk,Jk,Jk,Sr 2,AV.tv x0] ++ Rj 20 ++ [AV.tv x1,AV.tv x2,AV.tv x3] ++ Rj 19,[Tr w4,some (BC.cells [CA.t y5,CA.t y6]),Tr w7,some (BC.cells [CA.t y8,CA.t y9]),some (BC.cells [CA.sref 7 0 []]),some (BC.cells [CA.sref 0 0 []]),some (BC.cells [CA.sref 8 0 []]),Tr w10,Tr w11] ++ Rz 147,([Jk,Pt 3,Jk,Pt 4,Pt 5] ++ Rj 8 ++ [AV.clo 53 [CA.ptr 6 0]] ++ Rj 17 ++ [AV.one (CA.yl 0),Pt 6,Jk,AV.tv x12] ++ Rj 18 ++ [Pt 4] ++ Rj 17 ++ [Sr 7] ++ Rj 9)⟩
def f28_M (x0:TV):Prg TV :=
 chk (TV.isAgg x0 2) (
 tv (plen (.slice 28) (cell x0 0)) fun v0 =>
 nat (ae v0) fun n1 =>
 nat (ae v0) fun n2 =>
 chk (Bool.and (Nat.ble n1 n2) (Nat.ble n2 4294967296)) (
 chk true (
 jmp [1,1,1] (f28_0_S (cell x0 0) (cell x0 1) (TV.lit aK) (TV.sl true 1 (List.replicate n1 [B false]))))))
def f28_0  (y0 y1 w2 w3:TV):Prg TV :=
 call 36 [agg [y0,y1]] fun v3 =>
 chk (ab zSl [v3] 0) (
 tv (plen (.slice 3) v3) fun v4 =>
 tv (pbin (.int .i64) .sub v4 (I 1)) fun v5 =>
 jmp [0,0,1,53,0,1,0,1,1,1] (f28_1_S v5 y0 y1 v3 w2 w3))
def f28_1  (x0 y1 y2 w3 w4 w5:TV):Prg TV :=
 tv (pbin (.int .i64) .geq x0 (I 0)) fun v6 =>
 Prg.ite (asBool v6) (
 nat (slLen w3) fun n7 =>
 nat (ae x0) fun n8 =>
 chk (Bool.and (slSize w3 1) (Nat.blt n8 n7)) (
 tvs (pel w3 n8) fun e9 =>
 chk (ab bF e9 0) (
 nat (slLen w5) fun n10 =>
 nat (ae (nth hole e9 0)) fun n11 =>
 chk (Bool.and (slSize w5 1) (Nat.blt n11 n10)) (
 tvs (pel w5 n11) fun e12 =>
 chk (ab cF e12 0) (
 tv (pun .not (nth hole e12 0)) fun v13 =>
 Prg.ite (asBool v13) (
 nat (slLen w5) fun n14 =>
 nat (ae (nth hole e9 0)) fun n15 =>
 chk (Bool.and (slSize w5 1) (Nat.blt n15 n14)) (
 tvs (pel w5 n15) fun e16 =>
 chk (ab cF e16 0) (
 tv (dN [] w5 n15 0 [B true]) fun v17 =>
 jmp [0,0,1,0,1,1,1,10,0,1,0,2015,0,0,0,1,0,0,1,53,0,1,0,1,1,1] (f28_2_S (I 0) v17 y1 y2 (TV.sl true 1 (chunks 1 1 [nth hole e9 0])) y1 y2 w4 w3 x0)))) (
 tv (pbin (.int .i64) .sub x0 (I 1)) fun v18 =>
 jmp [0,0,1,53,0,1,0,1,1,1] (f28_1_S v18 y1 y2 w3 w4 w5))))))) (
 call 38 [w4,TV.lit (Value.func (Fn.func 39) (Array.mk []) (Array.mk []))] fun v19 =>
 tv (pput 0 w4 v19) fun v20 =>
 chk (bY v20) (
 ret v20))
def f28_2  (x0 w1 y2 y3 w4 y5 y6 w7 w8 x9:TV):Prg TV :=
 tv (plen (.slice 3) w4) fun v21 =>
 tv (pbin (.int .i64) .lss x0 v21) fun v22 =>
 Prg.ite (asBool v22) (
 nat (slLen w4) fun n23 =>
 nat (ae x0) fun n24 =>
 chk (Bool.and (slSize w4 1) (Nat.blt n24 n23)) (
 tvs (pel w4 n24) fun e25 =>
 chk (ab bF e25 0) (
 tvs (pidx 1 y3 (nth hole e25 0)) fun e26 =>
 chk (Nat.blt 0 (List.length e26)) (
 tv (plen (.slice 3) (nth hole e26 0)) fun v27 =>
 jmp [0,0,1,0,0,1,0,0,1,0,1,1,1,10,0,1,0,2015,0,0,0,1,0,0,1,53,0,1,0,1,1,1] (f28_3_S x0 (nth hole e26 0) v27 (I 0) w1 y2 y3 w4 y5 y6 w7 w8 x9))))) (
 call 22 [w4] fun v28 =>
 tv (pput 0 w4 v28) fun v29 =>
 rws (pelems 1 (TV.sl true 1 (chunks 1 1 [v29]))) fun r30 =>
 tv (papp 1 w7 r30) fun v31 =>
 tv (pbin (.int .i64) .sub x9 (I 1)) fun v32 =>
 jmp [0,0,1,53,0,1,0,1,1,1] (f28_1_S v32 y5 y6 w8 v31 w1))
def f28_3  (x0 x1 x2 x3 w4 y5 y6 w7 y8 y9 w10 w11 x12:TV):Prg TV :=
 tv (pbin (.int .i64) .lss x3 x2) fun v33 =>
 Prg.ite (asBool v33) (
 tvs (pidx 1 x1 x3) fun e34 =>
 chk (Nat.blt 0 (List.length e34)) (
 nat (slLen w4) fun n35 =>
 nat (ae (nth hole e34 0)) fun n36 =>
 chk (Bool.and (slSize w4 1) (Nat.blt n36 n35)) (
 tvs (pel w4 n36) fun e37 =>
 chk (ab cF e37 0) (
 tv (pun .not (nth hole e37 0)) fun v38 =>
 Prg.ite (asBool v38) (
 nat (slLen w4) fun n39 =>
 nat (ae (nth hole e34 0)) fun n40 =>
 chk (Bool.and (slSize w4 1) (Nat.blt n40 n39)) (
 tvs (pel w4 n40) fun e41 =>
 chk (ab cF e41 0) (
 tv (dN [] w4 n40 0 [B true]) fun v42 =>
 rws (pelems 1 (TV.sl true 1 (chunks 1 1 [nth hole e34 0]))) fun r43 =>
 tv (papp 1 w7 (j4 r43)) fun v44 =>
 tv (pbin (.int .i64) .add x3 (I 1)) fun v45 =>
 jmp [0,0,1,0,0,1,0,0,1,0,1,1,1,10,0,1,0,2015,0,0,0,1,0,0,1,53,0,1,0,1,1,1] (f28_3_S x0 x1 x2 v45 v42 y5 y6 v44 y8 y9 w10 w11 x12)))) (
 tv (pbin (.int .i64) .add x3 (I 1)) fun v46 =>
 jmp [0,0,1,0,0,1,0,0,1,0,1,1,1,10,0,1,0,2015,0,0,0,1,0,0,1,53,0,1,0,1,1,1] (f28_3_S x0 x1 x2 v46 w4 y5 y6 w7 y8 y9 w10 w11 x12)))))) (
 tv (pbin (.int .i64) .add x0 (I 1)) fun v47 =>
 jmp [0,0,1,0,1,1,1,10,0,1,0,2015,0,0,0,1,0,0,1,53,0,1,0,1,1,1] (f28_2_S v47 w4 y5 y6 w7 y8 y9 w10 w11 x12))
theorem f28_MR (x0:TV):cb prog 28 [x0]=f28_M x0:=by kernel_rfl
theorem f28_0_J  {y0 y1 w2 w3:TV} {r:TV} (h:aa prog 28 (f28_0 y0 y1 w2 w3) r):aa prog 28 (.jmp [1,1,1] (f28_0_S y0 y1 w2 w3)) r:=aa.jmp (by kernel_rfl) h
theorem f28_1_J  {x0 y1 y2 w3 w4 w5:TV} {r:TV} (h:aa prog 28 (f28_1 x0 y1 y2 w3 w4 w5) r):aa prog 28 (.jmp [0,0,1,53,0,1,0,1,1,1] (f28_1_S x0 y1 y2 w3 w4 w5)) r:=aa.jmp (by kernel_rfl) h
theorem f28_2_J  {x0 w1 y2 y3 w4 y5 y6 w7 w8 x9:TV} {r:TV} (h:aa prog 28 (f28_2 x0 w1 y2 y3 w4 y5 y6 w7 w8 x9) r):aa prog 28 (.jmp [0,0,1,0,1,1,1,10,0,1,0,2015,0,0,0,1,0,0,1,53,0,1,0,1,1,1] (f28_2_S x0 w1 y2 y3 w4 y5 y6 w7 w8 x9)) r:=aa.jmp (by kernel_rfl) h
theorem f28_3_J  {x0 x1 x2 x3 w4 y5 y6 w7 y8 y9 w10 w11 x12:TV} {r:TV} (h:aa prog 28 (f28_3 x0 x1 x2 x3 w4 y5 y6 w7 y8 y9 w10 w11 x12) r):aa prog 28 (.jmp [0,0,1,0,0,1,0,0,1,0,1,1,1,10,0,1,0,2015,0,0,0,1,0,0,1,53,0,1,0,1,1,1] (f28_3_S x0 x1 x2 x3 w4 y5 y6 w7 y8 y9 w10 w11 x12)) r:=aa.jmp (by kernel_rfl) h
def f32_0_S  (x0 x1 x2 x3 y4 y5 w6:TV):ASt:=⟨[Jk,AV.tv x0,Pt 0,Jk,Jk,Sr 1] ++ Rj 13 ++ [AV.tv x1,AV.tv x2,AV.tv x3] ++ Rj 64,[some (BC.cells [CA.t y4,CA.t y5]),Tr w6] ++ Rz 108,[]⟩
def f32_1_S  (x0 x1 x2 x3 x4 x5 x6 x7 y8 y9 w10:TV):ASt:=⟨[Jk,AV.tv x0,Pt 0,Jk,Jk,Sr 1,AV.tv x1] ++ Rj 12 ++ [AV.tv x2,AV.tv x3,AV.tv x4] ++ Rj 4 ++ [AV.tv x5,AV.tv x6,AV.tv x7] ++ Rj 57,[some (BC.cells [CA.t y8,CA.t y9]),Tr w10] ++ Rz 108,[]⟩
def f32_2_S  (x0 y1 y2 w3:TV):ASt:=⟨[Jk,AV.tv x0,Pt 0,Jk,Jk,Sr 1] ++ Rj 80,[some (BC.cells [CA.t y1,CA.t y2]),Tr w3] ++ Rz 108,[]⟩
def f32_3_S  (x0 x1 x2 w3 w4:TV):ASt:=⟨Rj 5 ++ [Sr 0] ++ Rj 4 ++ [Sr 1] ++ Rj 31 ++ [AV.tv x0,AV.tv x1,AV.tv x2] ++ Rj 41,[Tr w3,Tr w4] ++ Rz 108,[]⟩
def f32_4_S  (x0 x1 x2 x3 x4 x5 x6 w7 w8:TV):ASt:=⟨Rj 5 ++ [Sr 0] ++ Rj 4 ++ [Sr 1,AV.tv x0] ++ Rj 30 ++ [AV.tv x1,AV.tv x2,AV.tv x3] ++ Rj 4 ++ [AV.tv x4,AV.tv x5,AV.tv x6] ++ Rj 34,[Tr w7,Tr w8] ++ Rz 108,[]⟩
def f32_M (x0 x1:TV):Prg TV :=
 chk (TV.isAgg x0 2) (
 tv (plen (.slice 28) (cell x0 0)) fun v0 =>
 nat (ae v0) fun n1 =>
 nat (ae v0) fun n2 =>
 chk (Bool.and (Nat.ble n1 n2) (Nat.ble n2 4294967296)) (
 tv (plen (.slice 28) x1) fun v3 =>
 jmp [0,0,1,0,1,1] (f32_0_S x1 x1 v3 (I 0) (cell x0 0) (cell x0 1) (TV.sl true 1 (List.replicate n1 [I 0])))))
def f32_0  (x0 x1 x2 x3 y4 y5 w6:TV):Prg TV :=
 tv (pbin (.int .i64) .lss x3 x2) fun v4 =>
 Prg.ite (asBool v4) (
 tvs (pidx 1 x1 x3) fun e5 =>
 chk (Nat.blt 0 (List.length e5)) (
 tv (plen (.slice 3) (nth hole e5 0)) fun v6 =>
 jmp [0,0,1,1,0,0,1,1,0,0,1,0,1,1] (f32_1_S x0 x3 x1 x2 x3 (nth hole e5 0) v6 (I 0) y4 y5 w6))) (
 jmp [1,1,1] (f32_2_S x0 y4 y5 w6))
def f32_1  (x0 x1 x2 x3 x4 x5 x6 x7 y8 y9 w10:TV):Prg TV :=
 tv (pbin (.int .i64) .lss x7 x6) fun v7 =>
 Prg.ite (asBool v7) (
 tvs (pidx 1 x5 x7) fun e8 =>
 chk (Nat.blt 0 (List.length e8)) (
 nat (slLen w10) fun n9 =>
 nat (ae (nth hole e8 0)) fun n10 =>
 chk (Bool.and (slSize w10 1) (Nat.blt n10 n9)) (
 chk (TV.ga x1) (
 tvs (pel w10 n10) fun e11 =>
 chk (ab bF e11 0) (
 tv (dN [] w10 n10 0 [x1]) fun v12 =>
 tv (pbin (.int .i64) .add x7 (I 1)) fun v13 =>
 jmp [0,0,1,1,0,0,1,1,0,0,1,0,1,1] (f32_1_S x0 x1 x2 x3 x4 x5 x6 v13 y8 y9 v12)))))) (
 tv (pbin (.int .i64) .add x4 (I 1)) fun v14 =>
 jmp [0,0,1,0,1,1] (f32_0_S x0 x2 x3 v14 y8 y9 w10))
def f32_2  (x0 y1 y2 w3:TV):Prg TV :=
 tv (plen (.slice 28) x0) fun v15 =>
 nat (ae v15) fun n16 =>
 nat (ae v15) fun n17 =>
 chk (Bool.and (Nat.ble n16 n17) (Nat.ble n17 4294967296)) (
 tv (plen (.slice 28) y1) fun v18 =>
 jmp [0,0,1,0,1,1,1,1] (f32_3_S y1 v18 (I 0) w3 (TV.sl true 1 (List.replicate n16 [TV.lit aK]))))
def f32_3  (x0 x1 x2 w3 w4:TV):Prg TV :=
 tv (pbin (.int .i64) .lss x2 x1) fun v19 =>
 Prg.ite (asBool v19) (
 tvs (pidx 1 x0 x2) fun e20 =>
 chk (Nat.blt 0 (List.length e20)) (
 tv (plen (.slice 3) (nth hole e20 0)) fun v21 =>
 jmp [0,0,1,1,0,0,1,1,0,0,1,0,1,1,1,1] (f32_4_S x2 x0 x1 x2 (nth hole e20 0) v21 (I 0) w3 w4))) (
 chk (bY w4) (
 ret w4))
def f32_4  (x0 x1 x2 x3 x4 x5 x6 w7 w8:TV):Prg TV :=
 tv (pbin (.int .i64) .lss x6 x5) fun v22 =>
 Prg.ite (asBool v22) (
 tvs (pidx 1 x4 x6) fun e23 =>
 chk (Nat.blt 0 (List.length e23)) (
 nat (slLen w7) fun n24 =>
 nat (ae x0) fun n25 =>
 chk (Bool.and (slSize w7 1) (Nat.blt n25 n24)) (
 tvs (pel w7 n25) fun e26 =>
 chk (ab bF e26 0) (
 nat (slLen w7) fun n27 =>
 nat (ae (nth hole e23 0)) fun n28 =>
 chk (Bool.and (slSize w7 1) (Nat.blt n28 n27)) (
 tvs (pel w7 n28) fun e29 =>
 chk (ab bF e29 0) (
 tv (pbin (.int .i64) .neq (nth hole e26 0) (nth hole e29 0)) fun v30 =>
 Prg.ite (asBool v30) (
 nat (slLen w7) fun n31 =>
 nat (ae (nth hole e23 0)) fun n32 =>
 chk (Bool.and (slSize w7 1) (Nat.blt n32 n31)) (
 tvs (pel w7 n32) fun e33 =>
 chk (ab bF e33 0) (
 nat (slLen w7) fun n34 =>
 nat (ae (nth hole e23 0)) fun n35 =>
 chk (Bool.and (slSize w7 1) (Nat.blt n35 n34)) (
 tvs (pel w7 n35) fun e36 =>
 chk (ab bF e36 0) (
 nat (slLen w8) fun n37 =>
 nat (ae (nth hole e36 0)) fun n38 =>
 chk (Bool.and (slSize w8 1) (Nat.blt n38 n37)) (
 tvs (pel w8 n38) fun e39 =>
 chk (ab zSl e39 0) (
 nat (slLen w7) fun n40 =>
 nat (ae x0) fun n41 =>
 chk (Bool.and (slSize w7 1) (Nat.blt n41 n40)) (
 tvs (pel w7 n41) fun e42 =>
 chk (ab bF e42 0) (
 rws (pelems 1 (TV.sl true 1 (chunks 1 1 [nth hole e42 0]))) fun r43 =>
 tv (bD [(n38,0)] w8) fun v44 =>
 tv (papp 1 v44 (j4 r43)) fun v45 =>
 tv (je [(n38,0)] w8 hole) fun v46 =>
 nat (slLen v46) fun n47 =>
 nat (ae (nth hole e33 0)) fun n48 =>
 chk (Bool.and (slSize v46 1) (Nat.blt n48 n47)) (
 tvs (pel v46 n48) fun e49 =>
 chk (Bool.and (ei zSl e49 0) (ab zSl [v45] 0)) (
 tv (dN [] v46 n48 0 [v45]) fun v50 =>
 tv (pbin (.int .i64) .add x6 (I 1)) fun v51 =>
 jmp [0,0,1,1,0,0,1,1,0,0,1,0,1,1,1,1] (f32_4_S x0 x1 x2 x3 x4 x5 v51 w7 v50)))))))))))) (
 tv (pbin (.int .i64) .add x6 (I 1)) fun v52 =>
 jmp [0,0,1,1,0,0,1,1,0,0,1,0,1,1,1,1] (f32_4_S x0 x1 x2 x3 x4 x5 v52 w7 w8)))))))) (
 tv (pbin (.int .i64) .add x3 (I 1)) fun v53 =>
 jmp [0,0,1,0,1,1,1,1] (f32_3_S x1 x2 v53 w7 w8))
theorem f32_MR (x0 x1:TV):cb prog 32 [x0,x1]=f32_M x0 x1:=by kernel_rfl
theorem f32_0_J  {x0 x1 x2 x3 y4 y5 w6:TV} {r:TV} (h:aa prog 32 (f32_0 x0 x1 x2 x3 y4 y5 w6) r):aa prog 32 (.jmp [0,0,1,0,1,1] (f32_0_S x0 x1 x2 x3 y4 y5 w6)) r:=aa.jmp (by kernel_rfl) h
theorem f32_1_J  {x0 x1 x2 x3 x4 x5 x6 x7 y8 y9 w10:TV} {r:TV} (h:aa prog 32 (f32_1 x0 x1 x2 x3 x4 x5 x6 x7 y8 y9 w10) r):aa prog 32 (.jmp [0,0,1,1,0,0,1,1,0,0,1,0,1,1] (f32_1_S x0 x1 x2 x3 x4 x5 x6 x7 y8 y9 w10)) r:=aa.jmp (by kernel_rfl) h
theorem f32_2_J  {x0 y1 y2 w3:TV} {r:TV} (h:aa prog 32 (f32_2 x0 y1 y2 w3) r):aa prog 32 (.jmp [1,1,1] (f32_2_S x0 y1 y2 w3)) r:=aa.jmp (by kernel_rfl) h
theorem f32_3_J  {x0 x1 x2 w3 w4:TV} {r:TV} (h:aa prog 32 (f32_3 x0 x1 x2 w3 w4) r):aa prog 32 (.jmp [0,0,1,0,1,1,1,1] (f32_3_S x0 x1 x2 w3 w4)) r:=aa.jmp (by kernel_rfl) h
theorem f32_4_J  {x0 x1 x2 x3 x4 x5 x6 w7 w8:TV} {r:TV} (h:aa prog 32 (f32_4 x0 x1 x2 x3 x4 x5 x6 w7 w8) r):aa prog 32 (.jmp [0,0,1,1,0,0,1,1,0,0,1,0,1,1,1,1] (f32_4_S x0 x1 x2 x3 x4 x5 x6 w7 w8)) r:=aa.jmp (by kernel_rfl) h
def f36_0_S  (x0 x1 y2 y3 w4:TV):ASt:=⟨[Jk,Pt 0,Jk,Sr 1] ++ Rj 6 ++ [AV.tv x0,AV.tv x1] ++ Rj 12,[some (BC.cells [CA.t y2,CA.t y3]),Tr w4] ++ Rz 46,[]⟩
def f36_1_S  (y0 y1 w2:TV):ASt:=⟨[Jk,Pt 0,Jk,Sr 1] ++ Rj 20,[some (BC.cells [CA.t y0,CA.t y1]),Tr w2] ++ Rz 46,[]⟩
def f36_2_S  (w0 y1 y2 w3 w4 w5:TV):ASt:=⟨[Jk,Sr 0] ++ Rj 5 ++ [Pt 1] ++ Rj 22,[Tr w0,some (BC.cells [CA.fn1 55 2,CA.sref 3 0 [],CA.sref 4 0 [],CA.sref 5 0 []]),some (BC.cells [CA.t y1,CA.t y2]),Tr w3,Tr w4,Tr w5] ++ Rz 72,Rj 24⟩
def f36_3_S  (x0 x1 w2 y3 y4 w5 w6 w7:TV):ASt:=⟨Rj 7 ++ [Pt 0] ++ Rj 6 ++ [Sr 1,AV.tv x0,AV.tv x1] ++ Rj 13,[some (BC.cells [CA.fn1 55 2,CA.sref 3 0 [],CA.sref 4 0 [],CA.sref 5 0 []]),Tr w2,some (BC.cells [CA.t y3,CA.t y4]),Tr w5,Tr w6,Tr w7] ++ Rz 72,Rj 24⟩
def f36_4_S  (x0 x1 w2 y3 y4 w5 w6 w7:TV):ASt:=⟨Rj 7 ++ [Pt 0] ++ Rj 6 ++ [Sr 1,AV.tv x0,AV.tv x1] ++ Rj 13,[some (BC.cells [CA.fn1 55 2,CA.sref 3 0 [],CA.sref 4 0 [],CA.sref 5 0 []]),Tr w2,some (BC.cells [CA.t y3,CA.t y4]),Tr w5,Tr w6,Tr w7] ++ Rz 72,Rj 24⟩
def f36_M (x0:TV):Prg TV :=
 chk (TV.isAgg x0 2) (
 tv (plen (.slice 28) (cell x0 0)) fun v0 =>
 nat (ae v0) fun n1 =>
 nat (ae v0) fun n2 =>
 chk (Bool.and (Nat.ble n1 n2) (Nat.ble n2 4294967296)) (
 tv (plen (.slice 3) (TV.sl true 1 (List.replicate n1 [I 0]))) fun v3 =>
 jmp [0,0,1,0,1,1] (f36_0_S v3 (I 0) (cell x0 0) (cell x0 1) (TV.sl true 1 (List.replicate n1 [I 0])))))
def f36_0  (x0 x1 y2 y3 w4:TV):Prg TV :=
 tv (pbin (.int .i64) .lss x1 x0) fun v4 =>
 Prg.ite (asBool v4) (
 nat (slLen w4) fun n5 =>
 nat (ae x1) fun n6 =>
 chk (Bool.and (slSize w4 1) (Nat.blt n6 n5)) (
 chk (TV.ga x1) (
 tvs (pel w4 n6) fun e7 =>
 chk (ab bF e7 0) (
 tv (dN [] w4 n6 0 [x1]) fun v8 =>
 tv (pbin (.int .i64) .add x1 (I 1)) fun v9 =>
 jmp [0,0,1,0,1,1] (f36_0_S x0 v9 y2 y3 v8))))) (
 jmp [1,1,1] (f36_1_S y2 y3 w4))
def f36_1  (y0 y1 w2:TV):Prg TV :=
 tv (plen (.slice 3) w2) fun v10 =>
 nat (ae v10) fun n11 =>
 nat (ae v10) fun n12 =>
 chk (Bool.and (Nat.ble n11 n12) (Nat.ble n12 4294967296)) (
 chk true (
 chk true (
 jmp [1,1,10,0,1,1,1] (f36_2_S w2 y0 y1 (TV.sl true 1 (List.replicate n11 [B false])) (TV.lit aK) (TV.lit aK)))))
def f36_2  (w0 y1 y2 w3 w4 w5:TV):Prg TV :=
 tv (plen (.slice 3) w0) fun v13 =>
 jmp [0,0,1,0,1,1,10,0,1,1,1] (f36_3_S v13 (I 0) w0 y1 y2 w3 (cJ w4) w5)
def f36_3  (x0 x1 w2 y3 y4 w5 w6 w7:TV):Prg TV :=
 tv (pbin (.int .i64) .lss x1 x0) fun v14 =>
 Prg.ite (asBool v14) (
 nat (slLen w2) fun n15 =>
 nat (ae x1) fun n16 =>
 chk (Bool.and (slSize w2 1) (Nat.blt n16 n15)) (
 tvs (pel w2 n16) fun e17 =>
 chk (ab bF e17 0) (
 nat (slLen w5) fun n18 =>
 nat (ae (nth hole e17 0)) fun n19 =>
 chk (Bool.and (slSize w5 1) (Nat.blt n19 n18)) (
 tvs (pel w5 n19) fun e20 =>
 chk (ab cF e20 0) (
 tv (pun .not (nth hole e20 0)) fun v21 =>
 Prg.ite (asBool v21) (
 nat (slLen w5) fun n22 =>
 nat (ae (nth hole e17 0)) fun n23 =>
 chk (Bool.and (slSize w5 1) (Nat.blt n23 n22)) (
 tvs (pel w5 n23) fun e24 =>
 chk (ab cF e24 0) (
 tv (dN [] w5 n23 0 [B true]) fun v25 =>
 call 55 [xL (nth hole e17 0),agg [y3,y4]] fun v26 =>
 chk (ab zSl [v26] 0) (
 rws (pelems 2 (TV.sl true 2 (chunks 2 1 [nth hole e17 0,v26]))) fun r27 =>
 tv (papp 2 w6 r27) fun v28 =>
 jmp [0,0,1,1,0,0,1,1,0,0,1,0,1,1,10,0,1,1,1] (f36_4_S x0 x1 w2 y3 y4 v25 (cJ v28) w7))))) (
 jmp [0,0,1,1,0,0,1,1,0,0,1,0,1,1,10,0,1,1,1] (f36_4_S x0 x1 w2 y3 y4 w5 (cJ w6) w7))))))) (
 chk (bY w7) (
 ret w7))
def f36_4  (x0 x1 w2 y3 y4 w5 w6 w7:TV):Prg TV :=
 tv (plen (.slice 125) w6) fun v29 =>
 tv (pbin (.int .i64) .gtr v29 (I 0)) fun v30 =>
 Prg.ite (asBool v30) (
 tv (plen (.slice 125) w6) fun v31 =>
 tv (pbin (.int .i64) .sub v31 (I 1)) fun v32 =>
 nat (slLen w6) fun n33 =>
 nat (ae v32) fun n34 =>
 chk (Bool.and (slSize w6 2) (Nat.blt n34 n33)) (
 tvs (pel w6 n34) fun e35 =>
 chk (ab zSl e35 1) (
 tv (bD [(n34,1)] w6) fun v36 =>
 tv (plen (.slice 3) v36) fun v37 =>
 tv (pbin (.int .i64) .eql v37 (I 0)) fun v38 =>
 Prg.ite (asBool v38) (
 tv (plen (.slice 125) w6) fun v39 =>
 tv (pbin (.int .i64) .sub v39 (I 1)) fun v40 =>
 nat (slLen w6) fun n41 =>
 nat (ae v40) fun n42 =>
 chk (Bool.and (slSize w6 2) (Nat.blt n42 n41)) (
 tvs (pel w6 n42) fun e43 =>
 chk (ab bF e43 0) (
 rws (pelems 1 (TV.sl true 1 (chunks 1 1 [nth hole e43 0]))) fun r44 =>
 tv (papp 1 w7 (j4 r44)) fun v45 =>
 nat (slLen w6) fun n46 =>
 nat (ae v40) fun n47 =>
 chk (Bool.and (Bool.and (slSize w6 2) (Nat.ble 0 (Option.getD (some n47) n46))) (Nat.ble (Option.getD (some n47) n46) n46)) (
 tv (cX 0 ((Option.getD (some n47) n46) - 0) w6) fun v48 =>
 jmp [0,0,1,1,0,0,1,1,0,0,1,0,1,1,10,0,1,1,1] (f36_4_S x0 x1 w2 y3 y4 w5 (cJ v48) v45))))) (
 tvs (pel w6 n34) fun e49 =>
 chk (ab zSl e49 1) (
 tv (bD [(n34,1)] w6) fun v50 =>
 nat (slLen v50) fun n51 =>
 nat (ae (I 0)) fun n52 =>
 chk (Bool.and (slSize v50 1) (Nat.blt n52 n51)) (
 tv (bD [(n34,1)] w6) fun v53 =>
 tvs (pel v53 n52) fun e54 =>
 chk (ab bF e54 0) (
 tvs (pel w6 n34) fun e55 =>
 chk (ab zSl e55 1) (
 tv (bD [(n34,1)] w6) fun v56 =>
 nat (slLen v56) fun n57 =>
 nat (ae (I 1)) fun n58 =>
 chk (Bool.and (Bool.and (slSize v56 1) (Nat.ble (Option.getD (some n58) 0) (Option.getD none n57))) (Nat.ble (Option.getD none n57) n57)) (
 tv (bD [(n34,1)] w6) fun v59 =>
 tv (cX (Option.getD (some n58) 0) ((Option.getD none n57) - (Option.getD (some n58) 0)) v59) fun v60 =>
 chk (TV.iK v60) (
 tvs (pel w6 n34) fun e61 =>
 chk (Bool.and (ei zSl e61 1) (ab zSl [v60] 0)) (
 tv (dN [] w6 n34 1 [v60]) fun v62 =>
 nat (slLen w5) fun n63 =>
 nat (ae (nth hole e54 0)) fun n64 =>
 chk (Bool.and (slSize w5 1) (Nat.blt n64 n63)) (
 tvs (pel w5 n64) fun e65 =>
 chk (ab cF e65 0) (
 tv (pun .not (nth hole e65 0)) fun v66 =>
 Prg.ite (asBool v66) (
 nat (slLen w5) fun n67 =>
 nat (ae (nth hole e54 0)) fun n68 =>
 chk (Bool.and (slSize w5 1) (Nat.blt n68 n67)) (
 tvs (pel w5 n68) fun e69 =>
 chk (ab cF e69 0) (
 tv (dN [] w5 n68 0 [B true]) fun v70 =>
 call 55 [xL (nth hole e54 0),agg [y3,y4]] fun v71 =>
 chk (ab zSl [v71] 0) (
 rws (pelems 2 (TV.sl true 2 (chunks 2 1 [nth hole e54 0,v71]))) fun r72 =>
 tv (papp 2 v62 r72) fun v73 =>
 jmp [0,0,1,1,0,0,1,1,0,0,1,0,1,1,10,0,1,1,1] (f36_4_S x0 x1 w2 y3 y4 v70 (cJ v73) w7))))) (
 jmp [0,0,1,1,0,0,1,1,0,0,1,0,1,1,10,0,1,1,1] (f36_4_S x0 x1 w2 y3 y4 w5 (cJ v62) w7))))))))))))))) (
 tv (pbin (.int .i64) .add x1 (I 1)) fun v74 =>
 jmp [0,0,1,0,1,1,10,0,1,1,1] (f36_3_S x0 v74 w2 y3 y4 w5 (cJ w6) w7))
theorem f36_MR (x0:TV):cb prog 36 [x0]=f36_M x0:=by kernel_rfl
theorem f36_0_J  {x0 x1 y2 y3 w4:TV} {r:TV} (h:aa prog 36 (f36_0 x0 x1 y2 y3 w4) r):aa prog 36 (.jmp [0,0,1,0,1,1] (f36_0_S x0 x1 y2 y3 w4)) r:=aa.jmp (by kernel_rfl) h
theorem f36_1_J  {y0 y1 w2:TV} {r:TV} (h:aa prog 36 (f36_1 y0 y1 w2) r):aa prog 36 (.jmp [1,1,1] (f36_1_S y0 y1 w2)) r:=aa.jmp (by kernel_rfl) h
theorem f36_2_J  {w0 y1 y2 w3 w4 w5:TV} {r:TV} (h:aa prog 36 (f36_2 w0 y1 y2 w3 w4 w5) r):aa prog 36 (.jmp [1,1,10,0,1,1,1] (f36_2_S w0 y1 y2 w3 w4 w5)) r:=aa.jmp (by kernel_rfl) h
theorem f36_3_J  {x0 x1 w2 y3 y4 w5 w6 w7:TV} {r:TV} (h:aa prog 36 (f36_3 x0 x1 w2 y3 y4 w5 w6 w7) r):aa prog 36 (.jmp [0,0,1,0,1,1,10,0,1,1,1] (f36_3_S x0 x1 w2 y3 y4 w5 w6 w7)) r:=aa.jmp (by kernel_rfl) h
theorem f36_4_J  {x0 x1 w2 y3 y4 w5 w6 w7:TV} {r:TV} (h:aa prog 36 (f36_4 x0 x1 w2 y3 y4 w5 w6 w7) r):aa prog 36 (.jmp [0,0,1,1,0,0,1,1,0,0,1,0,1,1,10,0,1,1,1] (f36_4_S x0 x1 w2 y3 y4 w5 w6 w7)) r:=aa.jmp (by kernel_rfl) h
def f55_M (c0 c1 x0:TV):Prg TV :=
 chk (Nat.blt 0 (List.length [c0,c1])) (
 tvs (pidx 1 c0 x0) fun e0 =>
 chk (Nat.blt 0 (List.length e0)) (
 ret (nth hole e0 0)))
theorem f55_MR (c0 c1 x0:TV):cb prog 55 [x0,agg [c0,c1]]=f55_M c0 c1 x0:=by kernel_rfl
end Go.Ab.C11
end
section
set_option maxRecDepth 10000
namespace Go.Ab.C11
open Go Go.Ab Go.Proofs
theorem r14 {q q':Option Bool} {x y:TV} {l m:List Int} (hx:RInts q x l) (hy:RInts q' y m):bu prog 8 [x,y] (B (tt (l=m))):=by
 refine bu.of (f8_MR _ _) ?_
 unfold f8_M
 repeat' (first
  | refine aa.chk rfl ?_
  | refine aa.tv rfl ?_
  | refine aa.tv (RL.len (by assumption)) ?_
  | refine aa.nat rfl ?_
  | refine aa.ite rfl (fun _=>?_) (fun _=>?_)
  | refine aa.call (by assumption) ?_
  | refine aa.tvs (by assumption) ?_)
 ·rename_i h
  have h:¬ l=m:=by rintro rfl; simp at h
  exact ret_no h
 ·rename_i h
  have hlen:l.length=m.length:=by simp at h; omega
  refine f8_0_J ?_
  rw [pa (xg hlen)]
  refine DA (g:=fun k=>f8_0 x y (I k)) ?_ ?_
  ·unfold f8_0
   refine aa.tv hx.len (aa.tv rfl (aa.ite aJ nofun fun _=>aa.ret))
  ·intro k hk r h1 h2
   have hk':k < m.length:=by omega
   have ha:l[k]? = some l[k]:=Gv hk
   have hb:m[k]? = some m[k]:=Gv hk'
   obtain ⟨e,he,rfl,_⟩:=hx.idx (k:=.i64) ha
   obtain ⟨e',he',rfl,_⟩:=hy.idx (k:=.i64) hb
   unfold f8_0
   refine aa.tv hx.len (aa.tv rfl (aa.ite (aF hk) (fun _=>?_) nofun))
   refine aa.tvs he (aa.chk rfl (aa.tvs he' (aa.chk rfl (aa.tv rfl (aa.ite rfl (fun h=>?_) fun h=>?_)))))
   ·rw [h1 (by rw [ha,hb]; simpa using h)]; exact aa.ret
   ·refine aa.tv (inc hk hx.bnd) (f8_0_J (h2 ?_))
    rw [ha,hb]; simpa using h
end Go.Ab.C11
end
section
set_option maxRecDepth 10000
namespace Go.Ab
theorem aj {k:Nat} (h:k≤9223372036854775807):ae (I (k:Int))=some k:=by
 simp [ae]; omega
end Go.Ab
namespace Go.Ab.C11
open Go Go.Ab Go.Proofs
end Go.Ab.C11
end
section
set_option maxRecDepth 10000
namespace Go.Ab
def C5 (b:DBlock):Prop:=b.ins.length≤70∧b.pad.catches.length≤20∧b.fin.args.length≤20∧∀ i,i < b.ins.length→∀ x,b.ins[i]? = some x→x.args.length≤20
def zS (f:DFunc):Prop:=f.blocks.length≤70∧∀ i,i < f.blocks.length→∀ b,f.blocks[i]? = some b→C5 b
def pY (m:DMod):Prop:=m.funcs.length≤20∧∀ i,i < m.funcs.length→∀ f,m.funcs[i]? = some f→zS f
section
variable {α:Type} {s:Nat} {R S:Nat→List TV→α→Prop} {x:TV} {l:List α}
theorem kL {β:Type}:∀ (l:List β) (n:Nat) (b:β),(ao l n b).length=l.length
 | [],_,_=>rfl
 | _ :: _,0,_=>rfl
 | a :: l,n + 1,b=>by simp [ao,kL l n b]
end
theorem RL.iK {α:Type} {s:Nat} {R:List TV→α→Prop} {x:TV} {l:List α} (h:RL (some false) s R x l):x.iK=true:=by
 rcases h with ⟨rfl,rfl⟩ | ⟨o,xs,rfl,hq,h,hb⟩
 ·rfl
 ·rw [hq false rfl]; rfl
theorem qX:∀ (xs:List (List TV)),(∀ e ∈ xs,gp e=true)→mU xs=true
 | [],_=>rfl
 | e :: xs,h=>by
  simp only [mU,Gx]
  exact ⟨h e GB,qX xs fun e he=>h e (GC _ he)⟩
theorem F2.memL {α β:Type} {R:α→β→Prop} {xs:List α} {l:List β} (h:F2 R xs l) {e:α} (he:e ∈ xs):∃ a,a ∈ l∧R e a:=by
 obtain ⟨i,hi,rfl⟩:=List.mem_iff_getElem.1 he
 obtain ⟨a,ha,hr⟩:=h.getL (Gv hi)
 exact ⟨a,GD ha,hr⟩
theorem RL.own {α:Type} {s:Nat} {R:List TV→α→Prop} {x:TV} {l:List α} (h:RL (some true) s R x l) (hm:∀ e a,R e a→gp e=true):bY x=true:=by
 rcases h with ⟨rfl,rfl⟩ | ⟨o,xs,rfl,hq,h,hb⟩
 ·rfl
 ·rw [hq true rfl]
  simp only [bY,Bool.true_and]
  refine qX _ fun e he=>?_
  obtain ⟨a,_,hr⟩:=h.memL he
  exact hm _ _ hr
theorem RI1.own {e:List TV} {n:Int} (h:RI1 e n):gp e=true:=by obtain ⟨rfl,_⟩:=h; rfl
end Go.Ab
namespace Go.Ab.C11
open Go Go.Ab Go.Proofs
theorem r7 {q : Option Bool} {e : List TV} {m : DMod} (hm : RMod q e m) : ∃ b, bu prog 7 [.agg e] (B b) ∧ (b = true → pY m) := by
 obtain ⟨x,rfl,hx⟩:=hm
 have no:∀ {p:Prg TV},aa prog 7 p (B false)→∃ b,aa prog 7 p (B b)∧(b=true→pY m):=fun h=>⟨false,h,nofun⟩
 by_cases hlen:m.funcs.length≤20
 ·have outer : ∀ d i (n : Int), i + d = m.funcs.length → 0 ≤ n → n ≤ (i : Int) * 4900 → (∀ j, j < i → ∀ f, m.funcs[j]? = some f → zS f) → ∃ b, aa prog 7 (f7_0 (I n) (I i) x) (B b) ∧ (b = true → pY m) := by
   intro d
   induction d with
   | zero =>
    intro i n hi h0 hn hs
    have hi:i=m.funcs.length:=by omega
    subst hi
    refine ⟨decide (n≤2000),?_,fun _=>⟨hlen,hs⟩⟩
    unfold f7_0
    refine aa.tv (RL.len (by assumption)) (aa.tv rfl (aa.ite aJ nofun fun _=>?_))
    exact aa.tv rfl aa.ret
   | succ d ih =>
    intro i n hi h0 hn hs
    have hk:i < m.funcs.length:=by omega
    have ha:m.funcs[i]? = some m.funcs[i]:=Gv hk
    obtain ⟨e,he,hr⟩:=hx.idx (k:=.i64) ha
    generalize m.funcs[i]=f at ha hr
    obtain ⟨y,rfl,hy,_⟩:=hr
    by_cases hbl:f.blocks.length≤70
    ·have mid : ∀ d k (n : Int), k + d = f.blocks.length → 0 ≤ n → n ≤ (i : Int) * 4900 + k * 70 → (∀ j, j < k → ∀ b, f.blocks[j]? = some b → C5 b) → ∃ b, aa prog 7 (f7_1 (I n) (I i) (I k) x) (B b) ∧ (b = true → pY m) := by
      intro d
      induction d with
      | zero =>
       intro k n hk' h0 hn hsb
       have hk':k=f.blocks.length:=by omega
       subst hk'
       obtain ⟨b,hb,himp⟩:=ih (i + 1) n (by omega) h0 (by simp; omega) (fun j hj g hg=>by
        by_cases hji:j=i
        ·subst hji; rw [ha] at hg; cases hg; exact ⟨hbl,fun j hj=>hsb j hj⟩
        ·exact hs j (by omega) g hg)
       refine ⟨b,?_,himp⟩
       unfold f7_1
       refine aa.tvs he (aa.chk rfl (aa.tv hy.len (aa.tv rfl (aa.ite aJ nofun fun _=>?_))))
       exact aa.tv (inc hk hx.bnd) (f7_0_J hb)
      | succ d ihm =>
       intro k n hk' h0 hn hsb
       have hkb:k < f.blocks.length:=by omega
       have hab:f.blocks[k]? = some f.blocks[k]:=Gv hkb
       obtain ⟨e2,he2,hr2⟩:=hy.idx (k:=.i64) hab
       generalize f.blocks[k]=b at hab hr2
       obtain ⟨c,is,g,rfl,hc,hd,his,hg,ho⟩:=hr2
       have start:∀ r,(¬ (b.ins.length≤70∧b.pad.catches.length≤20∧b.fin.args.length≤20)→r=B false)→(b.ins.length≤70∧b.pad.catches.length≤20∧b.fin.args.length≤20→aa prog 7 (f7_2 (I (n + b.ins.length)) (I i) (I k) (I (0:Nat)) x (B b.landing) (I b.pad.dst) c (B b.pad.all) (B b.pad.cleanup) is (I b.fin.kind) (I b.fin.a) (I b.fin.dst) (I b.fin.f) g (I b.fin.to) (I b.fin.els) (I b.fin.pad)) r)→aa prog 7 (f7_1 (I n) (I i) (I k) x) r:=by
        intro r h1 h2
        unfold f7_1
        refine aa.tvs he (aa.chk rfl (aa.tv hy.len (aa.tv rfl (aa.ite (aF hkb) (fun _=>?_) nofun))))
        refine aa.tvs he (aa.chk rfl (aa.tvs he2 (aa.chk rfl (aa.tv his.len (aa.tv rfl (aa.ite rfl (fun h=>?_) fun g1=>?_))))))
        ·rw [h1 (by simp at h; omega)]; exact aa.ret
        ·refine aa.tv hc.len (aa.tv rfl (aa.ite rfl (fun h=>?_) fun g2=>?_))
         ·rw [h1 (by simp at h; omega)]; exact aa.ret
         ·refine aa.tv hg.len (aa.tv rfl (aa.ite rfl (fun h=>?_) fun g3=>?_))
          ·rw [h1 (by simp at h; omega)]; exact aa.ret
          ·simp at g1 g2 g3
           refine aa.tv his.len (aa.tv (padd (by constructor <;> omega)) (f7_2_J (h2 ⟨by omega,by omega,by omega⟩)))
       by_cases hsz:b.ins.length≤70∧b.pad.catches.length≤20∧b.fin.args.length≤20
       ·have inner:∀ d j,j + d=b.ins.length→(∀ t,t < j→∀ x,b.ins[t]? = some x→x.args.length≤20)→∃ r,aa prog 7 (f7_2 (I (n + b.ins.length)) (I i) (I k) (I j) x (B b.landing) (I b.pad.dst) c (B b.pad.all) (B b.pad.cleanup) is (I b.fin.kind) (I b.fin.a) (I b.fin.dst) (I b.fin.f) g (I b.fin.to) (I b.fin.els) (I b.fin.pad)) (B r)∧(r=true→pY m):=by
         intro d
         induction d with
         | zero =>
          intro j hj hs2
          have hj:j=b.ins.length:=by omega
          subst hj
          obtain ⟨r,hb,himp⟩:=ihm (k + 1) (n + b.ins.length) (by omega) (by omega) (by simp; omega) (fun j hj g hg=>by
           by_cases hji:j=k
           ·subst hji; rw [hab] at hg; cases hg; exact ⟨hsz.1,hsz.2.1,hsz.2.2,hs2⟩
           ·exact hsb j (by omega) g hg)
          refine ⟨r,?_,himp⟩
          unfold f7_2
          refine aa.tv (RL.len (by assumption)) (aa.tv rfl (aa.ite aJ nofun fun _=>?_))
          exact aa.tv (inc hkb hy.bnd) (f7_1_J hb)
         | succ d ihi =>
          intro j hj hs2
          have hjb:j < b.ins.length:=by omega
          have hax:b.ins[j]? = some b.ins[j]:=Gv hjb
          obtain ⟨e3,he3,hr3⟩:=his.idx (k:=.i64) hax
          generalize b.ins[j]=u at hax hr3
          obtain ⟨v,rfl,hv,_⟩:=hr3
          by_cases hu:u.args.length≤20
          ·obtain ⟨r,hb,himp⟩:=ihi (j + 1) (by omega) (fun t ht z hz=>by
            by_cases htj:t=j
            ·subst htj; rw [hax] at hz; cases hz; exact hu
            ·exact hs2 t (by omega) z hz)
           refine ⟨r,?_,himp⟩
           unfold f7_2
           refine aa.tv (RL.len (by assumption)) (aa.tv rfl (aa.ite (aF hjb) (fun _=>?_) nofun))
           refine aa.tvs he3 (aa.chk rfl (aa.tv hv.len (aa.tv rfl (aa.ite rfl (fun h=>?_) fun _=>?_))))
           ·simp at h; omega
           ·exact aa.tv (inc hjb his.bnd) (f7_2_J hb)
          ·refine no ?_
           unfold f7_2
           refine aa.tv (RL.len (by assumption)) (aa.tv rfl (aa.ite (aF hjb) (fun _=>?_) nofun))
           refine aa.tvs he3 (aa.chk rfl (aa.tv hv.len (aa.tv rfl (aa.ite rfl (fun h=>aa.ret) fun h=>?_))))
           simp at h; omega
        obtain ⟨r,hb,himp⟩:=inner b.ins.length 0 (by omega) (fun t ht=>by omega)
        exact ⟨r,start _ (fun h=>absurd hsz h) (fun _=>hb),himp⟩
       ·exact no (start _ (fun _=>rfl) (fun h=>absurd h hsz))
     obtain ⟨b,hb,himp⟩:=mid f.blocks.length 0 n (by omega) h0 (by simp; omega) (fun j hj=>by omega)
     refine ⟨b,?_,himp⟩
     unfold f7_0
     refine aa.tv (RL.len (by assumption)) (aa.tv rfl (aa.ite (aF hk) (fun _=>?_) nofun))
     refine aa.tvs he (aa.chk rfl (aa.tv hy.len (aa.tv rfl (aa.ite rfl (fun h=>?_) fun _=>?_))))
     ·simp at h; omega
     ·exact f7_1_J hb
    ·refine no ?_
     unfold f7_0
     refine aa.tv (RL.len (by assumption)) (aa.tv rfl (aa.ite (aF hk) (fun _=>?_) nofun))
     refine aa.tvs he (aa.chk rfl (aa.tv hy.len (aa.tv rfl (aa.ite rfl (fun h=>aa.ret) fun h=>?_))))
     simp at h; omega
  obtain ⟨b,hb,himp⟩:=outer m.funcs.length 0 0 (by omega) (by omega) (by simp) (fun j hj=>by omega)
  refine ⟨b,?_,himp⟩
  refine bu.of (f7_MR _) ?_
  unfold f7_M
  refine aa.chk rfl (aa.tv hx.len (aa.tv rfl (aa.ite rfl (fun h=>?_) fun _=>f7_0_J hb)))
  simp at h; omega
 ·refine ⟨false,?_,nofun⟩
  refine bu.of (f7_MR _) ?_
  unfold f7_M
  refine aa.chk rfl (aa.tv hx.len (aa.tv rfl (aa.ite rfl (fun _=>aa.ret) fun h=>?_)))
  simp at h; omega
end Go.Ab.C11
end
section
set_option maxRecDepth 10000
namespace Go.Ab
section
variable {α β:Type} {p:Way} {w y:TV} {s:Nat} {R:List TV→α→Prop} {Q:TV→β→Prop} {G:List α→DMod} {l:List α}
theorem RL.at (hy:RL (some true) s R y l) {k:Nat} {e:List TV} (he:Go.Ab.pel y k=some e):∃ xs,y=.sl true s xs∧xs[k]? = some e∧F2 R xs l∧xs.length≤9223372036854775807:=by
 rcases hy with ⟨rfl,rfl⟩ | ⟨o,xs,rfl,hq,h,hb⟩
 ·simp [Go.Ab.pel] at he
 ·have:o=true:=hq true rfl
  subst this
  exact ⟨xs,rfl,he,h,hb⟩
end
end Go.Ab
namespace Go.Ab.C11
open Go Go.Ab Go.Proofs
end Go.Ab.C11
end
section
set_option maxRecDepth 10000
namespace Go.Ab
section
variable {α:Type} {s:Nat} {R:List TV→α→Prop} {y:TV} {l:List α}
theorem RL.iO (hy:RL (some true) s R y l) {i:Nat} {e:List TV} (he:Go.Ab.pel y i=some e) {d:Nat} {ys:List TV} {a:α} (hR:R (ce e d ys) a):∃ y',dN [] y i d ys=some y'∧RL (some true) s R y' (l.set i a):=by
 obtain ⟨xs,rfl,hk,hf,hb⟩:=hy.at he
 refine ⟨.sl true s (ao xs i (ce e d ys)),by simp only [dN,bD,xP,hk,je],.sl (by simp) (hf.set hR) (by rw [kL]; exact hb)⟩
theorem RL.app (hy:RL (some true) s R y l) {e:List TV} {a:α} (hR:R e a) (hl:l.length + 1≤4294967296):∃ y',papp s y [e]=some y'∧RL (some true) s R y' (l ++ [a]):=by
 rcases hy with ⟨rfl,rfl⟩ | ⟨o,xs,rfl,hq,h,hb⟩
 ·refine ⟨.sl true s [e],by simp [papp,aK,room,D7],.sl (by simp) (.cons hR .nil) (by simp)⟩
 ·have:o=true:=hq true rfl
  subst this
  have hxl:=h.length
  refine ⟨.sl true s (xs ++ [e]),?_,.sl (by simp) (h.append (.cons hR .nil)) (by simp; omega)⟩
  simp [papp,room]; omega
theorem RL.win {q:Option Bool} (hy:RL q s R y l) {k:Nat} (hk:k≤l.length):∃ y',cX 0 k y=some y'∧RL q s R y' (l.take k):=by
 rcases hy with ⟨rfl,rfl⟩ | ⟨o,xs,rfl,hq,h,hb⟩
 ·have:k=0:=by simpa using hk
  subst this
  exact ⟨.lit aK,rfl,by simpa using RL.nil⟩
 ·have hxl:=h.length
  refine ⟨.sl o s ((xs.drop 0).take k),?_,.sl hq (by simpa using h.take k) (by simp; omega)⟩
  simp [cX]; omega
end
end Go.Ab
namespace Go.Ab.C11
open Go Go.Ab Go.Proofs
end Go.Ab.C11
end
section
set_option maxRecDepth 10000
namespace Go.Ab
def dm (n:Nat) (g:Int):Bool:=decide (0≤g∧g < (n:Int))
theorem iS {P:Int→Bool} {l:List Int} {j:Nat} {a:Int} (h:l[j]? = some a):(l.take (j + 1)).filter P=(l.take j).filter P ++ (if P a then [a] else []):=by
 rw [List.take_add_one,h,List.filter_append]
 cases hp:P a <;> simp [hp]
section
variable {s:Nat} {α:Type} {R:List TV→α→Prop} {y:TV} {l:List α}
theorem RL.clr (hy:RL (some true) s R y l) {k:Nat} (hk:k≤l.length) (z:List TV):∃ y',pclear s z k (l.length - k) y=some y'∧Go.Ab.slLen y'=some l.length∧Go.Ab.slSize y' s=true∧∃ y'',cX 0 k y'=some y''∧RL (some true) s R y'' (l.take k):=by
 rcases hy with ⟨rfl,rfl⟩ | ⟨o,xs,rfl,hq,h,hb⟩
 ·have:k=0:=by simpa using hk
  subst this
  exact ⟨.lit aK,rfl,rfl,rfl,.lit aK,rfl,by simpa using RL.nil⟩
 ·have:o=true:=hq true rfl
  subst this
  have hxl:=h.length
  refine ⟨.sl true s (xs.take k ++ (List.replicate (l.length - k) z ++ xs.drop (k + (l.length - k)))),by simp only [pclear]; rw [if_pos ⟨trivial,by omega⟩],?_,by simp [Go.Ab.slSize],.sl true s (xs.take k),?_,.sl (by simp) (h.take k) (by simp; omega)⟩
  ·simp [Go.Ab.slLen]; omega
  ·simp only [cX]
   rw [if_pos (by simp; omega),List.drop_zero,List.take_append_of_le_length (by simp; omega),List.take_take,Nat.min_self]
end
end Go.Ab
namespace Go.Ab.C11
open Go Go.Ab Go.Proofs
theorem aG {v:TV} (h:v.isSl=true):ab zSl [v] 0=true:=by
 show (v.isSl && true)=true
 rw [h]; rfl
end Go.Ab.C11
end
section
set_option maxRecDepth 10000
namespace Go.Ab
theorem En {α:Type} {l:List α} {j:Nat} {a:α} (h:l[j]? = some a):l.take (j + 1)=l.take j ++ [a]:=by
 rw [List.take_add_one,h]; rfl
end Go.Ab
namespace Go.Ab.C11
open Go Go.Ab Go.Proofs
section
variable {q:Option Bool} {b:TV} {bs:List DBlock} (hb:RL q 14 (RBlock q) b bs)
include hb
end
theorem r75 {q:Option Bool} {x:TV} {l:List Int} (hx:RInts q x l) (n:Int):bu prog 12 [x,I n] (B (decide (n ∈ l))):=by
 have hbn:=hx.bnd
 have loop:∀ (d j:Nat),j + d=l.length→n ∉ l.take j→aa prog 12 (f12_0 x (I n) (I j)) (B (decide (n ∈ l))):=by
  intro d
  induction d with
  | zero =>
   intro j hj hn
   have hj:j=l.length:=by omega
   subst hj
   rw [List.take_length] at hn
   unfold f12_0
   exact aa.tv hx.len (aa.tv rfl (aa.ite aJ nofun fun _=>pB.2 (by simp [hn])))
  | succ d ih =>
   intro j hj hn
   have hjl:j < l.length:=by omega
   obtain ⟨a,haa⟩:∃ a,a=l[j]:=⟨_,rfl⟩
   have hla:l[j]? = some a:=by rw [haa]; exact Gv hjl
   obtain ⟨e,he,rfl,hea⟩:=hx.idx (k:=.i64) hla
   unfold f12_0
   refine aa.tv hx.len (aa.tv rfl (aa.ite (aF hjl) (fun _=>aa.tvs he (aa.chk rfl (aa.tv rfl (aa.ite rfl (fun h=>?_) fun h=>?_)))) nofun))
   ·have ha:a=n:=by simpa using h
    have:n ∈ l:=by rw [← ha]; exact GD hla
    exact pB.2 (by simp [this])
   ·have ha:¬ a=n:=by simpa using h
    exact aa.tv (inc hjl hbn) (f12_0_J (ih (j + 1) (by omega) (by rw [En hla]; simp [hn]; exact fun h=>ha h.symm)))
 refine bu.of (f12_MR _ _) ?_
 unfold f12_M
 exact f12_0_J (loop l.length 0 (by omega) (by simp))
end Go.Ab.C11
end
section
set_option maxRecDepth 10000
namespace Go.Ab
def jV (u:DFunc) (k:Nat):Prop:=∃ b ∈ u.blocks,(∃ x ∈ b.ins,x.op=11∧x.f=(k:Int))∨b.fin.kind=4∧b.fin.f=(k:Int)
def ofP (m:DMod) (a k:Nat):Prop:=k < m.funcs.length∧∃ u,m.funcs[a]? = some u∧jV u k
inductive Co (m:DMod) (a:Nat):Nat→Prop
 | one {b:Nat} (h:ofP m a b):Co m a b
 | more {b c:Nat} (h:Co m a b) (h':ofP m b c):Co m a c
theorem Co.lt {m:DMod} {a b:Nat} (h:Co m a b):a < m.funcs.length∧b < m.funcs.length:=by
 induction h with
 | one h =>
  obtain ⟨h1,u,hu,_⟩:=h
  exact ⟨(Gu.1 hu).1,h1⟩
 | more _ h ih=>exact ⟨ih.1,h.1⟩
end Go.Ab
end
section
set_option maxRecDepth 10000
namespace Go.Ab
def wA (l:List DIns):List Int:=(l.filter fun x=>decide (x.op=11)).map fun x=>x.f
theorem uT {l:List DIns} {j:Nat} {x:DIns} (h:l[j]? = some x):wA (l.take (j + 1))=wA (l.take j) ++ (if x.op=11 then [x.f] else []):=by
 unfold wA
 rw [List.take_add_one,h,List.filter_append,List.map_append]
 by_cases hp:x.op=11 <;> simp [hp]
theorem sH (l:List DIns):(wA l).length≤l.length:=by
 unfold wA
 rw [List.length_map]
 exact List.length_filter_le _ _
def zJ (b:DBlock):List Int:=wA b.ins ++ (if b.fin.kind=4 then [b.fin.f] else [])
def fd (bs:List DBlock):List Int:=(bs.map zJ).flatten
theorem qJ {l:List DBlock} {j:Nat} {b:DBlock} (h:l[j]? = some b):fd (l.take (j + 1))=fd (l.take j) ++ zJ b:=by
 unfold fd
 rw [List.take_add_one,h]
 simp
theorem ve {u:DFunc} {k:Nat}:(k:Int) ∈ fd u.blocks ↔ jV u k:=by
 constructor
 ·intro h
  obtain ⟨l,hl,hk⟩:=List.mem_flatten.1 h
  obtain ⟨b,hb,rfl⟩:=List.mem_map.1 hl
  rcases List.mem_append.1 hk with h | h
  ·obtain ⟨x,hx,h2⟩:=List.mem_map.1 h
   obtain ⟨hx,h1⟩:=List.mem_filter.1 hx
   exact ⟨b,hb,.inl ⟨x,hx,by simpa using h1,h2⟩⟩
  ·split at h
   ·rename_i h4
    exact ⟨b,hb,.inr ⟨h4,(List.mem_singleton.1 h).symm⟩⟩
   ·cases h
 ·rintro ⟨b,hb,h⟩
  refine List.mem_flatten.2 ⟨zJ b,List.mem_map.2 ⟨b,hb,rfl⟩,List.mem_append.2 ?_⟩
  rcases h with ⟨x,hx,h1,h2⟩ | ⟨h1,h2⟩
  ·exact .inl (List.mem_map.2 ⟨x,List.mem_filter.2 ⟨hx,by simpa using h1⟩,h2⟩)
  ·exact .inr (by rw [if_pos h1,h2]; exact List.mem_singleton.2 rfl)
def CZ (u:DFunc):Prop:=u.blocks.length≤100∧∀ b ∈ u.blocks,b.ins.length≤100
def kS (m:DMod):Prop:=m.funcs.length≤100∧∀ u ∈ m.funcs,CZ u
theorem CX {b:DBlock} (h:b.ins.length≤100):(zJ b).length≤101:=by
 unfold zJ
 have:=sH b.ins
 rw [List.length_append]
 split <;> simp <;> omega
theorem nM:∀ (bs:List DBlock),(∀ b ∈ bs,b.ins.length≤100)→(fd bs).length≤101 * bs.length
 | [],_=>Nat.le_refl _
 | b :: bs,h=>by
  have h1:=CX (h b GB)
  have h2:=nM bs fun b hb=>h b (GC _ hb)
  unfold fd at *
  rw [List.map_cons,List.flatten_cons,List.length_append,List.length_cons]
  omega
end Go.Ab
namespace Go.Ab.C11
open Go Go.Ab Go.Proofs
theorem md {q:Option Bool} {b:TV} {fs:List DFunc} (hb:RL q 3 (RFunc q) b fs) (n:Int):bu prog 18 [.agg [b],I n] (B (dm fs.length n)):=by
 refine bu.of (f18_MR _ _) ?_
 unfold f18_M
 refine aa.chk rfl (aa.tv rfl (aa.ite rfl (fun h=>aa.tv hb.len (aa.tv rfl ?_)) fun h=>?_))
 ·refine pB.2 ?_
  have h:0≤n:=by simpa using h
  simp [dm,h]
 ·refine pB.2 ?_
  have h:¬ 0≤n:=by simpa using h
  simp [dm,h]
theorem Ew {q:Option Bool} {b:TV} {i:TV} {l:List DIns} (hi:RL q 7 (RIns q) i l) {x1 x2:TV} {d0 d1 d2 d3 d4 d5 d6 d7 d8 d9 d10 d11 d12 d13:TV} {Z:TV→Prop} {pre:List Int} (hpl:pre.length≤100000) (hll:l.length≤100)
  (hk:∀ w,RInts (some true) w (pre ++ wA l)→∃ y,aa prog 20 (f20_2 b x1 x2 w d0 d1 d2 d3 d4 d5 d6 d7 d8 d9 d10 d11 d12 d13) y∧Z y) :
  ∀ (d j:Nat) (w:TV),j + d=l.length→RInts (some true) w (pre ++ wA (l.take j))→∃ y,aa prog 20 (f20_1 b x1 x2 i (I l.length) (I j) w d0 d1 d2 d3 d4 d5 d6 d7 d8 d9 d10 d11 d12 d13) y∧Z y:=by
 intro d
 induction d with
 | zero =>
  intro j w hj hw
  have hj:j=l.length:=by omega
  subst hj
  rw [List.take_length] at hw
  obtain ⟨y,hy,hz⟩:=hk w hw
  refine ⟨y,?_,hz⟩
  unfold f20_1
  exact aa.tv rfl (aa.ite aJ nofun fun _=>f20_2_J hy)
 | succ d ih =>
  intro j w hj hw
  have hjl:j < l.length:=by omega
  obtain ⟨x,hx⟩:∃ x,l[j]? = some x:=⟨_,Gv hjl⟩
  obtain ⟨e,he,hR⟩:=hi.idx (k:=.i64) hx
  obtain ⟨g,rfl,hg,ho⟩:=hR
  have hil:=sH (l.take j)
  rw [List.length_take] at hil
  by_cases h11:x.op=11
  ·obtain ⟨w',hw',hr⟩:=hw.app (e:=[I x.f]) (a:=x.f) ⟨rfl,ho.2.2.2.2.2⟩ (by rw [List.length_append]; omega)
   obtain ⟨y,hy,hz⟩:=ih (j + 1) w' (by omega) (by rw [uT hx,if_pos h11,← List.append_assoc]; exact hr)
   refine ⟨y,?_,hz⟩
   unfold f20_1
   refine aa.tv rfl (aa.ite (aF hjl) (fun _=>aa.tvs he (aa.chk rfl (aa.tv rfl ?_))) nofun)
   refine aa.ite (v:=true) (by simp [asBool,h11]) (fun _=>?_) nofun
   exact aa.rws rfl (aa.tv hw' (aa.tv (inc hjl (by omega)) (f20_1_J hy)))
  ·obtain ⟨y,hy,hz⟩:=ih (j + 1) w (by omega) (by rw [uT hx,if_neg h11,List.append_nil]; exact hw)
   refine ⟨y,?_,hz⟩
   unfold f20_1
   refine aa.tv rfl (aa.ite (aF hjl) (fun _=>aa.tvs he (aa.chk rfl (aa.tv rfl ?_))) nofun)
   refine aa.ite (v:=false) (by simp [asBool,h11]) nofun fun _=>?_
   exact aa.tv (inc hjl (by omega)) (f20_1_J hy)
section
variable {q:Option Bool} {b:TV} {bs:List DBlock} (hb:RL q 14 (RBlock q) b bs) (hs:bs.length≤100∧∀ b ∈ bs,b.ins.length≤100)
include hb hs
theorem EN:∀ (d j:Nat) (w:TV),j + d=bs.length→RInts (some true) w (fd (bs.take j))→∃ y,aa prog 20 (f20_0 b (I bs.length) (I j) w) y∧RInts (some true) y (fd bs):=by
 intro d
 induction d with
 | zero =>
  intro j w hj hw
  have hj:j=bs.length:=by omega
  subst hj
  rw [List.take_length] at hw
  refine ⟨w,?_,hw⟩
  unfold f20_0
  exact aa.tv rfl (aa.ite aJ nofun fun _=>aa.chk (hw.own fun _ _ h=>h.own) aa.ret)
 | succ d ih =>
  intro j w hj hw
  have hjl:j < bs.length:=by omega
  obtain ⟨x,hx⟩:∃ x,bs[j]? = some x:=⟨_,Gv hjl⟩
  have hxm:x ∈ bs:=GD hx
  obtain ⟨e,he,hR⟩:=hb.idx (k:=.i64) hx
  obtain ⟨c,i,g,rfl,hc,hd,hi,hg,ho⟩:=hR
  have hnl:=nM (bs.take j) fun b hb=>hs.2 b (List.mem_of_mem_take hb)
  rw [List.length_take] at hnl
  have hil:=sH x.ins
  have hx100:=hs.2 x hxm
  have h1:=hs.1
  obtain ⟨y,hy,hz⟩:=Ew hi (pre:=fd (bs.take j)) (x1:=I bs.length) (x2:=I j) (b:=b) (d0:=B x.landing) (d1:=I x.pad.dst) (d2:=c) (d3:=B x.pad.all) (d4:=B x.pad.cleanup) (d5:=i) (d6:=I x.fin.kind) (d7:=I x.fin.a) (d8:=I x.fin.dst) (d9:=I x.fin.f) (d10:=g) (d11:=I x.fin.to) (d12:=I x.fin.els) (d13:=I x.fin.pad) (Z:=fun y=>RInts (some true) y (fd bs)) (by omega) hx100 (fun w hw=>by
   by_cases h4:x.fin.kind=4
   ·obtain ⟨w',hw',hr⟩:=hw.app (e:=[I x.fin.f]) (a:=x.fin.f) ⟨rfl,ho.2.2.2.1⟩ (by rw [List.length_append]; omega)
    obtain ⟨y,hy,hz⟩:=ih (j + 1) w' (by omega) (by rw [qJ hx,zJ,if_pos h4,← List.append_assoc]; exact hr)
    refine ⟨y,?_,hz⟩
    unfold f20_2
    exact aa.tv rfl (aa.ite (v:=true) (by simp [asBool,h4]) (fun _=>aa.rws rfl (aa.tv hw' (aa.tv (inc hjl (by omega)) (f20_0_J hy)))) nofun)
   ·obtain ⟨y,hy,hz⟩:=ih (j + 1) w (by omega) (by rw [qJ hx,zJ,if_neg h4,List.append_nil]; exact hw)
    refine ⟨y,?_,hz⟩
    unfold f20_2
    exact aa.tv rfl (aa.ite (v:=false) (by simp [asBool,h4]) nofun fun _=>aa.tv (inc hjl (by omega)) (f20_0_J hy))) x.ins.length 0 w (by omega) (by simpa [wA] using hw)
  refine ⟨y,?_,hz⟩
  unfold f20_0
  exact aa.tv rfl (aa.ite (aF hjl) (fun _=>aa.tvs he (aa.chk rfl (aa.tv hi.len (f20_1_J hy)))) nofun)
end
theorem rNamed {q:Option Bool} {e:List TV} {u:DFunc} (he:RFunc q e u) (hs:CZ u):∃ y,bu prog 20 [.agg e] y∧RInts (some true) y (fd u.blocks):=by
 obtain ⟨b,rfl,hb,_⟩:=he
 obtain ⟨y,hy,hr⟩:=EN hb hs u.blocks.length 0 (.lit aK) (by omega) (by simpa [fd] using RL.nil)
 refine ⟨y,?_,hr⟩
 refine bu.of (f20_MR _) ?_
 unfold f20_M
 exact aa.chk rfl (aa.tv hb.len (aa.chk rfl (f20_0_J hy)))
end Go.Ab.C11
end
section
namespace Go.Ab
open Go.RowKit
theorem aO {α:Type} (d:α):∀ (l:List α) (n:Nat),nth d l n=(l[n]?).getD d
 | [],n=>by simp [nth]
 | a :: l,0=>rfl
 | a :: l,n + 1=>by simp [nth,aO d l n]
theorem ak {α:Type}:∀ (l:List α) (n:Nat) (b:α),ao l n b=l.set n b
 | [],n,b=>by simp [ao]
 | a :: l,0,b=>rfl
 | a :: l,n + 1,b=>by simp [ao,ak l n b]
theorem bT {α:Type} {d:α} {l:List α} {n:Nat} {a:α} (h:l[n]? = some a):nth d l n=a:=by rw [aO,h]; rfl
theorem aq (a b:Nat):a.beq b=true ↔ a=b:=⟨Nat.eq_of_beq_eq_true,fun h=>h ▸ Nat.beq_refl a⟩
theorem cf (n:Nat):∀ l:List Nat,bN n l=true ↔ n ∈ l
 | []=>by simp [bN]
 | a :: l => by
  cases h:a.beq n
  ·have:a≠n:=fun e=>by simp [e] at h
   simp only [bN,h,cond_false,cf n l,List.mem_cons]
   constructor
   ·exact .inr
   ·rintro (e | e)
    ·exact absurd e.symm this
    ·exact e
  ·simp only [bN,h,cond_true,List.mem_cons,true_iff]
   exact .inl ((aq a n).1 h).symm
theorem eR (a:Addr) (k:Nat):(a.add k).block=a.block:=by unfold Addr.add; split <;> rfl
theorem Ex {a:Addr} (h:a.spot=none) (k:Nat):(a.add k).spot=none:=by unfold Addr.add; split <;> simp [h]
theorem fk (a:Addr) (i j:Nat):(a.add i).add j=a.add (i + j):=by
 unfold Addr.add
 by_cases hi:i=0 <;> by_cases hj:j=0 <;> simp [hi,hj,Nat.add_assoc]
theorem eh (b o k:Nat):(⟨b,o,none⟩:Addr).add k=⟨b,o + k,none⟩:=by unfold Addr.add; split <;> simp_all
def spl {α:Type} (l:List α) (o:Nat) (ys:List α):List α:=l.take o ++ ys ++ l.drop (o + ys.length)
theorem fm {α:Type} {l ys:List α} {o:Nat} (h:o + ys.length≤l.length):(spl l o ys).length=l.length:=by
 simp only [spl,List.length_append,List.length_take,List.length_drop]
 omega
theorem bJ {α:Type} {l ys:List α} {o:Nat} (h:o + ys.length≤l.length) (k:Nat):(spl l o ys)[k]? = if o≤k∧k < o + ys.length then ys[k - o]? else l[k]? := by
 have e1:(l.take o).length=o:=by simp; omega
 unfold spl
 by_cases h1:k < o
 ·rw [List.append_assoc,GE (by omega),List.getElem?_take,if_pos h1,if_neg (by omega)]
 ·by_cases h2:k < o + ys.length
  ·rw [List.append_assoc,GF (by omega),e1,GE (by omega),if_pos (by omega)]
  ·rw [GF (by simp; omega),List.getElem?_drop,if_neg (by omega)]
   congr 1
   simp
   omega
theorem fY {α:Type}:∀ (ps l:List α) (off:Nat),off + ps.length≤l.length→ce l off ps=spl l off ps
 | [],l,off,h=>by simp [ce,spl]
 | p :: ps, l, off, h => by
  have hlt:off < l.length:=by simp at h; omega
  simp only [ce]
  rw [ak,fY ps (l.set off p) (off + 1) (by simp at h ⊢; omega)]
  apply List.ext_getElem?
  intro k
  rw [bJ (by simp at h ⊢; omega),bJ h]
  simp only [List.length_cons,List.getElem?_set]
  by_cases h1:k < off
  ·rw [if_neg (by omega),if_neg (by omega),if_neg (by omega)]
  ·by_cases h2:k=off
   ·subst h2
    rw [if_neg (by omega),if_pos (by omega)]
    simp [hlt]
   ·by_cases h3:k < off + (ps.length + 1)
    ·rw [if_pos (by omega),if_pos (by omega)]
     rw [show k - off=(k - (off + 1)) + 1 by omega,List.getElem?_cons_succ]
    ·rw [if_neg (by omega),if_neg (by omega),if_neg (by omega)]
theorem fJ {α:Type}:∀ (l:List α) (o n:Nat) (r:List α),lO l o n=some r→r.length=n∧(n=0∨o + n≤l.length)∧∀ j,j < n→r[j]? = l[o + j]?
 | l,o,0,r,h=>by cases l <;> simp [lO] at h <;> subst h <;> simp
 | [],o,n + 1,r,h=>by simp [lO] at h
 | a :: l, 0, n + 1, r, h => by
  simp only [lO] at h
  cases h1:lO l 0 n with
  | none=>simp [h1] at h
  | some r' =>
   simp only [h1,Gw] at h
   subst h
   obtain ⟨i1,i2,i3⟩:=fJ l 0 n r' h1
   refine ⟨by simp [i1],.inr (by simp; omega),fun j hj=>?_⟩
   cases j with
   | zero=>simp
   | succ j=>simpa using i3 j (by omega)
 | a :: l,o + 1,n + 1,r,h=>by
  simp only [lO] at h
  obtain ⟨i1,i2,i3⟩:=fJ l o (n + 1) r h
  refine ⟨i1,.inr (by rcases i2 with i2 | i2 <;> simp <;> omega),fun j hj=>?_⟩
  rw [i3 j hj,show o + 1 + j=(o + j) + 1 by omega,List.getElem?_cons_succ]
theorem bS {α:Type} {s:Nat}:∀ {xs:List (List α)},(∀ x ∈ xs,x.length=s)→xs.flatten.length=xs.length * s
 | [],_=>by simp
 | x :: xs,h=>by
  simp only [List.flatten_cons,List.length_append,List.length_cons,h x GB,bS (fun y hy=>h y (GC _ hy)),Nat.add_mul]
  omega
theorem dj {α:Type} {s:Nat}:∀ {xs:List (List α)} {i j:Nat} {x:List α} {c:α},(∀ x ∈ xs,x.length=s)→xs[i]? = some x→x[j]? = some c→xs.flatten[i * s + j]? = some c
 | x :: xs,0,j,_,c,h,hi,hj=>by
  simp at hi
  subst hi
  rw [List.flatten_cons,GE (by simp; exact (Gu.1 hj).1)]
  simpa using hj
 | x :: xs,i + 1,j,y,c,h,hi,hj=>by
  simp at hi
  have hx:=h x GB
  rw [List.flatten_cons,GF (by rw [hx,Nat.add_mul]; omega),hx,show (i + 1) * s + j - s=i * s + j by rw [Nat.add_mul]; omega]
  exact dj (fun z hz=>h z (GC _ hz)) hi hj
theorem take_add {α:Type} {x l:List α} {s n:Nat} (h:x.length=s):(x ++ l).take (s + n)=x ++ l.take n:=by
 subst h
 exact List.take_length_add_append n
theorem zk {α:Type} {x l:List α} {s n:Nat} (h:x.length=s):(x ++ l).drop (s + n)=l.drop n:=by
 subst h
 exact List.drop_length_add_append n
theorem qz (n s:Nat):(n + 1) * s=s + n * s:=by rw [Nat.add_mul]; omega
theorem mO {α:Type} {s:Nat}:∀ {xs:List (List α)} (n:Nat),(∀ x ∈ xs,x.length=s)→(xs.take n).flatten=xs.flatten.take (n * s)
 | [],n,_=>by simp
 | x :: xs,0,_=>by simp
 | x :: xs,n + 1,h=>by
  have hx:=h x GB
  rw [List.take_succ_cons,List.flatten_cons,List.flatten_cons,mO n (fun z hz=>h z (GC _ hz)),qz,take_add hx]
theorem mQ {α:Type} {s:Nat}:∀ {xs:List (List α)} (n:Nat),(∀ x ∈ xs,x.length=s)→(xs.drop n).flatten=xs.flatten.drop (n * s)
 | [],n,_=>by simp
 | x :: xs,0,_=>by simp
 | x :: xs,n + 1,h=>by
  have hx:=h x GB
  rw [List.drop_succ_cons,List.flatten_cons,mQ n (fun z hz=>h z (GC _ hz)),qz,zk hx]
theorem xy {α:Type} {s:Nat}:∀ {xs:List (List α)} {i:Nat} {x y:List α},(∀ x ∈ xs,x.length=s)→xs[i]? = some x→y.length=s→(xs.set i y).flatten=spl xs.flatten (i * s) y
 | x :: xs,0,_,y,h,hi,hy=>by
  simp at hi
  subst hi
  have hx:=h x GB
  simp only [List.set_cons_zero,List.flatten_cons,Nat.zero_mul,spl,List.take_zero,List.nil_append,Nat.zero_add,hy,List.drop_append,hx,Nat.sub_self,List.drop_zero]
  rw [List.drop_of_length_le (by omega),List.nil_append]
 | x :: xs,i + 1,z,y,h,hi,hy=>by
  simp at hi
  have hx:=h x GB
  have ih:=xy (fun z hz=>h z (GC _ hz)) hi hy
  simp only [List.set_cons_succ,List.flatten_cons,ih,spl,qz,take_add hx,hy]
  rw [show s + i * s + s=s + (i * s + s) by omega,zk hx]
  simp only [List.append_assoc]
theorem Bi {α:Type} {s:Nat} {xs:List (List α)} {i:Nat} {y:List α} (h:∀ x ∈ xs,x.length=s) (hy:y.length=s):∀ x ∈ xs.set i y,x.length=s:=by
 intro x hx
 rcases List.mem_or_eq_of_mem_set hx with h' | h'
 ·exact h x h'
 ·rw [h']; exact hy
theorem xE {α:Type} {s:Nat} {xs:List (List α)} {i j:Nat} {x ys:List α} (h:∀ x ∈ xs,x.length=s) (hi:xs[i]? = some x) (hj:j + ys.length≤x.length) :
  (xs.set i (spl x j ys)).flatten=spl xs.flatten (i * s + j) ys∧i * s + j + ys.length≤xs.flatten.length:=by
 have hx:=h x (GD hi)
 have hlt:i < xs.length:=(Gu.1 hi).1
 have hle:i * s + s≤xs.flatten.length:=by
  rw [bS h]
  have:=Nat.mul_le_mul_right s (Nat.succ_le_of_lt hlt)
  rw [Nat.succ_mul] at this
  exact this
 refine ⟨?_,by omega⟩
 rw [xy h hi (by rw [fm hj,hx])]
 apply List.ext_getElem?
 intro k
 rw [bJ (l:=xs.flatten) (ys:=spl x j ys) (by rw [fm hj]; omega),bJ (l:=xs.flatten) (ys:=ys) (by omega),fm hj,hx]
 by_cases h1:i * s≤k∧k < i * s + s
 ·rw [if_pos h1,bJ hj]
  by_cases h2:j≤k - i * s∧k - i * s < j + ys.length
  ·rw [if_pos h2,if_pos (by omega)]
   congr 1
   omega
  ·rw [if_neg h2,if_neg (by omega)]
   have hk:k - i * s < x.length:=by omega
   have:=dj h hi (Gv hk)
   rw [show i * s + (k - i * s)=k by omega] at this
   rw [this,Gv hk]
 ·rw [if_neg h1,if_neg (by omega)]
inductive Rep (w:World) (I:Nat→Prop):TV→Value→Prop
 | lit (v:Value):Rep w I (.lit v) v
 | hole (v:Value):Rep w I .hole v
 | buf {s:ByteArray} (e:TypeId) (h:s.size=0):Rep w I (.buf s e) aK
 | sl {size : Nat} {xs : List (List TV)} {a : Addr} {cap : Nat} (cell : Nat → Value) (hI : 0 < xs.length → I a.block) (hc : xs.length ≤ cap) (hm : cap ≤ maxLen)
   (hl:∀ x ∈ xs,x.length=size) (hcell:∀ k,k < xs.length * size→w.cell? (a.add k)=some (cell k)) (h1:∀ k,k < xs.length * size→(cell k).oneCell'=true)
   (hr:∀ (i:Nat) (x:List TV),xs[i]? = some x→∀ (j:Nat) (c:TV),x[j]? = some c→Rep w I c (cell (i * size + j))):Rep w I (.sl false size xs) (.slice (some a) xs.length cap)
 | agg {cs : List TV} {vs : Array Value} (hl : vs.size = cs.length) (h1 : ∀ j, j < vs.size → (vs.getD j undef).oneCell' = true)
   (hr:∀ (j:Nat) (c:TV),cs[j]? = some c→Rep w I c (vs.getD j undef)):Rep w I (.agg cs) (.agg vs)
 | tup {cs:List TV} {vs:Array Value} (hl:vs.size=cs.length) (hr:∀ (j:Nat) (c:TV),cs[j]? = some c→Rep w I c (vs.getD j undef)):Rep w I (.tup cs) (.tuple vs)
theorem Rep.mv {w w':World} {I I':Nat→Prop} (hh:∀ b,I b→w'.heap[b]? = w.heap[b]?) (hI:∀ b,I b→I' b) {x:TV} {v:Value} (h:Rep w I x v):Rep w' I' x v:=by
 induction h with
 | lit v=>exact .lit v
 | hole v=>exact .hole v
 | buf e h=>exact .buf e h
 | sl cell i c m l hcell h1 _ ih =>
  exact .sl cell (fun h=>hI _ (i h)) c m l (fun k hk=>by rw [← hcell k hk]; exact World.cell?_of_block (by rw [eR]; exact hh _ (i (Nat.pos_of_ne_zero (fun e=>by simp [e] at hk))))) h1 ih
 | agg hl h1 _ ih=>exact .agg hl h1 ih
 | tup hl _ ih=>exact .tup hl ih
structure Row (w:World) (a:Addr) (n cap size:Nat) (us:List Value) (vs:Array Value) (ty:TypeId):Prop where
 heap:w.heap[a.block]? = some (.cells vs ty (0,0))
 spot:a.spot=none
 le:n≤cap
 max:cap≤maxLen
 fit:a.off + cap * size≤vs.size
 len:us.length=n * size
 cells:∀ k,k < n * size→vs[a.off + k]? = us[k]?
 one:∀ u ∈ us,u.oneCell'=true
theorem Row.cell {w:World} {a:Addr} {n cap size:Nat} {us:List Value} {vs:Array Value} {ty:TypeId} (h:Row w a n cap size us vs ty) {k:Nat} {u:Value} (hk:us[k]? = some u):w.cell? (a.add k)=some u:=by
 have hlt:k < n * size:=by rw [← h.len]; exact (Gu.1 hk).1
 have:a.add k=⟨a.block,a.off + k,none⟩:=by
  have:=h.spot
  obtain ⟨b,o,sp⟩:=a
  simp at this
  subst this
  exact eh b o k
 rw [this]
 simp only [World.cell?,h.heap]
 simp only [Option.isSome_none,Bool.false_eq_true,if_false]
 rw [h.cells k hlt,hk]
inductive am (w:World) (I:Nat→Prop):TV→Value→(Nat→Prop)→Prop
 | fr {x:TV} {v:Value} {S:Nat→Prop} (h:Rep w I x v):am w I x v S
 | sl {size : Nat} {xs : List (List TV)} {a : Addr} {cap : Nat} {S : Nat → Prop} (us : List Value) (vs : Array Value) (ty : TypeId) (F : Nat → Nat → Prop) (hS : S a.block)
   (row:Row w a xs.length cap size us vs ty) (hl:∀ x ∈ xs,x.length=size) (hr:∀ (k:Nat) (c:TV),xs.flatten[k]? = some c→am w I c (us.getD k undef) (F k))
   (hF:∀ k b,F k b→S b∧b≠a.block) (hd:∀ k k' b,F k b→F k' b→k=k'):am w I (.sl true size xs) (.slice (some a) xs.length cap) S
 | agg {cs : List TV} {vs : Array Value} {S : Nat → Prop} (F : Nat → Nat → Prop) (hl : vs.size = cs.length) (h1 : ∀ j, j < vs.size → (vs.getD j undef).oneCell' = true)
   (hr:∀ (j:Nat) (c:TV),cs[j]? = some c→am w I c (vs.getD j undef) (F j)) (hF:∀ j b,F j b→S b) (hd:∀ k k' b,F k b→F k' b→k=k'):am w I (.agg cs) (.agg vs) S
 | buf {s:ByteArray} {e:TypeId} {v:Value} {S:Nat→Prop} (h:w.ownsRowF 0 e 1 v s.size (Lib.strCells s)) (hS:∀ b,v.ownBlock=some b→S b):am w I (.buf s e) v S
 | tup {cs : List TV} {vs : Array Value} {S : Nat → Prop} (F : Nat → Nat → Prop) (hl : vs.size = cs.length)
   (hr:∀ (j:Nat) (c:TV),cs[j]? = some c→am w I c (vs.getD j undef) (F j)) (hF:∀ j b,F j b→S b) (hd:∀ k k' b,F k b→F k' b→k=k'):am w I (.tup cs) (.tuple vs) S
theorem _root_.Go.World.ownsRowF.moved {w w':World} {base:Nat} {e:TypeId} {size:Nat} {v:Value} {n:Nat} {xs:List Value} (h:w.ownsRowF base e size v n xs) (hh:∀ b,v.ownBlock=some b→w'.heap[b]? = w.heap[b]?):w'.ownsRowF base e size v n xs:=by
 refine ⟨h.1,?_⟩
 rcases h.2 with hn | ⟨g,cap,cur,fz,rfl,hb,hgg,rest⟩
 ·exact .inl hn
 ·exact .inr ⟨g,cap,cur,fz,rfl,hb,by rw [hh g rfl]; exact hgg,rest⟩
theorem am.mv {w w':World} {I I':Nat→Prop} (hI:∀ b,I b→w'.heap[b]? = w.heap[b]?) (hs:∀ b,I b→I' b) {x:TV} {v:Value} {S:Nat→Prop} (h:am w I x v S) :
  ∀ {S':Nat→Prop},(∀ b,S b→w'.heap[b]? = w.heap[b]?)→(∀ b,S b→S' b)→am w' I' x v S':=by
 induction h with
 | fr h=>intro S' _ _; exact .fr (h.mv hI hs)
 | @sl size xs a cap S us vs ty F hS row hl hr hF hd ih =>
  intro S' hh hSS
  exact .sl us vs ty F (hSS _ hS) ⟨by rw [hh _ hS]; exact row.heap,row.spot,row.le,row.max,row.fit,row.len,row.cells,row.one⟩ hl (fun k c hk=>ih k c hk (fun b hb=>hh b (hF k b hb).1) (fun b hb=>hb))
   (fun k b hb=>⟨hSS b (hF k b hb).1,(hF k b hb).2⟩) hd
 | @buf s e v S h hS =>
  intro S' hh hSS
  exact .buf (h.moved (fun b hb=>hh b (hS b hb))) (fun b hb=>hSS b (hS b hb))
 | @agg cs vs S F hl h1 hr hF hd ih =>
  intro S' hh hSS
  exact .agg F hl h1 (fun k c hk=>ih k c hk (fun b hb=>hh b (hF k b hb)) (fun b hb=>hb)) (fun k b hb=>hSS b (hF k b hb)) hd
 | @tup cs vs S F hl hr hF hd ih =>
  intro S' hh hSS
  exact .tup F hl (fun k c hk=>ih k c hk (fun b hb=>hh b (hF k b hb)) (fun b hb=>hb)) (fun k b hb=>hSS b (hF k b hb)) hd
theorem am.mono {w:World} {I:Nat→Prop} {x:TV} {v:Value} {S S':Nat→Prop} (h:am w I x v S) (hS:∀ b,S b→S' b):am w I x v S' :=
 h.mv (fun _ _=>rfl) (fun _ h=>h) (fun _ _=>rfl) hS
theorem bB {w:World} {I:Nat→Prop} {v u:Value} (h:Rep w I (.lit v) u):u=v:=by cases h; rfl
theorem aT {w:World} {I:Nat→Prop} {v u:Value} {S:Nat→Prop} (h:am w I (.lit v) u S):u=v:=by cases h with | fr h=>exact bB h
theorem EQ {w:World} {I:Nat→Prop} {s:Nat} {xs:List (List TV)} {u:Value} {S:Nat→Prop} (h:am w I (.sl false s xs) u S):Rep w I (.sl false s xs) u:=by cases h with | fr h=>exact h
theorem rM {w:World} {I:Nat→Prop} {o:Bool} {s:Nat} {xs:List (List TV)} {u:Value} {S:Nat→Prop} (h:am w I (.sl o s xs) u S):∃ a cap,u=.slice (some a) xs.length cap:=by
 cases h with
 | fr h=>cases h; exact ⟨_,_,rfl⟩
 | sl=>exact ⟨_,_,rfl⟩
theorem fQ {w:World} {I:Nat→Prop} {x:TV} {u:Value} {S:Nat→Prop} (h:am w I x u S) (hx:x.isSl=true):∃ a n cap,u=.slice a n cap:=by
 cases x with
 | lit v =>
  have:=aT h
  subst this
  cases u <;> simp [TV.isSl,aY] at hx ⊢
 | sl o s xs=>obtain ⟨a,cap,rfl⟩:=rM h; exact ⟨_,_,_,rfl⟩
 | _=>simp [TV.isSl] at hx
theorem rD {v:Value} (h:scV v=true):v.oneCell'=true:=by cases v <;> first | rfl | simp [scV] at h
theorem eS {w:World} {I:Nat→Prop} {x:TV} {u:Value} {S:Nat→Prop} (h:am w I x u S) (hx:x.isSc=true):x=.lit u∧scV u=true:=by
 cases x with
 | lit v =>
  have:=aT h
  subst this
  exact ⟨rfl,hx⟩
 | _=>simp [TV.isSc] at hx
theorem E2 {w:World} {I:Nat→Prop} {x:TV} {u:Value} {S:Nat→Prop} (h:am w I x u S):Rep w I x.lf u:=by
 cases x with
 | lit v=>have:=aT h; subst this; exact .lit _
 | _=>exact .hole _
theorem mV:∀ l:List TV,uF l=l.map frz
 | []=>rfl
 | x :: l=>by simp [uF,mV l]
theorem hU:∀ l:List (List TV),sY l=l.map fun x=>x.map frz
 | []=>rfl
 | x :: l=>by simp [sY,hU l,mV]
theorem DM:∀ l:List TV,lfL l=l.map TV.lf
 | []=>rfl
 | x :: l=>by simp [lfL,DM l]
theorem Bk:∀ l:List (List TV),j4 l=l.map fun x=>x.map TV.lf
 | []=>rfl
 | x :: l=>by simp [j4,Bk l,DM]
theorem Rep.frz {w:World} {I:Nat→Prop} {x:TV} {v:Value} (h:Rep w I x v):Rep w I (frz x) v:=by
 induction h with
 | lit v=>exact .lit v
 | hole v=>exact .hole v
 | buf e h=>exact .hole _
 | @sl size xs a cap cell hI hc hm hl hcell h1 _ ih =>
  simp only [Ab.frz,hU]
  have hlen:(xs.map fun x=>x.map Ab.frz).length=xs.length:=by simp
  have key:Rep w I (.sl false size (xs.map fun x=>x.map Ab.frz)) (.slice (some a) (xs.map fun x=>x.map Ab.frz).length cap):=by
   refine .sl cell (by rw [hlen]; exact hI) (by rw [hlen]; exact hc) hm (fun x hx=>?_) (by rw [hlen]; exact hcell) (by rw [hlen]; exact h1) (fun i y hy j c hj=>?_)
   ·obtain ⟨y,hy,rfl⟩:=List.mem_map.1 hx
    simpa using hl y hy
   ·rw [GA] at hy
    cases hxi:xs[i]? with
    | none=>simp [hxi] at hy
    | some x =>
     simp only [hxi,GH,Gw] at hy
     subst hy
     rw [GA] at hj
     cases hxj:x[j]? with
     | none=>simp [hxj] at hj
     | some c' =>
      simp only [hxj,GH,Gw] at hj
      subst hj
      exact ih i x hxi j c' hxj
  rwa [hlen] at key
 | @agg cs vs hl h1 _ ih =>
  simp only [Ab.frz,mV]
  refine .agg (by simpa using hl) h1 (fun j c hj=>?_)
  rw [GA] at hj
  cases hxj:cs[j]? with
  | none=>simp [hxj] at hj
  | some c'=>simp only [hxj,GH,Gw] at hj; subst hj; exact ih j c' hxj
 | @tup cs vs hl _ ih =>
  simp only [Ab.frz,mV]
  refine .tup (by simpa using hl) (fun j c hj=>?_)
  rw [GA] at hj
  cases hxj:cs[j]? with
  | none=>simp [hxj] at hj
  | some c'=>simp only [hxj,GH,Gw] at hj; subst hj; exact ih j c' hxj
theorem am.frz {w:World} {I I':Nat→Prop} (hI:∀ b,I b→I' b) {x:TV} {v:Value} {S:Nat→Prop} (h:am w I x v S):(∀ b,S b→I' b)→Rep w I' (frz x) v:=by
 induction h with
 | fr h=>intro _; exact (h.mv (fun _ _=>rfl) hI).frz
 | buf _ _=>intro _; exact .hole _
 | @sl size xs a cap S us vs ty F hS row hl hr hF hd ih =>
  intro hSI
  simp only [Ab.frz,hU]
  have hlen:(xs.map fun x=>x.map Ab.frz).length=xs.length:=by simp
  have key:Rep w I' (.sl false size (xs.map fun x=>x.map Ab.frz)) (.slice (some a) (xs.map fun x=>x.map Ab.frz).length cap):=by
   refine .sl (fun k=>us.getD k undef) (fun _=>hSI _ hS) (by rw [hlen]; exact row.le) row.max (fun x hx=>?_) (fun k hk=>?_) (fun k hk=>?_) (fun i y hy j c hj=>?_)
   ·obtain ⟨y,hy,rfl⟩:=List.mem_map.1 hx
    simpa using hl y hy
   ·rw [hlen] at hk
    have:k < us.length:=by rw [row.len]; exact hk
    exact row.cell (by simp [Gv this])
   ·rw [hlen] at hk
    have:k < us.length:=by rw [row.len]; exact hk
    simp only [GJ,Gv this,Option.getD_some]
    exact row.one _ (List.getElem_mem this)
   ·rw [GA] at hy
    cases hxi:xs[i]? with
    | none=>simp [hxi] at hy
    | some x =>
     simp only [hxi,GH,Gw] at hy
     subst hy
     rw [GA] at hj
     cases hxj:x[j]? with
     | none=>simp [hxj] at hj
     | some c' =>
      simp only [hxj,GH,Gw] at hj
      subst hj
      exact ih _ c' (dj hl hxi hxj) (fun b hb=>hSI b (hF _ b hb).1)
  rwa [hlen] at key
 | @agg cs vs S F hl h1 hr hF hd ih =>
  intro hSI
  simp only [Ab.frz,mV]
  refine .agg (by simpa using hl) h1 (fun j c hj=>?_)
  rw [GA] at hj
  cases hxj:cs[j]? with
  | none=>simp [hxj] at hj
  | some c'=>simp only [hxj,GH,Gw] at hj; subst hj; exact ih j c' hxj (fun b hb=>hSI b (hF j b hb))
 | @tup cs vs S F hl hr hF hd ih =>
  intro hSI
  simp only [Ab.frz,mV]
  refine .tup (by simpa using hl) (fun j c hj=>?_)
  rw [GA] at hj
  cases hxj:cs[j]? with
  | none=>simp [hxj] at hj
  | some c'=>simp only [hxj,GH,Gw] at hj; subst hj; exact ih j c' hxj (fun b hb=>hSI b (hF j b hb))
theorem gJ:∀ {l:List TV},gp l=true→∀ x ∈ l,bY x=true
 | [],_,x,hx=>by simp at hx
 | y :: l,h,x,hx=>by
  simp only [gp,Gx] at h
  rcases List.mem_cons.1 hx with rfl | hx
  ·exact h.1
  ·exact gJ h.2 x hx
theorem qF:∀ {l:List (List TV)},mU l=true→∀ x ∈ l,gp x=true
 | [],_,x,hx=>by simp at hx
 | y :: l,h,x,hx=>by
  simp only [mU,Gx] at h
  rcases List.mem_cons.1 hx with rfl | hx
  ·exact h.1
  ·exact qF h.2 x hx
theorem Rep.own {w:World} {I I':Nat→Prop} {x:TV} {v:Value} (h:Rep w I x v):bY x=true→Rep w I' x v:=by
 induction h with
 | lit v=>intro _; exact .lit v
 | hole v=>intro _; exact .hole v
 | buf e h=>intro _; exact .buf e h
 | sl=>intro h; simp [bY] at h
 | @agg cs vs hl h1 _ ih=>intro h; simp only [bY] at h; exact .agg hl h1 (fun j c hj=>ih j c hj (gJ h c (GD hj)))
 | @tup cs vs hl _ ih=>intro h; simp only [bY] at h; exact .tup hl (fun j c hj=>ih j c hj (gJ h c (GD hj)))
theorem am.own {w:World} {I I':Nat→Prop} {x:TV} {v:Value} {S:Nat→Prop} (h:am w I x v S):bY x=true→am w I' x v S:=by
 induction h with
 | fr h=>intro ho; exact .fr (h.own ho)
 | buf h hS=>intro _; exact .buf h hS
 | @sl size xs a cap S us vs ty F hS row hl hr hF hd ih =>
  intro ho
  simp only [bY,Bool.true_and] at ho
  refine .sl us vs ty F hS row hl (fun k c hk=>ih k c hk ?_) hF hd
  obtain ⟨x,hx,hc⟩:=List.mem_flatten.1 (GD hk)
  exact gJ (qF ho x hx) c hc
 | @agg cs vs S F hl h1 hr hF hd ih=>intro ho; simp only [bY] at ho; exact .agg F hl h1 (fun j c hj=>ih j c hj (gJ ho c (GD hj))) hF hd
 | @tup cs vs S F hl hr hF hd ih=>intro ho; simp only [bY] at ho; exact .tup F hl (fun j c hj=>ih j c hj (gJ ho c (GD hj))) hF hd
end Go.Ab
end
section
namespace Go.Ab
open Go.RowKit
def TV.nd (x:TV):Option (Nat × Nat):=match x with | .sl _ s xs=>some (s,xs.length) | _=>none
def Node (w:World):Way→TV→Value→Value→Option (Nat × Nat)→Prop
 | [],x,u,v,nd=>v=u∧nd=x.nd
 | (k,j) :: p,x,u,v,nd=>∃ o s xs a n cap e y u',x=.sl o s xs∧u=.slice (some a) n cap∧xs[k]? = some e∧e[j]? = some y∧w.cell? (a.add (k * s + j))=some u'∧Node w p y u' v nd
section
variable {w w':World} {I I':Nat→Prop} {x y:TV} {u v:Value} {S:Nat→Prop}
theorem getD_some {l:List Value} {k:Nat} {u:Value} (h:l[k]? = some u):l.getD k undef=u:=by simp [h]
theorem am.child {o:Bool} {s:Nat} {xs:List (List TV)} (h:am w I (.sl o s xs) u S) {k j:Nat} {e:List TV} {y:TV} (hk:xs[k]? = some e) (hj:e[j]? = some y) :
  ∃ a cap u' S',u=.slice (some a) xs.length cap∧w.cell? (a.add (k * s + j))=some u'∧u'.oneCell'=true∧am w I y u' S'∧(∀ b,S' b→S b)∧(S a.block∨I a.block)∧e.length=s:=by
 have hlt:k < xs.length:=(Gu.1 hk).1
 cases h with
 | fr h =>
  cases h with
  | @sl _ _ a cap cell hI hc hm hl hcell h1 hr =>
   have hel:=hl e (GD hk)
   have hf:k * s + j < xs.length * s:=by
    have hj':=(Gu.1 hj).1
    have:=Nat.mul_le_mul_right s (Nat.succ_le_of_lt hlt)
    rw [Nat.succ_mul] at this
    omega
   exact ⟨a,cap,_,fun _=>False,rfl,hcell _ hf,h1 _ hf,.fr (hr k e hk j y hj),fun _ h=>h.elim,.inr (hI (by omega)),hel⟩
 | @sl _ _ a cap S us vs ty F hS row hl hr hF hd =>
  have hel:=hl e (GD hk)
  have hfg:=dj hl hk hj
  have hlt2:k * s + j < us.length:=by
   rw [row.len,← bS hl]
   exact (Gu.1 hfg).1
  have hu:=Gv hlt2
  refine ⟨a,cap,us[k * s + j],F (k * s + j),rfl,row.cell hu,row.one _ (List.getElem_mem hlt2),?_,fun b hb=>(hF _ b hb).1,.inl hS,hel⟩
  have:=hr _ _ hfg
  rwa [getD_some hu] at this
theorem Node.mv:∀ {p:Way} {x:TV} {u v:Value} {nd:Option (Nat × Nat)} {S:Nat→Prop},am w I x u S→(∀ b,I b→w'.heap[b]? = w.heap[b]?)→(∀ b,S b→w'.heap[b]? = w.heap[b]?)→Node w p x u v nd→Node w' p x u v nd
 | [],x,u,v,nd,S,_,_,_,h=>h
 | (k,j) :: p,x,u,v,nd,S,hr,hI,hS,⟨o,s,xs,a,n,cap,e,y,u',hx,hu,he,hy,hc,h⟩=>by
  subst hx
  obtain ⟨a',cap',u2,S',h1,h2,h3,h4,h5,h6,h7⟩:=hr.child he hy
  rw [hu] at h1
  cases h1
  rw [hc] at h2
  cases h2
  refine ⟨o,s,xs,a,_,_,e,y,u',rfl,hu,he,hy,?_,Node.mv h4 hI (fun b hb=>hS b (h5 b hb)) h⟩
  rw [← hc]
  refine World.cell?_of_block ?_
  rw [eR]
  rcases h6 with h6 | h6
  ·exact hS _ h6
  ·exact hI _ h6
theorem am.get:∀ {p:Way} {x y:TV} {u:Value} {S:Nat→Prop},am w I x u S→bD p x=some y→∃ v S',Node w p x u v y.nd∧am w I y v S'∧(∀ b,S' b→S b)∧(p≠[]→v.oneCell'=true)
 | [],x,y,u,S,hr,h=>by
  simp only [bD,Gw] at h
  subst h
  exact ⟨u,S,⟨rfl,rfl⟩,hr,fun _ h=>h,fun h=>absurd rfl h⟩
 | (k, j) :: p, x, y, u, S, hr, h => by
  cases x with
  | sl o s xs =>
   simp only [bD] at h
   cases he:xs[k]? with
   | none=>simp [he] at h
   | some e =>
    simp only [he] at h
    cases hz:e[j]? with
    | none=>simp [hz] at h
    | some z =>
     simp only [hz] at h
     obtain ⟨a,cap,u',S1,h1,h2,h3,h4,h5,h6,h7⟩:=hr.child he hz
     obtain ⟨v,S2,n1,n2,n3,n4⟩:=am.get h4 h
     refine ⟨v,S2,⟨o,s,xs,a,_,cap,e,z,u',rfl,h1,he,hz,h2,n1⟩,n2,fun b hb=>h5 b (n3 b hb),fun _=>?_⟩
     cases p with
     | nil=>rw [n1.1]; exact h3
     | cons=>exact n4 (by simp)
  | _=>simp [bD] at h
theorem Node.unique:∀ {p:Way} {x:TV} {u v v':Value} {nd nd':Option (Nat × Nat)},Node w p x u v nd→Node w p x u v' nd'→v=v'∧nd=nd'
 | [],x,u,v,v',nd,nd',h,h'=>⟨h.1.trans h'.1.symm,h.2.trans h'.2.symm⟩
 | (k,j) :: p,x,u,v,v',nd,nd',⟨o,s,xs,a,n,cap,e,y,u',hx,hu,he,hy,hc,h⟩,⟨o2,s2,xs2,a2,n2,cap2,e2,y2,u2,hx2,hu2,he2,hy2,hc2,h2⟩=>by
  subst hx
  cases hx2
  subst hu
  cases hu2
  rw [he] at he2
  cases he2
  rw [hy] at hy2
  cases hy2
  rw [hc] at hc2
  cases hc2
  exact Node.unique h h2
theorem am.sub : ∀ {p : Way} {x y : TV} {u : Value} {S : Nat → Prop}, am w I x u S → bD p x = some y →
  ∃ v Sy, am w I y v Sy ∧ (∀ b, Sy b → S b) ∧ Node w p x u v y.nd ∧ (p ≠ [] → v.oneCell' = true) ∧
   ∀ (w':World) (I':Nat→Prop) (y' x':TV) (S':Nat→Prop),je p x y'=some x'→(∀ b,I b→w'.heap[b]? = w.heap[b]?)→(∀ b,I b→I' b)→(∀ b,S b→¬ Sy b→w'.heap[b]? = w.heap[b]?) →
    am w' I' y' v S'→(∀ b,S' b→S b→Sy b)→am w' I' x' u (fun b=>(S b∧¬ Sy b)∨S' b) ∧
    ∀ (q:Way) (v':Value) (nd:Option (Nat × Nat)),(∀ q',q=p ++ q'→Node w q' y v v' nd→Node w' q' y' v v' nd)→Node w q x u v' nd→Node w' q x' u v' nd
 | [],x,y,u,S,hr,h=>by
  simp only [Ab.bD,Gw] at h
  subst h
  refine ⟨u,S,hr,fun _ h=>h,⟨rfl,rfl⟩,fun h=>absurd rfl h,?_⟩
  intro w' I' y' x' S' hs hI hII hh hr' hd
  simp only [je,Gw] at hs
  subst hs
  exact ⟨hr'.mono (fun b hb=>.inr hb),fun q v' nd hq hn=>hq q rfl hn⟩
 | (k, j) :: p, x, y, u, S, hr, h => by
  cases x with
  | sl o s xs =>
   simp only [Ab.bD] at h
   cases he:xs[k]? with
   | none=>simp [he] at h
   | some e =>
    simp only [he] at h
    cases hz:e[j]? with
    | none=>simp [hz] at h
    | some z =>
     simp only [hz] at h
     cases o with
     | false =>
      obtain ⟨v,S',n1,n2,n3,n4⟩:=am.get (p:=(k,j) :: p) (y:=y) hr (by simp only [Ab.bD,he,hz,h])
      refine ⟨v,S',n2,n3,n1,n4,?_⟩
      intro w' I' y' x' S2 hs
      simp [je] at hs
     | true =>
      cases hr with
      | fr h=>cases h
      | @sl _ _ a cap S us vs ty F hS row hl hr hF hd =>
       have hel:=hl e (GD he)
       have hjl:j < e.length:=(Gu.1 hz).1
       have hfg:=dj hl he hz
       have hlt2:k * s + j < us.length:=by
        rw [row.len,← bS hl]
        exact (Gu.1 hfg).1
       have hu:=Gv hlt2
       have hrz:=hr _ _ hfg
       rw [getD_some hu] at hrz
       obtain ⟨v,Sy,m1,m2,m3,m4,m5⟩:=am.sub hrz h
       have hSyF:∀ b,Sy b→F (k * s + j) b:=m2
       refine ⟨v,Sy,m1,fun b hb=>(hF _ b (m2 b hb)).1,⟨true,s,xs,a,_,cap,e,z,us[k * s + j],rfl,rfl,he,hz,row.cell hu,m3⟩,fun _=>?_,?_⟩
       ·cases p with
        | nil=>rw [m3.1]; exact row.one _ (List.getElem_mem hlt2)
        | cons=>exact m4 (by simp)
       intro w' I' y' x' S' hs hI hII hh hr' hdis
       simp only [je,he,hz] at hs
       cases hz':je p z y' with
       | none=>simp [hz'] at hs
       | some z' =>
        simp only [hz',Gw,ak] at hs
        subst hs
        have hablk:¬ Sy a.block:=fun hb=>(hF _ _ (m2 _ hb)).2 rfl
        obtain ⟨r1,r2⟩:=m5 w' I' y' z' S' hz' hI hII (fun b hb hn=>hh b (hF _ b hb).1 hn) hr' (fun b hb hb2=>hdis b hb (hF _ b hb2).1)
        have hset:e.set j z'=spl e j [z']:=by
         apply List.ext_getElem?
         intro m
         rw [bJ (by simp; omega),List.getElem?_set]
         by_cases hjm:j=m
         ·subst hjm; simp [hjl]
         ·rw [if_neg hjm,if_neg (by simp; omega)]
        obtain ⟨f1,f2⟩:=xE (ys:=[z']) hl he (by simp; omega:j + [z'].length≤e.length)
        have hlen:(xs.set k (e.set j z')).length=xs.length:=by simp
        have hrow:Row w' a (xs.set k (e.set j z')).length cap s us vs ty:=by
         rw [hlen]
         exact ⟨by rw [hh _ hS hablk]; exact row.heap,row.spot,row.le,row.max,row.fit,row.len,row.cells,row.one⟩
        have hother:∀ m c,m≠k * s + j→xs.flatten[m]? = some c→am w' I' c (us.getD m undef) (F m):=fun m c hm hc =>
         (hr m c hc).mv hI hII (fun b hb=>hh b (hF m b hb).1 (fun hs=>hm (hd m _ b hb (m2 b hs)))) (fun _ h=>h)
        constructor
        ·have key:am w' I' (.sl true s (xs.set k (e.set j z'))) (.slice (some a) (xs.set k (e.set j z')).length cap) (fun b=>(S b∧¬ Sy b)∨S' b):=by
          refine .sl us vs ty (fun m b=>if m=k * s + j then (F (k * s + j) b∧¬ Sy b)∨S' b else F m b) (.inl ⟨hS,hablk⟩) hrow (Bi hl (by simp [hel])) (fun m c hc=>?_) (fun m b hb=>?_) (fun m m' b hb hb'=>?_)
          ·rw [hset,f1,bJ f2] at hc
           by_cases hm:m=k * s + j
           ·subst hm
            simp only [List.length_singleton,Nat.sub_self] at hc
            rw [if_pos (by omega)] at hc
            simp only [List.getElem?_cons_zero,Gw] at hc
            subst hc
            simp only [if_true]
            rw [getD_some hu]
            exact r1
           ·rw [if_neg (by simp only [List.length_singleton]; omega)] at hc
            simp only [hm,if_false]
            exact hother m c hm hc
          ·by_cases hm:m=k * s + j
           ·subst hm
            simp only [if_true] at hb
            rcases hb with ⟨h1,h2⟩ | h1
            ·exact ⟨.inl ⟨(hF _ b h1).1,h2⟩,(hF _ b h1).2⟩
            ·exact ⟨.inr h1,fun e=>by subst e; exact hablk (hdis _ h1 hS)⟩
           ·simp only [hm,if_false] at hb
            exact ⟨.inl ⟨(hF _ b hb).1,fun hs=>hm (hd _ _ b hb (m2 b hs))⟩,(hF _ b hb).2⟩
          ·by_cases hm:m=k * s + j <;> by_cases hm':m'=k * s + j
           ·rw [hm,hm']
           ·simp only [hm,hm',if_true,if_false] at hb hb'
            rcases hb with ⟨h1,h2⟩ | h1
            ·exact hm ▸ hd _ _ b h1 hb'
            ·exact hm ▸ hd _ _ b (m2 b (hdis b h1 (hF _ b hb').1)) hb'
           ·simp only [hm,hm',if_true,if_false] at hb hb'
            rcases hb' with ⟨h1,h2⟩ | h1
            ·exact hm' ▸ hd _ _ b hb h1
            ·exact hm' ▸ hd _ _ b hb (m2 b (hdis b h1 (hF _ b hb).1))
           ·simp only [hm,hm',if_false] at hb hb'
            exact hd _ _ b hb hb'
         rwa [hlen] at key
        ·intro q v' nd hq hn
         cases q with
         | nil =>
          obtain ⟨e1,e2⟩:=hn
          exact ⟨e1,by rw [e2]; simp [TV.nd]⟩
         | cons kj q =>
          obtain ⟨k1,j1⟩:=kj
          obtain ⟨o2,s2,xs2,a2,n2,cap2,e2,y2,u2,hx2,hu2,he2,hy2,hc2,hn2⟩:=hn
          cases hx2
          cases hu2
          have hblk:∀ m,w'.cell? (a.add m)=w.cell? (a.add m):=fun m=>World.cell?_of_block (by rw [eR]; exact hh _ hS hablk)
          by_cases hk1:k1=k
          ·subst hk1
           rw [he] at he2
           cases he2
           have hk2:k1 < xs.length:=(Gu.1 he).1
           by_cases hj1:j1=j
           ·subst hj1
            rw [hz] at hy2
            cases hy2
            have:u2=us[k1 * s + j1]:=by rw [row.cell hu] at hc2; exact (Option.some.inj hc2).symm
            subst this
            refine ⟨true,s,_,a,_,cap,e.set j1 z',z',us[k1 * s + j1],rfl,rfl,by rw [List.getElem?_set_self hk2],by rw [List.getElem?_set_self hjl],by rw [hblk]; exact hc2,?_⟩
            exact r2 q v' nd (fun q' hq'=>hq q' (by rw [hq']; rfl)) hn2
           ·refine ⟨true,s,_,a,_,cap,e.set j z',y2,u2,rfl,rfl,by rw [List.getElem?_set_self hk2],by rw [List.getElem?_set_ne (fun h=>hj1 h.symm)]; exact hy2,by rw [hblk]; exact hc2,?_⟩
            have hfg2:=dj hl he hy2
            have hm:k1 * s + j1≠k1 * s + j:=by omega
            have hr2:=hr _ _ hfg2
            have hlt3:k1 * s + j1 < us.length:=by rw [row.len,← bS hl]; exact (Gu.1 hfg2).1
            rw [getD_some (Gv hlt3)] at hr2
            have:u2=us[k1 * s + j1]:=by rw [row.cell (Gv hlt3)] at hc2; exact (Option.some.inj hc2).symm
            subst this
            exact Node.mv hr2 hI (fun b hb=>hh b (hF _ b hb).1 (fun hs=>hm (hd _ _ b hb (m2 b hs)))) hn2
          ·refine ⟨true,s,_,a,_,cap,e2,y2,u2,rfl,rfl,by rw [List.getElem?_set_ne (fun h=>hk1 h.symm)]; exact he2,hy2,by rw [hblk]; exact hc2,?_⟩
           have hfg2:=dj hl he2 hy2
           have hel2:=hl e2 (GD he2)
           have hj2:j1 < e2.length:=(Gu.1 hy2).1
           have hm:k1 * s + j1≠k * s + j:=by
            intro heq
            rcases Nat.lt_or_gt_of_ne hk1 with h' | h'
            ·have:=Nat.mul_le_mul_right s (Nat.succ_le_of_lt h')
             rw [Nat.succ_mul] at this
             omega
            ·have:=Nat.mul_le_mul_right s (Nat.succ_le_of_lt h')
             rw [Nat.succ_mul] at this
             omega
           have hr2:=hr _ _ hfg2
           have hlt3:k1 * s + j1 < us.length:=by rw [row.len,← bS hl]; exact (Gu.1 hfg2).1
           rw [getD_some (Gv hlt3)] at hr2
           have:u2=us[k1 * s + j1]:=by rw [row.cell (Gv hlt3)] at hc2; exact (Option.some.inj hc2).symm
           subst this
           exact Node.mv hr2 hI (fun b hb=>hh b (hF _ b hb).1 (fun hs=>hm (hd _ _ b hb (m2 b hs)))) hn2
  | _=>simp [Ab.bD] at h
end
end Go.Ab
end

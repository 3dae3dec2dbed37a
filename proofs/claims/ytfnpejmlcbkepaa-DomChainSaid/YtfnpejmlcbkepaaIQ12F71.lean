import Derived.Test.YtfnpejmlcbkepaaIQ12T
import Derived.Test.YtfnpejmlcbkepaaIQ12Xb
import Derived.OpenShut
set_option linter.all false
section
set_option maxRecDepth 100000
namespace Go.Ab.Q12
open Go Go.Ab Go.Proofs
open Go.Ab.TV (hole cell comp isSl isSc isTup cellsL tup agg)
open Go.Ab.Prg (tv tvs rws nat chk call jmp ret)
def f46_0_S  (x0 x1 y2 y3 y4 w5:TV):ASt:=⟨[Jk,AV.tv x0,Pt 0,Jk,Jk,Sr 1,AV.tv x1] ++ Rj 62,[some (BC.cells [CA.t y2,CA.t y3,CA.t y4]),Tr w5] ++ Rz 91,[]⟩
def f46_1_S  (x0 x1 x2 y3 y4 y5 w6:TV):ASt:=⟨[Jk,AV.tv x0,Pt 0,Jk,Jk,Sr 1,AV.tv x1,AV.tv x2] ++ Rj 61,[some (BC.cells [CA.t y3,CA.t y4,CA.t y5]),Tr w6] ++ Rz 91,[]⟩
def f46_2_S  (x0 x1 x2 x3 y4 y5 y6 w7 w8:TV):ASt:=⟨[Jk,AV.tv x0,Pt 0,Jk,Jk,Sr 1,AV.tv x1,AV.tv x2,Sr 2,AV.tv x3] ++ Rj 59,[some (BC.cells [CA.t y4,CA.t y5,CA.t y6]),Tr w7,Tr w8] ++ Rz 90,[]⟩
def f46_M (x0 x1:TV):Prg TV :=
 chk (TV.isAgg x0 3) (
 tv (plen (.slice 59) (cell x0 2)) fun v0 =>
 nat (ah v0) fun n1 =>
 nat (ah v0) fun n2 =>
 chk (Bool.and (Nat.ble n1 n2) (Nat.ble n2 4294967296)) (
 tv (plen (.slice 4) (TV.sl true 1 (List.replicate n1 [B false]))) fun v3 =>
 tv (pbin (.int .i64) .eql v3 (I 0)) fun v4 =>
 Prg.ite (asBool v4) (
 ret (TV.sl true 1 (List.replicate n1 [B false]))) (
 tv (pbin (.int .i64) .eql x1 (I 0)) fun v5 =>
 Prg.ite (asBool v5) (
 ret (TV.sl true 1 (List.replicate n1 [B false]))) (
 nat (slLen (TV.sl true 1 (List.replicate n1 [B false]))) fun n6 =>
 nat (ah (I 0)) fun n7 =>
 chk (Bool.and (slSize (TV.sl true 1 (List.replicate n1 [B false])) 1) (Nat.blt n7 n6)) (
 tvs (pel (TV.sl true 1 (List.replicate n1 [B false])) n7) fun e8 =>
 chk (ae bj e8 0) (
 tv (dC [] (TV.sl true 1 (List.replicate n1 [B false])) n7 0 [B true]) fun v9 =>
 jmp [0,0,1,0,1,1,1,1] (f46_0_S x1 (B true) (cell x0 0) (cell x0 1) (cell x0 2) v9)))))))
def f46_0  (x0 x1 y2 y3 y4 w5:TV):Prg TV :=
 Prg.ite (asBool x1) (
 jmp [0,0,1,1,0,1,0,0,1,0,1,1,1,1] (f46_1_S x0 (B false) (I 0) y2 y3 y4 w5)) (
 ret w5)
def f46_1  (x0 x1 x2 y3 y4 y5 w6:TV):Prg TV :=
 tv (plen (.slice 4) w6) fun v10 =>
 tv (pbin (.int .i64) .lss x2 v10) fun v11 =>
 Prg.ite (asBool v11) (
 call 18 [agg [y3,y4,y5],x2] fun v12 =>
 chk (ae zSl [v12] 0) (
 jmp [0,0,1,1,0,0,1,0,0,1,1,0,1,0,0,1,0,1,1,1,1] (f46_2_S x0 x1 x2 (I 0) y3 y4 y5 w6 v12))) (
 jmp [0,0,1,0,1,1,1,1] (f46_0_S x0 x1 y3 y4 y5 w6))
def f46_2  (x0 x1 x2 x3 y4 y5 y6 w7 w8:TV):Prg TV :=
 tv (plen (.slice 3) w8) fun v13 =>
 tv (pbin (.int .i64) .lss x3 v13) fun v14 =>
 Prg.ite (asBool v14) (
 nat (slLen w7) fun n15 =>
 nat (ah x2) fun n16 =>
 chk (Bool.and (slSize w7 1) (Nat.blt n16 n15)) (
 tvs (pel w7 n16) fun e17 =>
 chk (ae bj e17 0) (
 Prg.ite (asBool (nth hole e17 0)) (
 nat (slLen w8) fun n18 =>
 nat (ah x3) fun n19 =>
 chk (Bool.and (slSize w8 1) (Nat.blt n19 n18)) (
 tvs (pel w8 n19) fun e20 =>
 chk (ae dj e20 0) (
 tv (pbin (.int .i64) .neq (nth hole e20 0) x0) fun v21 =>
 Prg.ite (asBool v21) (
 nat (slLen w8) fun n22 =>
 nat (ah x3) fun n23 =>
 chk (Bool.and (slSize w8 1) (Nat.blt n23 n22)) (
 tvs (pel w8 n23) fun e24 =>
 chk (ae dj e24 0) (
 nat (slLen w7) fun n25 =>
 nat (ah (nth hole e24 0)) fun n26 =>
 chk (Bool.and (slSize w7 1) (Nat.blt n26 n25)) (
 tvs (pel w7 n26) fun e27 =>
 chk (ae bj e27 0) (
 tv (pun .not (nth hole e27 0)) fun v28 =>
 Prg.ite (asBool v28) (
 nat (slLen w8) fun n29 =>
 nat (ah x3) fun n30 =>
 chk (Bool.and (slSize w8 1) (Nat.blt n30 n29)) (
 tvs (pel w8 n30) fun e31 =>
 chk (ae dj e31 0) (
 nat (slLen w7) fun n32 =>
 nat (ah (nth hole e31 0)) fun n33 =>
 chk (Bool.and (slSize w7 1) (Nat.blt n33 n32)) (
 tvs (pel w7 n33) fun e34 =>
 chk (ae bj e34 0) (
 tv (dC [] w7 n33 0 [B true]) fun v35 =>
 tv (pbin (.int .i64) .add x3 (I 1)) fun v36 =>
 jmp [0,0,1,1,0,0,1,0,0,1,1,0,1,0,0,1,0,1,1,1,1] (f46_2_S x0 (B true) x2 v36 y4 y5 y6 v35 w8)))))) (
 tv (pbin (.int .i64) .add x3 (I 1)) fun v37 =>
 jmp [0,0,1,1,0,0,1,0,0,1,1,0,1,0,0,1,0,1,1,1,1] (f46_2_S x0 x1 x2 v37 y4 y5 y6 w7 w8))))))) (
 tv (pbin (.int .i64) .add x3 (I 1)) fun v38 =>
 jmp [0,0,1,1,0,0,1,0,0,1,1,0,1,0,0,1,0,1,1,1,1] (f46_2_S x0 x1 x2 v38 y4 y5 y6 w7 w8))))) (
 tv (pbin (.int .i64) .add x3 (I 1)) fun v39 =>
 jmp [0,0,1,1,0,0,1,0,0,1,1,0,1,0,0,1,0,1,1,1,1] (f46_2_S x0 x1 x2 v39 y4 y5 y6 w7 w8))))) (
 tv (pbin (.int .i64) .add x2 (I 1)) fun v40 =>
 jmp [0,0,1,1,0,1,0,0,1,0,1,1,1,1] (f46_1_S x0 x1 v40 y4 y5 y6 w7))
theorem f46_MR (x0 x1:TV):bG prog 46 [x0,x1]=f46_M x0 x1:=by kernel_rfl
theorem f46_0_J  {x0 x1 y2 y3 y4 w5:TV} {r:TV} (h:aa prog 46 (f46_0 x0 x1 y2 y3 y4 w5) r):aa prog 46 (.jmp [0,0,1,0,1,1,1,1] (f46_0_S x0 x1 y2 y3 y4 w5)) r:=aa.jmp (by kernel_rfl) h
theorem f46_1_J  {x0 x1 x2 y3 y4 y5 w6:TV} {r:TV} (h:aa prog 46 (f46_1 x0 x1 x2 y3 y4 y5 w6) r):aa prog 46 (.jmp [0,0,1,1,0,1,0,0,1,0,1,1,1,1] (f46_1_S x0 x1 x2 y3 y4 y5 w6)) r:=aa.jmp (by kernel_rfl) h
theorem f46_2_J  {x0 x1 x2 x3 y4 y5 y6 w7 w8:TV} {r:TV} (h:aa prog 46 (f46_2 x0 x1 x2 x3 y4 y5 y6 w7 w8) r):aa prog 46 (.jmp [0,0,1,1,0,0,1,0,0,1,1,0,1,0,0,1,0,1,1,1,1] (f46_2_S x0 x1 x2 x3 y4 y5 y6 w7 w8)) r:=aa.jmp (by kernel_rfl) h
def f48_M (c0 c1 c2 x0:TV):Prg TV :=
 chk (Nat.ble 3 (List.length [c0,c1,c2])) (
 call 17 [agg [c0,c1,c2],x0] fun v0 =>
 chk (ae zSl [v0] 0) (
 chk (b8 v0) (
 ret v0)))
theorem f48_MR (c0 c1 c2 x0:TV):bG prog 48 [x0,agg [c0,c1,c2]]=f48_M c0 c1 c2 x0:=by kernel_rfl
def f55_0_S  (x0 w1 w2 w3:TV):ASt:=⟨[Jk,Jk,Pt 0,Sr 1,Pt 2,AV.tv x0] ++ Rj 28,[some (BC.cells [CA.junk,CA.junk,CA.junk]),Tr w1,some (BC.cells [CA.sref 1 0 [],CA.sref 3 0 [],CA.sref 4 0 []]),Tr w2,Tr w3] ++ Rz 53,[]⟩
def f55_M (x0:TV):Prg TV :=
 chk (TV.isAgg x0 3) (
 call 24 [agg [cell x0 0,cell x0 1,cell x0 2]] fun v0 =>
 chk (ae zSl [v0] 0) (
 call 74 [agg [cell x0 0,cell x0 1,cell x0 2],frz v0] fun v1 =>
 chk (ae zSl [v1] 0) (
 tv (plen (.slice 3) v0) fun v2 =>
 nat (ah v2) fun n3 =>
 nat (ah v2) fun n4 =>
 chk (Bool.and (Nat.ble n3 n4) (Nat.ble n4 4294967296)) (
 jmp [0,0,1,0,1,1,1] (f55_0_S (I 1) v0 v1 (TV.sl true 1 (List.replicate n3 [I 0])))))))
def f55_0  (x0 w1 w2 w3:TV):Prg TV :=
 tv (plen (.slice 3) w1) fun v5 =>
 tv (pbin (.int .i64) .lss x0 v5) fun v6 =>
 Prg.ite (asBool v6) (
 nat (slLen w2) fun n7 =>
 nat (ah x0) fun n8 =>
 chk (Bool.and (slSize w2 1) (Nat.blt n8 n7)) (
 tvs (pel w2 n8) fun e9 =>
 chk (ae zSl e9 0) (
 tv (cm [(n8,0)] w2) fun v10 =>
 nat (slLen v10) fun n11 =>
 nat (ah (I 0)) fun n12 =>
 chk (Bool.and (slSize v10 1) (Nat.blt n12 n11)) (
 tv (cm [(n8,0)] w2) fun v13 =>
 tvs (pel v13 n12) fun e14 =>
 chk (ae dj e14 0) (
 nat (slLen w3) fun n15 =>
 nat (ah x0) fun n16 =>
 chk (Bool.and (slSize w3 1) (Nat.blt n16 n15)) (
 tvs (pel w3 n16) fun e17 =>
 chk (ae dj e17 0) (
 tv (dC [] w3 n16 0 [nth hole e14 0]) fun v18 =>
 tv (pbin (.int .i64) .add x0 (I 1)) fun v19 =>
 jmp [0,0,1,0,1,1,1] (f55_0_S v19 w1 w2 v18)))))))) (
 chk (b8 (agg [w1,w2,w3])) (
 ret (agg [w1,w2,w3])))
theorem f55_MR (x0:TV):bG prog 55 [x0]=f55_M x0:=by kernel_rfl
theorem f55_0_J  {x0 w1 w2 w3:TV} {r:TV} (h:aa prog 55 (f55_0 x0 w1 w2 w3) r):aa prog 55 (.jmp [0,0,1,0,1,1,1] (f55_0_S x0 w1 w2 w3)) r:=aa.jmp (by kernel_rfl) h
def f57_0_S  (x0 y1 y2 y3 w4 w5:TV):ASt:=⟨[Jk,Pt 0,Jk,Sr 1,Sr 2,AV.tv x0] ++ Rj 50,[some (BC.cells [CA.t y1,CA.t y2,CA.t y3]),Tr w4,Tr w5] ++ Rz 77,[]⟩
def f57_1_S  (x0 x1 y2 y3 y4 w5 w6 w7 w8:TV):ASt:=⟨[Jk,Pt 0,Jk,Sr 1,Sr 2,AV.tv x0,Sr 3,Sr 4,AV.tv x1] ++ Rj 47,[some (BC.cells [CA.t y2,CA.t y3,CA.t y4]),Tr w5,Tr w6,Tr w7,Tr w8] ++ Rz 75,[]⟩
def f57_2_S  (x0 y1 y2 y3 w4 w5 w6:TV):ASt:=⟨[Jk,Pt 0,Jk,Sr 1,Sr 2,AV.tv x0,Jk,Sr 3] ++ Rj 48,[some (BC.cells [CA.t y1,CA.t y2,CA.t y3]),Tr w4,Tr w5,Tr w6] ++ Rz 76,[]⟩
def f57_M (x0:TV):Prg TV :=
 chk (TV.isAgg x0 3) (
 call 23 [agg [cell x0 0,cell x0 1,cell x0 2]] fun v0 =>
 chk (ae zSl [v0] 0) (
 chk true (
 jmp [0,0,1,0,1,1,1] (f57_0_S (I 0) (cell x0 0) (cell x0 1) (cell x0 2) v0 (TV.lit au)))))
def f57_0  (x0 y1 y2 y3 w4 w5:TV):Prg TV :=
 tv (plen (.slice 59) y3) fun v1 =>
 tv (pbin (.int .i64) .lss x0 v1) fun v2 =>
 Prg.ite (asBool v2) (
 call 46 [agg [y1,y2,y3],x0] fun v3 =>
 chk (ae zSl [v3] 0) (
 tv (plen (.slice 59) y3) fun v4 =>
 nat (ah v4) fun n5 =>
 nat (ah v4) fun n6 =>
 chk (Bool.and (Nat.ble n5 n6) (Nat.ble n6 4294967296)) (
 jmp [0,0,1,0,1,1,0,0,1,0,0,1,0,1,1,1] (f57_1_S x0 (I 0) y1 y2 y3 w4 w5 v3 (TV.sl true 1 (List.replicate n5 [B false])))))) (
 ret w5)
def f57_1  (x0 x1 y2 y3 y4 w5 w6 w7 w8:TV):Prg TV :=
 tv (plen (.slice 59) y4) fun v7 =>
 tv (pbin (.int .i64) .lss x1 v7) fun v8 =>
 Prg.ite (asBool v8) (
 nat (slLen w5) fun n9 =>
 nat (ah x1) fun n10 =>
 chk (Bool.and (slSize w5 1) (Nat.blt n10 n9)) (
 tvs (pel w5 n10) fun e11 =>
 chk (ae bj e11 0) (
 Prg.ite (asBool (nth hole e11 0)) (
 tv (pbin (.int .i64) .eql x0 x1) fun v12 =>
 Prg.ite (asBool v12) (
 nat (slLen w8) fun n13 =>
 nat (ah x1) fun n14 =>
 chk (Bool.and (slSize w8 1) (Nat.blt n14 n13)) (
 tvs (pel w8 n14) fun e15 =>
 chk (ae bj e15 0) (
 tv (dC [] w8 n14 0 [B true]) fun v16 =>
 tv (pbin (.int .i64) .add x1 (I 1)) fun v17 =>
 jmp [0,0,1,0,1,1,0,0,1,0,0,1,0,1,1,1] (f57_1_S x0 v17 y2 y3 y4 w5 w6 w7 v16)))) (
 nat (slLen w7) fun n18 =>
 nat (ah x1) fun n19 =>
 chk (Bool.and (slSize w7 1) (Nat.blt n19 n18)) (
 tvs (pel w7 n19) fun e20 =>
 chk (ae bj e20 0) (
 tv (pun .not (nth hole e20 0)) fun v21 =>
 nat (slLen w8) fun n22 =>
 nat (ah x1) fun n23 =>
 chk (Bool.and (slSize w8 1) (Nat.blt n23 n22)) (
 tvs (pel w8 n23) fun e24 =>
 chk (ae bj e24 0) (
 tv (dC [] w8 n23 0 [v21]) fun v25 =>
 tv (pbin (.int .i64) .add x1 (I 1)) fun v26 =>
 jmp [0,0,1,0,1,1,0,0,1,0,0,1,0,1,1,1] (f57_1_S x0 v26 y2 y3 y4 w5 w6 w7 v25))))))) (
 nat (slLen w8) fun n27 =>
 nat (ah x1) fun n28 =>
 chk (Bool.and (slSize w8 1) (Nat.blt n28 n27)) (
 tvs (pel w8 n28) fun e29 =>
 chk (ae bj e29 0) (
 tv (dC [] w8 n28 0 [B false]) fun v30 =>
 tv (pbin (.int .i64) .add x1 (I 1)) fun v31 =>
 jmp [0,0,1,0,1,1,0,0,1,0,0,1,0,1,1,1] (f57_1_S x0 v31 y2 y3 y4 w5 w6 w7 v30))))))) (
 jmp [1,1,1,0,0,1,0,0,1,0,1,1,1] (f57_2_S x0 y2 y3 y4 w5 w6 w8))
def f57_2  (x0 y1 y2 y3 w4 w5 w6:TV):Prg TV :=
 rws (pelems 1 (TV.sl true 1 (chunks 1 1 [w6]))) fun r32 =>
 tv (papp 1 w5 r32) fun v33 =>
 tv (pbin (.int .i64) .add x0 (I 1)) fun v34 =>
 jmp [0,0,1,0,1,1,1] (f57_0_S v34 y1 y2 y3 w4 v33)
theorem f57_MR (x0:TV):bG prog 57 [x0]=f57_M x0:=by kernel_rfl
theorem f57_0_J  {x0 y1 y2 y3 w4 w5:TV} {r:TV} (h:aa prog 57 (f57_0 x0 y1 y2 y3 w4 w5) r):aa prog 57 (.jmp [0,0,1,0,1,1,1] (f57_0_S x0 y1 y2 y3 w4 w5)) r:=aa.jmp (by kernel_rfl) h
theorem f57_1_J  {x0 x1 y2 y3 y4 w5 w6 w7 w8:TV} {r:TV} (h:aa prog 57 (f57_1 x0 x1 y2 y3 y4 w5 w6 w7 w8) r):aa prog 57 (.jmp [0,0,1,0,1,1,0,0,1,0,0,1,0,1,1,1] (f57_1_S x0 x1 y2 y3 y4 w5 w6 w7 w8)) r:=aa.jmp (by kernel_rfl) h
theorem f57_2_J  {x0 y1 y2 y3 w4 w5 w6:TV} {r:TV} (h:aa prog 57 (f57_2 x0 y1 y2 y3 w4 w5 w6) r):aa prog 57 (.jmp [1,1,1,0,0,1,0,0,1,0,1,1,1] (f57_2_S x0 y1 y2 y3 w4 w5 w6)) r:=aa.jmp (by kernel_rfl) h
def f58_0_S  (x0 x1 x2 w3 w4 w5:TV):ASt:=⟨[Jk,AV.tv x0,Jk,Jk,Jk,Sr 0,Sr 1] ++ Rj 9 ++ [Sr 2,AV.tv x1,AV.tv x2] ++ Rj 24,[Tr w3,Tr w4,Tr w5] ++ Rz 64,[]⟩
def f58_M (x0 x1:TV):Prg TV :=
 chk (TV.isAgg x0 3) (
 call 31 [agg [cell x0 0,cell x0 1,cell x0 2]] fun v0 =>
 chk (ae zSl [v0] 0) (
 tv (plen (.slice 59) (cell x0 2)) fun v1 =>
 nat (ah v1) fun n2 =>
 nat (ah v1) fun n3 =>
 chk (Bool.and (Nat.ble n2 n3) (Nat.ble n3 4294967296)) (
 call 24 [agg [cell x0 0,cell x0 1,cell x0 2]] fun v4 =>
 chk (ae zSl [v4] 0) (
 tv (plen (.slice 3) v4) fun v5 =>
 jmp [0,0,1,0,1,1,1] (f58_0_S x1 v5 (I 0) v0 (TV.sl true 1 (List.replicate n2 [B false])) v4)))))
def f58_0  (x0 x1 x2 w3 w4 w5:TV):Prg TV :=
 tv (pbin (.int .i64) .lss x2 x1) fun v6 =>
 Prg.ite (asBool v6) (
 nat (slLen w5) fun n7 =>
 nat (ah x2) fun n8 =>
 chk (Bool.and (slSize w5 1) (Nat.blt n8 n7)) (
 tvs (pel w5 n8) fun e9 =>
 chk (ae dj e9 0) (
 tv (pbin (.int .i64) .eql (nth hole e9 0) x0) fun v10 =>
 Prg.ite (asBool v10) (
 nat (slLen w4) fun n11 =>
 nat (ah (nth hole e9 0)) fun n12 =>
 chk (Bool.and (slSize w4 1) (Nat.blt n12 n11)) (
 tvs (pel w4 n12) fun e13 =>
 chk (ae bj e13 0) (
 tv (dC [] w4 n12 0 [B true]) fun v14 =>
 tv (pbin (.int .i64) .add x2 (I 1)) fun v15 =>
 jmp [0,0,1,0,1,1,1] (f58_0_S x0 x1 v15 w3 v14 w5)))) (
 tv (pbin (.int .i64) .gtr (nth hole e9 0) (I 0)) fun v16 =>
 Prg.ite (asBool v16) (
 nat (slLen w3) fun n17 =>
 nat (ah (nth hole e9 0)) fun n18 =>
 chk (Bool.and (slSize w3 1) (Nat.blt n18 n17)) (
 tvs (pel w3 n18) fun e19 =>
 chk (ae dj e19 0) (
 nat (slLen w4) fun n20 =>
 nat (ah (nth hole e19 0)) fun n21 =>
 chk (Bool.and (slSize w4 1) (Nat.blt n21 n20)) (
 tvs (pel w4 n21) fun e22 =>
 chk (ae bj e22 0) (
 nat (slLen w4) fun n23 =>
 nat (ah (nth hole e9 0)) fun n24 =>
 chk (Bool.and (slSize w4 1) (Nat.blt n24 n23)) (
 tvs (pel w4 n24) fun e25 =>
 chk (ae bj e25 0) (
 tv (dC [] w4 n24 0 [nth hole e22 0]) fun v26 =>
 tv (pbin (.int .i64) .add x2 (I 1)) fun v27 =>
 jmp [0,0,1,0,1,1,1] (f58_0_S x0 x1 v27 w3 v26 w5)))))))) (
 nat (slLen w4) fun n28 =>
 nat (ah (nth hole e9 0)) fun n29 =>
 chk (Bool.and (slSize w4 1) (Nat.blt n29 n28)) (
 tvs (pel w4 n29) fun e30 =>
 chk (ae bj e30 0) (
 tv (dC [] w4 n29 0 [B false]) fun v31 =>
 tv (pbin (.int .i64) .add x2 (I 1)) fun v32 =>
 jmp [0,0,1,0,1,1,1] (f58_0_S x0 x1 v32 w3 v31 w5)))))))) (
 chk (b8 w4) (
 ret w4))
theorem f58_MR (x0 x1:TV):bG prog 58 [x0,x1]=f58_M x0 x1:=by kernel_rfl
theorem f58_0_J  {x0 x1 x2 w3 w4 w5:TV} {r:TV} (h:aa prog 58 (f58_0 x0 x1 x2 w3 w4 w5) r):aa prog 58 (.jmp [0,0,1,0,1,1,1] (f58_0_S x0 x1 x2 w3 w4 w5)) r:=aa.jmp (by kernel_rfl) h
end Go.Ab.Q12
end
section
set_option maxRecDepth 100000
namespace Go.Ab.Q12
open Go Go.Ab Go.Proofs
open Go.Ab.TV (hole cell comp isSl isSc isTup cellsL tup agg)
open Go.Ab.Prg (tv tvs rws nat chk call jmp ret)
def f62_M (x0:TV):Prg TV :=
 tv (pbin (.int .i64) .eql x0 (I 1)) fun v0 =>
 Prg.ite (asBool v0) (
 Prg.ite (asBool v0) (
 ret (I 5)) (
 tv (pbin (.int .i64) .eql x0 (I 2)) fun v1 =>
 Prg.ite (asBool v1) (
 ret (I 65)) (
 tv (pbin (.int .i64) .eql x0 (I 3)) fun v2 =>
 Prg.ite (asBool v2) (
 ret (I 197)) (
 tv (pbin (.int .i64) .eql x0 (I 4)) fun v3 =>
 Prg.ite (asBool v3) (
 ret (I 355)) (
 tv (pbin (.int .i64) .eql x0 (I 6)) fun v4 =>
 Prg.ite (asBool v4) (
 ret (I 1)) (
 ret (I 0))))))) (
 tv (pbin (.int .i64) .eql x0 (I 5)) fun v5 =>
 Prg.ite (asBool v5) (
 ret (I 5)) (
 tv (pbin (.int .i64) .eql x0 (I 2)) fun v6 =>
 Prg.ite (asBool v6) (
 ret (I 65)) (
 tv (pbin (.int .i64) .eql x0 (I 3)) fun v7 =>
 Prg.ite (asBool v7) (
 ret (I 197)) (
 tv (pbin (.int .i64) .eql x0 (I 4)) fun v8 =>
 Prg.ite (asBool v8) (
 ret (I 355)) (
 tv (pbin (.int .i64) .eql x0 (I 6)) fun v9 =>
 Prg.ite (asBool v9) (
 ret (I 1)) (
 ret (I 0)))))))
theorem f62_MR (x0:TV):bG prog 62 [x0]=f62_M x0:=by kernel_rfl
def f63_M (x0 x1:TV):Prg TV :=
 tv (pbin (.int .i64) .and x0 x1) fun v0 =>
 tv (pbin (.int .i64) .neq v0 (I 0)) fun v1 =>
 ret v1
theorem f63_MR (x0 x1:TV):bG prog 63 [x0,x1]=f63_M x0 x1:=by kernel_rfl
def f74_0_S  (x0 x1 x2 x3 y4 y5 y6 w7:TV):ASt:=⟨[Jk,AV.tv x0,Pt 0,Jk,Jk,Sr 1] ++ Rj 11 ++ [AV.tv x1,AV.tv x2,AV.tv x3] ++ Rj 46,[some (BC.cells [CA.t y4,CA.t y5,CA.t y6]),Tr w7] ++ Rz 88,[]⟩
def f74_1_S  (x0 y1 y2 y3 w4:TV):ASt:=⟨[Jk,AV.tv x0,Pt 0,Jk,Jk,Sr 1] ++ Rj 60,[some (BC.cells [CA.t y1,CA.t y2,CA.t y3]),Tr w4] ++ Rz 88,[]⟩
def f74_2_S  (x0 x1 x2 y3 y4 y5 w6 w7:TV):ASt:=⟨[Jk,Jk,Pt 0,Jk,Jk,Sr 1,Jk,Jk,Sr 2] ++ Rj 23 ++ [AV.tv x0,AV.tv x1,AV.tv x2] ++ Rj 31,[some (BC.cells [CA.t y3,CA.t y4,CA.t y5]),Tr w6,Tr w7] ++ Rz 87,[]⟩
def f74_3_S  (x0 x1 x2 x3 x4 x5 y6 y7 y8 w9 w10 w11:TV):ASt:=⟨[Jk,Jk,Pt 0,Jk,Jk,Sr 1,Jk,Jk,Sr 2,AV.tv x0] ++ Rj 22 ++ [AV.tv x1,AV.tv x2,AV.tv x3] ++ Rj 6 ++ [Sr 3,AV.tv x4,AV.tv x5] ++ Rj 22,[some (BC.cells [CA.t y6,CA.t y7,CA.t y8]),Tr w9,Tr w10,Tr w11] ++ Rz 86,[]⟩
def f74_M (x0 x1:TV):Prg TV :=
 chk (TV.isAgg x0 3) (
 tv (plen (.slice 59) (cell x0 2)) fun v0 =>
 nat (ah v0) fun n1 =>
 nat (ah v0) fun n2 =>
 chk (Bool.and (Nat.ble n1 n2) (Nat.ble n2 4294967296)) (
 tv (plen (.slice 3) x1) fun v3 =>
 jmp [0,0,1,0,1,1] (f74_0_S x1 x1 v3 (I 0) (cell x0 0) (cell x0 1) (cell x0 2) (TV.sl true 1 (List.replicate n1 [I 0])))))
def f74_0  (x0 x1 x2 x3 y4 y5 y6 w7:TV):Prg TV :=
 tv (pbin (.int .i64) .lss x3 x2) fun v4 =>
 Prg.ite (asBool v4) (
 tvs (pidx 1 x1 x3) fun e5 =>
 chk (Nat.blt 0 (List.length e5)) (
 nat (slLen w7) fun n6 =>
 nat (ah (nth hole e5 0)) fun n7 =>
 chk (Bool.and (slSize w7 1) (Nat.blt n7 n6)) (
 chk (TV.gH x3) (
 tvs (pel w7 n7) fun e8 =>
 chk (ae dj e8 0) (
 tv (dC [] w7 n7 0 [x3]) fun v9 =>
 tv (pbin (.int .i64) .add x3 (I 1)) fun v10 =>
 jmp [0,0,1,0,1,1] (f74_0_S x0 x1 x2 v10 y4 y5 y6 v9)))))) (
 jmp [1,1,1] (f74_1_S x0 y4 y5 y6 w7))
def f74_1  (x0 y1 y2 y3 w4:TV):Prg TV :=
 tv (plen (.slice 3) x0) fun v11 =>
 nat (ah v11) fun n12 =>
 nat (ah v11) fun n13 =>
 chk (Bool.and (Nat.ble n12 n13) (Nat.ble n13 4294967296)) (
 tv (plen (.slice 3) x0) fun v14 =>
 jmp [0,0,1,0,1,1,1,1] (f74_2_S x0 v14 (I 0) y1 y2 y3 w4 (TV.sl true 1 (List.replicate n12 [TV.lit au]))))
def f74_2  (x0 x1 x2 y3 y4 y5 w6 w7:TV):Prg TV :=
 tv (pbin (.int .i64) .lss x2 x1) fun v15 =>
 Prg.ite (asBool v15) (
 tvs (pidx 1 x0 x2) fun e16 =>
 chk (Nat.blt 0 (List.length e16)) (
 call 17 [agg [y3,y4,y5],nth hole e16 0] fun v17 =>
 chk (ae zSl [v17] 0) (
 tv (plen (.slice 3) v17) fun v18 =>
 jmp [0,0,1,1,0,0,1,1,0,0,1,0,1,1,1,1] (f74_3_S x2 x0 x1 x2 v18 (I 0) y3 y4 y5 w6 w7 v17)))) (
 chk (b8 w7) (
 ret w7))
def f74_3  (x0 x1 x2 x3 x4 x5 y6 y7 y8 w9 w10 w11:TV):Prg TV :=
 tv (pbin (.int .i64) .lss x5 x4) fun v19 =>
 Prg.ite (asBool v19) (
 nat (slLen w11) fun n20 =>
 nat (ah x5) fun n21 =>
 chk (Bool.and (slSize w11 1) (Nat.blt n21 n20)) (
 tvs (pel w11 n21) fun e22 =>
 chk (ae dj e22 0) (
 nat (slLen w9) fun n23 =>
 nat (ah (nth hole e22 0)) fun n24 =>
 chk (Bool.and (slSize w9 1) (Nat.blt n24 n23)) (
 tvs (pel w9 n24) fun e25 =>
 chk (ae dj e25 0) (
 nat (slLen w9) fun n26 =>
 nat (ah (nth hole e22 0)) fun n27 =>
 chk (Bool.and (slSize w9 1) (Nat.blt n27 n26)) (
 tvs (pel w9 n27) fun e28 =>
 chk (ae dj e28 0) (
 nat (slLen w10) fun n29 =>
 nat (ah (nth hole e28 0)) fun n30 =>
 chk (Bool.and (slSize w10 1) (Nat.blt n30 n29)) (
 tvs (pel w10 n30) fun e31 =>
 chk (ae zSl e31 0) (
 chk (TV.gH x0) (
 rws (pelems 1 (TV.sl true 1 (chunks 1 1 [x0]))) fun r32 =>
 tv (cm [(n30,0)] w10) fun v33 =>
 tv (papp 1 v33 (mW r32)) fun v34 =>
 tv (iZ [(n30,0)] w10 hole) fun v35 =>
 nat (slLen v35) fun n36 =>
 nat (ah (nth hole e25 0)) fun n37 =>
 chk (Bool.and (slSize v35 1) (Nat.blt n37 n36)) (
 tvs (pel v35 n37) fun e38 =>
 chk (Bool.and (fU zSl e38 0) (ae zSl [v34] 0)) (
 tv (dC [] v35 n37 0 [v34]) fun v39 =>
 tv (pbin (.int .i64) .add x5 (I 1)) fun v40 =>
 jmp [0,0,1,1,0,0,1,1,0,0,1,0,1,1,1,1] (f74_3_S x0 x1 x2 x3 x4 v40 y6 y7 y8 w9 v39 w11))))))))))))) (
 tv (pbin (.int .i64) .add x3 (I 1)) fun v41 =>
 jmp [0,0,1,0,1,1,1,1] (f74_2_S x1 x2 v41 y6 y7 y8 w9 w10))
theorem f74_MR (x0 x1:TV):bG prog 74 [x0,x1]=f74_M x0 x1:=by kernel_rfl
theorem f74_0_J  {x0 x1 x2 x3 y4 y5 y6 w7:TV} {r:TV} (h:aa prog 74 (f74_0 x0 x1 x2 x3 y4 y5 y6 w7) r):aa prog 74 (.jmp [0,0,1,0,1,1] (f74_0_S x0 x1 x2 x3 y4 y5 y6 w7)) r:=aa.jmp (by kernel_rfl) h
theorem f74_1_J  {x0 y1 y2 y3 w4:TV} {r:TV} (h:aa prog 74 (f74_1 x0 y1 y2 y3 w4) r):aa prog 74 (.jmp [1,1,1] (f74_1_S x0 y1 y2 y3 w4)) r:=aa.jmp (by kernel_rfl) h
theorem f74_2_J  {x0 x1 x2 y3 y4 y5 w6 w7:TV} {r:TV} (h:aa prog 74 (f74_2 x0 x1 x2 y3 y4 y5 w6 w7) r):aa prog 74 (.jmp [0,0,1,0,1,1,1,1] (f74_2_S x0 x1 x2 y3 y4 y5 w6 w7)) r:=aa.jmp (by kernel_rfl) h
theorem f74_3_J  {x0 x1 x2 x3 x4 x5 y6 y7 y8 w9 w10 w11:TV} {r:TV} (h:aa prog 74 (f74_3 x0 x1 x2 x3 x4 x5 y6 y7 y8 w9 w10 w11) r):aa prog 74 (.jmp [0,0,1,1,0,0,1,1,0,0,1,0,1,1,1,1] (f74_3_S x0 x1 x2 x3 x4 x5 y6 y7 y8 w9 w10 w11)) r:=aa.jmp (by kernel_rfl) h
def f75_0_S  (x0 y1 y2 y3 y4 y5:TV):ASt:=⟨[AV.one (CA.yl 0),Pt 0,Jk,AV.tv x0] ++ Rj 15,[Ct y1,some (BC.cells [CA.t y2,CA.t y3,CA.t y4]),Ct y5] ++ Rz 63,([Jk,Jk,Pt 1,Jk,Jk,Pt 2] ++ Rj 9 ++ [AV.clo 92 [CA.ptr 0 0]] ++ Rj 7)⟩
def f75_M (x0 x1:TV):Prg TV :=
 chk (TV.isAgg x0 3) (
 tv (plen (.slice 3) x1) fun v0 =>
 tv (pbin (.int .i64) .sub v0 (I 1)) fun v1 =>
 tvs (pidx 1 x1 v1) fun e2 =>
 chk (Nat.blt 0 (List.length e2)) (
 chk (TV.gH x1) (
 tv (plen (.slice 3) x1) fun v3 =>
 tv (pbin (.int .i64) .sub v3 (I 1)) fun v4 =>
 jmp [0,0,1,92,0,1,0,1,1] (f75_0_S v4 x1 (cell x0 0) (cell x0 1) (cell x0 2) (nth hole e2 0)))))
def f75_0  (x0 y1 y2 y3 y4 y5:TV):Prg TV :=
 tv (pbin (.int .i64) .geq x0 (I 0)) fun v5 =>
 Prg.ite (asBool v5) (
 tvs (pidx 1 y1 x0) fun e6 =>
 chk (Nat.blt 0 (List.length e6)) (
 call 91 [agg [y2,y3,y4],y5,nth hole e6 0] fun v7 =>
 chk (ae dj [v7] 0) (
 tv (pbin (.int .i64) .sub x0 (I 1)) fun v8 =>
 jmp [0,0,1,92,0,1,0,1,1] (f75_0_S v8 y1 y2 y3 y4 v7)))) (
 ret y5)
theorem f75_MR (x0 x1:TV):bG prog 75 [x0,x1]=f75_M x0 x1:=by kernel_rfl
theorem f75_0_J  {x0 y1 y2 y3 y4 y5:TV} {r:TV} (h:aa prog 75 (f75_0 x0 y1 y2 y3 y4 y5) r):aa prog 75 (.jmp [0,0,1,92,0,1,0,1,1] (f75_0_S x0 y1 y2 y3 y4 y5)) r:=aa.jmp (by kernel_rfl) h
def f91_0_S  (x0 x1 y2 y3 y4:TV):ASt:=⟨[Jk,AV.tv x0,AV.tv x1,Pt 0] ++ Rj 20,[some (BC.cells [CA.t y2,CA.t y3,CA.t y4])] ++ Rz 47,[]⟩
def f91_M (x0 x1 x2:TV):Prg TV :=
 chk (TV.isAgg x0 3) (
 jmp [0,0,0,1] (f91_0_S x1 x2 (cell x0 0) (cell x0 1) (cell x0 2)))
def f91_0  (x0 x1 y2 y3 y4:TV):Prg TV :=
 tv (pbin (.int .i64) .neq x0 x1) fun v0 =>
 Prg.ite (asBool v0) (
 tv (pbin (.int .i64) .gtr x0 x1) fun v1 =>
 Prg.ite (asBool v1) (
 tvs (pidx 1 y4 x0) fun e2 =>
 chk (Nat.blt 0 (List.length e2)) (
 jmp [0,0,0,1] (f91_0_S (nth hole e2 0) x1 y2 y3 y4))) (
 tvs (pidx 1 y4 x1) fun e3 =>
 chk (Nat.blt 0 (List.length e3)) (
 jmp [0,0,0,1] (f91_0_S x0 (nth hole e3 0) y2 y3 y4)))) (
 ret x0)
theorem f91_MR (x0 x1 x2:TV):bG prog 91 [x0,x1,x2]=f91_M x0 x1 x2:=by kernel_rfl
theorem f91_0_J  {x0 x1 y2 y3 y4:TV} {r:TV} (h:aa prog 91 (f91_0 x0 x1 y2 y3 y4) r):aa prog 91 (.jmp [0,0,0,1] (f91_0_S x0 x1 y2 y3 y4)) r:=aa.jmp (by kernel_rfl) h
end Go.Ab.Q12
end
section
set_option maxRecDepth 10000
namespace Go.Ab.Q12
open Go Go.Ab Go.Proofs
theorem r14 {q q':Option Bool} {x y:TV} {l m:List Int} (hx:RInts q x l) (hy:RInts q' y m):bc prog 16 [x,y] (B (tt (l=m))):=by
 refine bc.of (f16_MR _ _) ?_
 unfold f16_M
 repeat' (first
  | refine aa.chk rfl ?_
  | refine aa.tv rfl ?_
  | refine aa.tv (RL.len (by assumption)) ?_
  | refine aa.nat rfl ?_
  | refine aa.ite rfl (fun _=>?_) (fun _=>?_)
  | refine aa.call (by assumption) ?_
  | refine aa.tvs (by assumption) ?_)
 ·rename_i h
  have h:¬ l=m:=by rintro rfl; simp at h
  exact xR h
 ·rename_i h
  have hlen:l.length=m.length:=by simp at h; omega
  refine f16_0_J ?_
  rw [dQ (vu hlen)]
  refine Bx (g:=fun k=>f16_0 x y (I k)) ?_ ?_
  ·unfold f16_0
   refine aa.tv hx.len (aa.tv rfl (aa.ite bU nofun fun _=>aa.ret))
  ·intro k hk r h1 h2
   have hk':k < m.length:=by omega
   have ha:l[k]? = some l[k]:=D6 hk
   have hb:m[k]? = some m[k]:=D6 hk'
   obtain ⟨e,he,rfl,_⟩:=hx.idx (k:=.i64) ha
   obtain ⟨e',he',rfl,_⟩:=hy.idx (k:=.i64) hb
   unfold f16_0
   refine aa.tv hx.len (aa.tv rfl (aa.ite (bS hk) (fun _=>?_) nofun))
   refine aa.tvs he (aa.chk rfl (aa.tvs he' (aa.chk rfl (aa.tv rfl (aa.ite rfl (fun h=>?_) fun h=>?_)))))
   ·rw [h1 (by rw [ha,hb]; simpa using h)]; exact aa.ret
   ·refine aa.tv (inc hk hx.bnd) (f16_0_J (h2 ?_))
    rw [ha,hb]; simpa using h
end Go.Ab.Q12
end
section
set_option maxRecDepth 10000
namespace Go.Ab
end Go.Ab
namespace Go.Ab.Q12
open Go Go.Ab Go.Proofs
def iT (k:Int):Int :=
 if k=1 then 5 else if k=5 then 5 else if k=2 then 65 else if k=3 then 197 else if k=4 then 355 else if k=6 then 1 else 0
def has (u f:Int):Bool:=decide (¬ IntKind.i64.wrap ((BitVec.ofInt 64 u &&& BitVec.ofInt 64 f).toNat:Int)=0)
theorem r25 (u f:Int):bc prog 63 [I u,I f] (B (has u f)):=by
 refine bc.of (f63_MR _ _) ?_
 unfold f63_M
 repeat' (first
  | refine aa.chk rfl ?_
  | refine aa.tv rfl ?_
  | refine aa.tv (RL.len (by assumption)) ?_
  | refine aa.nat rfl ?_
  | refine aa.ite rfl (fun _=>?_) (fun _=>?_)
  | refine aa.call (by assumption) ?_
  | refine aa.tvs (by assumption) ?_)
 refine lG.2 ?_
 simp [has]
 rfl
theorem r24 (k:Int):bc prog 62 [I k] (I (iT k)):=by
 refine bc.of (f62_MR _) ?_
 unfold f62_M
 repeat' (first
  | refine aa.chk rfl ?_
  | refine aa.tv rfl ?_
  | refine aa.tv (RL.len (by assumption)) ?_
  | refine aa.nat rfl ?_
  | refine aa.ite rfl (fun _=>?_) (fun _=>?_)
  | refine aa.call (by assumption) ?_
  | refine aa.tvs (by assumption) ?_)
 all_goals (refine lG.2 ?_; simp_all [iT])
end Go.Ab.Q12
end
section
set_option maxRecDepth 10000
namespace Go.Ab
theorem ak {k:Nat} (h:k≤9223372036854775807):ah (I (k:Int))=some k:=by
 simp [ah]; omega
end Go.Ab
namespace Go.Ab.Q12
open Go Go.Ab Go.Proofs
end Go.Ab.Q12
end
section
set_option maxRecDepth 10000
namespace Go.Ab
section
variable {α:Type} {s:Nat} {R S:Nat→List TV→α→Prop} {x:TV} {l:List α}
theorem jO {β:Type}:∀ (l:List β) (n:Nat) (b:β),(al l n b).length=l.length
 | [],_,_=>rfl
 | _ :: _,0,_=>rfl
 | a :: l,n + 1,b=>by simp [al,jO l n b]
end
theorem RL.gS {α:Type} {s:Nat} {R:List TV→α→Prop} {x:TV} {l:List α} (h:RL (some false) s R x l):x.gS=true:=by
 rcases h with ⟨rfl,rfl⟩ | ⟨o,xs,rfl,hq,h,hb⟩
 ·rfl
 ·rw [hq false rfl]; rfl
theorem qm:∀ (xs:List (List TV)),(∀ e ∈ xs,eK e=true)→lW xs=true
 | [],_=>rfl
 | e :: xs,h=>by
  simp only [lW,D8]
  exact ⟨h e Ec,qm xs fun e he=>h e (Ed _ he)⟩
theorem F2.memL {α β:Type} {R:α→β→Prop} {xs:List α} {l:List β} (h:F2 R xs l) {e:α} (he:e ∈ xs):∃ a,a ∈ l∧R e a:=by
 obtain ⟨i,hi,rfl⟩:=List.mem_iff_getElem.1 he
 obtain ⟨a,ha,hr⟩:=h.getL (D6 hi)
 exact ⟨a,Ee ha,hr⟩
theorem RL.own {α:Type} {s:Nat} {R:List TV→α→Prop} {x:TV} {l:List α} (h:RL (some true) s R x l) (hm:∀ e a,R e a→eK e=true):b8 x=true:=by
 rcases h with ⟨rfl,rfl⟩ | ⟨o,xs,rfl,hq,h,hb⟩
 ·rfl
 ·rw [hq true rfl]
  simp only [b8,Bool.true_and]
  refine qm _ fun e he=>?_
  obtain ⟨a,_,hr⟩:=h.memL he
  exact hm _ _ hr
theorem RI1.own {e:List TV} {n:Int} (h:RI1 e n):eK e=true:=by obtain ⟨rfl,_⟩:=h; rfl
theorem RB1.own {e:List TV} {n:Bool} (h:RB1 e n):eK e=true:=by cases h; rfl
end Go.Ab
namespace Go.Ab.Q12
open Go Go.Ab Go.Proofs
end Go.Ab.Q12
end
section
set_option maxRecDepth 10000
namespace Go.Ab
section
variable {α β:Type} {p:Way} {w y:TV} {s:Nat} {R:List TV→α→Prop} {Q:TV→β→Prop} {G:List α→DMod} {l:List α}
theorem RL.at (hy:RL (some true) s R y l) {k:Nat} {e:List TV} (he:Go.Ab.pel y k=some e):∃ xs,y=.sl true s xs∧xs[k]? = some e∧F2 R xs l∧xs.length≤9223372036854775807:=by
 rcases hy with ⟨rfl,rfl⟩ | ⟨o,xs,rfl,hq,h,hb⟩
 ·simp [Go.Ab.pel] at he
 ·have:o=true:=hq true rfl
  subst this
  exact ⟨xs,rfl,he,h,hb⟩
end
end Go.Ab
namespace Go.Ab.Q12
open Go Go.Ab Go.Proofs
end Go.Ab.Q12
end
section
set_option maxRecDepth 10000
namespace Go.Ab
def gl (b:DBlock):List Int:=(if b.fin.kind=2∨b.fin.kind=3∨b.fin.kind=4 then [b.fin.to] else []) ++ (if b.fin.kind=3 then [b.fin.els] else [])
theorem fu {M:List Bool} {g i:Nat} (hg:g < M.length):(M.set g true)[i]? = some true ↔ i=g∨M[i]? = some true:=by
 rw [List.getElem?_set]
 by_cases h:g=i
 ·subst h; simp [hg]
 ·simp [h]; intro h'; exact absurd h'.symm h
theorem oT {M:List Bool} {g:Nat} (hg:M[g]? = some false):(M.set g true).count true=M.count true + 1:=by
 have hlt:=(D5.1 hg).1
 have hv:=(D5.1 hg).2
 rw [List.count_set hlt]
 simp [hv]
theorem wu (M:List Bool):M.count true≤M.length:=List.count_le_length
section
variable {α:Type} {s:Nat} {R:List TV→α→Prop} {y:TV} {l:List α}
theorem RL.fG (hy:RL (some true) s R y l) {i:Nat} {e:List TV} (he:Go.Ab.pel y i=some e) {d:Nat} {ys:List TV} {a:α} (hR:R (bR e d ys) a):∃ y',dC [] y i d ys=some y'∧RL (some true) s R y' (l.set i a):=by
 obtain ⟨xs,rfl,hk,hf,hb⟩:=hy.at he
 refine ⟨.sl true s (al xs i (bR e d ys)),by simp only [dC,cm,wx,hk,iZ],.sl (by simp) (hf.set hR) (by rw [jO]; exact hb)⟩
theorem RL.app (hy:RL (some true) s R y l) {e:List TV} {a:α} (hR:R e a) (hl:l.length + 1≤4294967296):∃ y',papp s y [e]=some y'∧RL (some true) s R y' (l ++ [a]):=by
 rcases hy with ⟨rfl,rfl⟩ | ⟨o,xs,rfl,hq,h,hb⟩
 ·refine ⟨.sl true s [e],by simp [papp,au,room,CY],.sl (by simp) (.cons hR .nil) (by simp)⟩
 ·have:o=true:=hq true rfl
  subst this
  have hxl:=h.length
  refine ⟨.sl true s (xs ++ [e]),?_,.sl (by simp) (h.append (.cons hR .nil)) (by simp; omega)⟩
  simp [papp,room]; omega
theorem RL.win {q:Option Bool} (hy:RL q s R y l) {k:Nat} (hk:k≤l.length):∃ y',fj 0 k y=some y'∧RL q s R y' (l.take k):=by
 rcases hy with ⟨rfl,rfl⟩ | ⟨o,xs,rfl,hq,h,hb⟩
 ·have:k=0:=by simpa using hk
  subst this
  exact ⟨.lit au,rfl,by simpa using RL.nil⟩
 ·have hxl:=h.length
  refine ⟨.sl o s ((xs.drop 0).take k),?_,.sl hq (by simpa using h.take k) (by simp; omega)⟩
  simp [fj]; omega
end
end Go.Ab
namespace Go.Ab.Q12
open Go Go.Ab Go.Proofs
theorem has64 (k:Int):has (iT k) 64=true ↔ k=2∨k=3∨k=4:=by
 by_cases h1:k=1
 ·subst h1; exact ⟨fun h=>absurd h (by decide +kernel),fun h=>absurd h (by decide)⟩
 by_cases h5:k=5
 ·subst h5; exact ⟨fun h=>absurd h (by decide +kernel),fun h=>absurd h (by decide)⟩
 by_cases h2:k=2
 ·subst h2; exact ⟨fun _=>.inl rfl,fun _=>by decide +kernel⟩
 by_cases h3:k=3
 ·subst h3; exact ⟨fun _=>.inr (.inl rfl),fun _=>by decide +kernel⟩
 by_cases h4:k=4
 ·subst h4; exact ⟨fun _=>.inr (.inr rfl),fun _=>by decide +kernel⟩
 have:has (iT k) 64=false:=by
  by_cases h6:k=6
  ·subst h6; decide +kernel
  ·have:iT k=0:=by simp [iT, *]
   rw [this]; decide +kernel
 simp [this,h2,h3,h4]
theorem has128 (k:Int):has (iT k) 128=true ↔ k=3:=by
 by_cases h1:k=1
 ·subst h1; exact ⟨fun h=>absurd h (by decide +kernel),fun h=>absurd h (by decide)⟩
 by_cases h5:k=5
 ·subst h5; exact ⟨fun h=>absurd h (by decide +kernel),fun h=>absurd h (by decide)⟩
 by_cases h2:k=2
 ·subst h2; exact ⟨fun h=>absurd h (by decide +kernel),fun h=>absurd h (by decide)⟩
 by_cases h3:k=3
 ·subst h3; exact ⟨fun _=>rfl,fun _=>by decide +kernel⟩
 by_cases h4:k=4
 ·subst h4; exact ⟨fun h=>absurd h (by decide +kernel),fun h=>absurd h (by decide)⟩
 have:has (iT k) 128=false:=by
  by_cases h6:k=6
  ·subst h6; decide +kernel
  ·have:iT k=0:=by simp [iT, *]
   rw [this]; decide +kernel
 simp [this,h3]
theorem r15 {q:Option Bool} {e:List TV} {b:DBlock} (he:RBlock q e b):∃ y,bc prog 42 [.agg e] y∧RInts (some true) y (gl b):=by
 obtain ⟨c,i,g,rfl,hc,hd,hi,hg,ho⟩:=he
 obtain ⟨o1,o2,o3,o4,o5,o6,o7⟩:=ho
 have tail:∀ (w:TV) (l:List Int) (u:Bool),RInts (some true) w l→l.length≤1→(u=true ↔ b.fin.kind=3)→∃ y,aa prog 42 (f42_0 (B u) (B b.landing) (I b.pad.dst) c (B b.pad.all) (B b.pad.cleanup) i (I b.fin.kind) (I b.fin.a) (I b.fin.dst) (I b.fin.f) g (I b.fin.to) (I b.fin.els) (I b.fin.pad) w) y∧RInts (some true) y (l ++ (if b.fin.kind=3 then [b.fin.els] else [])):=by
  intro w l u hw hl hu
  by_cases h:b.fin.kind=3
  ·have hut:u=true:=hu.2 h
   subst hut
   obtain ⟨w',hw',hr⟩:=hw.app (e:=[I b.fin.els]) (a:=b.fin.els) ⟨rfl,o6⟩ (by omega)
   refine ⟨w',?_,by simpa [h] using hr⟩
   unfold f42_0
   exact aa.ite rfl (fun _=>aa.rws rfl (aa.tv hw' (aa.chk (hr.own fun _ _ h=>h.own) aa.ret))) nofun
  ·have huf:u=false:=by cases u with
    | false=>rfl
    | true=>exact absurd (hu.1 rfl) h
   subst huf
   refine ⟨w,?_,by simpa [h] using hw⟩
   unfold f42_0
   exact aa.ite rfl nofun fun _=>aa.chk (hw.own fun _ _ h=>h.own) aa.ret
 by_cases h:b.fin.kind=2∨b.fin.kind=3∨b.fin.kind=4
 ·obtain ⟨y,hy,hr⟩:=tail (.sl true 1 [[I b.fin.to]]) [b.fin.to] (has (iT b.fin.kind) 128) (.sl (by simp) (.cons ⟨rfl,o5⟩ .nil) (by simp)) (by simp) (has128 _)
  refine ⟨y,?_,by simpa [gl,h] using hr⟩
  refine bc.of (f42_MR _) ?_
  unfold f42_M
  refine aa.chk rfl (aa.call (r24 _) (aa.chk rfl (aa.call (r25 _ _) (aa.chk rfl (aa.ite (v:=true) (by rw [(has64 _).2 h]; rfl) (fun _=>?_) nofun)))))
  exact aa.rws rfl (aa.tv rfl (aa.call (r25 _ _) (aa.chk rfl (f42_0_J hy))))
 ·obtain ⟨y,hy,hr⟩:=tail (.lit au) [] (has (iT b.fin.kind) 128) .nil (by simp) (has128 _)
  refine ⟨y,?_,by simpa [gl,h] using hr⟩
  refine bc.of (f42_MR _) ?_
  unfold f42_M
  have hf:has (iT b.fin.kind) 64=false:=by
   cases hh:has (iT b.fin.kind) 64 with
   | false=>rfl
   | true=>exact absurd ((has64 _).1 hh) h
  refine aa.chk rfl (aa.call (r24 _) (aa.chk rfl (aa.call (r25 _ _) (aa.chk rfl (aa.ite (v:=false) (by rw [hf]; rfl) nofun fun _=>?_)))))
  exact aa.call (r25 _ _) (aa.chk rfl (aa.chk rfl (f42_0_J hy)))
end Go.Ab.Q12
end
section
set_option maxRecDepth 10000
namespace Go.Ab
def ct (n:Nat) (g:Int):Bool:=decide (0≤g∧g < (n:Int))
def nx (b:DBlock):List Int:=gl b ++ (if b.fin.kind=4 then [b.fin.pad] else [])
def ap (bs:List DBlock) (i:Nat):List Int:=match bs[i]? with
 | some b=>(nx b).filter (ct bs.length)
 | none=>[]
def gU (bs:List DBlock) (n:Int):List Int:=if 0≤n then ap bs n.toNat else []
theorem aY {bs:List DBlock} {i:Nat} {g:Int} (h:g ∈ ap bs i):0≤g∧g.toNat < bs.length:=by
 unfold ap at h
 split at h
 ·have:=(List.mem_filter.1 h).2
  simp only [ct,decide_eq_true_eq] at this
  omega
 ·cases h
theorem jq (bs:List DBlock) (i:Nat):gU bs (i:Int)=ap bs i:=by simp [gU]
theorem nx_len (b:DBlock):(nx b).length≤3:=by
 unfold nx gl
 split <;> split <;> split <;> simp
theorem AG (bs:List DBlock) (n:Int):(gU bs n).length≤3:=by
 unfold gU
 split
 ·unfold ap
  split
  ·exact Nat.le_trans (List.length_filter_le _ _) (nx_len _)
  ·simp
 ·simp
theorem tq {bs:List DBlock} {n:Int} (h:ct bs.length n=false):gU bs n=[]:=by
 unfold gU
 split
 ·rename_i h0
  unfold ap
  rw [Eh (by simp [ct] at h; omega)]
 ·rfl
theorem vP {bs:List DBlock} {n:Int} (h:ct bs.length n=true):∃ b,bs[n.toNat]? = some b∧gU bs n=(nx b).filter (ct bs.length)∧n=(n.toNat:Int):=by
 simp only [ct,decide_eq_true_eq] at h
 have hl:n.toNat < bs.length:=by omega
 refine ⟨bs[n.toNat],D6 hl,?_,by omega⟩
 simp only [gU,h.1,if_true,ap,D6 hl]
theorem ea {P:Int→Bool} {l:List Int} {j:Nat} {a:Int} (h:l[j]? = some a):(l.take (j + 1)).filter P=(l.take j).filter P ++ (if P a then [a] else []):=by
 rw [List.take_add_one,h,List.filter_append]
 cases hp:P a <;> simp [hp]
section
variable {s:Nat} {α:Type} {R:List TV→α→Prop} {y:TV} {l:List α}
theorem RL.clr (hy:RL (some true) s R y l) {k:Nat} (hk:k≤l.length) (z:List TV):∃ y',pclear s z k (l.length - k) y=some y'∧Go.Ab.slLen y'=some l.length∧Go.Ab.slSize y' s=true∧∃ y'',fj 0 k y'=some y''∧RL (some true) s R y'' (l.take k):=by
 rcases hy with ⟨rfl,rfl⟩ | ⟨o,xs,rfl,hq,h,hb⟩
 ·have:k=0:=by simpa using hk
  subst this
  exact ⟨.lit au,rfl,rfl,rfl,.lit au,rfl,by simpa using RL.nil⟩
 ·have:o=true:=hq true rfl
  subst this
  have hxl:=h.length
  refine ⟨.sl true s (xs.take k ++ (List.replicate (l.length - k) z ++ xs.drop (k + (l.length - k)))),by simp only [pclear]; rw [if_pos ⟨trivial,by omega⟩],?_,by simp [Go.Ab.slSize],.sl true s (xs.take k),?_,.sl (by simp) (h.take k) (by simp; omega)⟩
  ·simp [Go.Ab.slLen]; omega
  ·simp only [fj]
   rw [if_pos (by simp; omega),List.drop_zero,List.take_append_of_le_length (by simp; omega),List.take_take,Nat.min_self]
end
end Go.Ab
namespace Go.Ab.Q12
open Go Go.Ab Go.Proofs
theorem r70 {q:Option Bool} {e:List TV} {f:DFunc} (he:RFunc q e f) (n:Int):bc prog 41 [.agg e,I n] (B (ct f.blocks.length n)):=by
 obtain ⟨b,rfl,hb,_⟩:=he
 refine bc.of (f41_MR _ _) ?_
 unfold f41_M
 refine aa.chk rfl (aa.tv rfl (aa.ite rfl (fun h=>aa.tv hb.len (aa.tv rfl ?_)) fun h=>?_))
 ·refine lG.2 ?_
  have h:0≤n:=by simpa using h
  simp [ct,h]
 ·refine lG.2 ?_
  have h:¬ 0≤n:=by simpa using h
  simp [ct,h]
theorem a9 {v:TV} (h:v.isSl=true):ae zSl [v] 0=true:=by
 show (v.isSl && true)=true
 rw [h]; rfl
theorem del2 {y3 y4 y5:TV} {P:Int→Bool} (hP:∀ g,bc prog 41 [.agg [y3,y4,y5],I g] (B (P g))) {l:List Int}:∀ (d i j:Nat) (w:TV) (cur:List Int),j + d=l.length→i≤j→RInts (some true) w cur→cur.length=l.length →
  cur.take i=(l.take j).filter P→(∀ m,j≤m→cur[m]? = l[m]?)→∃ y,aa prog 17 (f17_2 (I i) (I j) w y3 y4 y5) y∧RInts (some true) y (l.filter P):=by
 intro d
 induction d with
 | zero =>
  intro i j w cur hj hij hw hcl hti _
  have hj:j=l.length:=by omega
  subst hj
  have hbn:=hw.bnd
  have hil:i≤cur.length:=by omega
  obtain ⟨y',c1,c2,c3,y'',c4,c5⟩:=hw.clr hil [I 0]
  rw [hti,List.take_length] at c5
  refine ⟨y'',?_,c5⟩
  unfold f17_2
  refine aa.tv hw.len (aa.tv rfl (aa.ite (v:=false) (by rw [hcl]; exact bU) nofun fun _=>?_))
  refine f17_3_J ?_
  unfold f17_3
  have han:ah (I i)=some i:=ak (by omega)
  have hle:Nat.ble i cur.length=true:=by simpa using hil
  refine aa.nat hw.slLen (aa.nat han (aa.chk (by simp [hw.slSize,hle]) (aa.tv c1 (aa.nat c2 (aa.nat han (aa.chk (by simp [c3,hle]) (aa.tv c4 (aa.chk (c5.own fun _ _ h=>h.own) aa.ret))))))))
 | succ d ih =>
  intro i j w cur hj hij hw hcl hti hd
  have hjl:j < l.length:=by omega
  have hjc:j < cur.length:=by omega
  have hbn:=hw.bnd
  have ha:l[j]? = some l[j]:=D6 hjl
  obtain ⟨a,haa⟩:∃ a,a=l[j]:=⟨_,rfl⟩
  rw [← haa] at ha
  have hca:cur[j]? = some a:=by rw [hd j (Nat.le_refl _)]; exact ha
  obtain ⟨e,he,rfl,hea⟩:=hw.pel hca
  have anj:ah (I j)=some j:=ak (by omega)
  have ani:ah (I i)=some i:=ak (by omega)
  cases hp:P a with
  | true =>
   have hic:i < cur.length:=by omega
   obtain ⟨e',he',rfl,_⟩:=hw.pel (D6 hic)
   obtain ⟨w',hw',hr⟩:=hw.fG he' (d:=0) (ys:=[I a]) (a:=a) ⟨rfl,hea⟩
   obtain ⟨y,hy,hry⟩:=ih (i + 1) (j + 1) w' (cur.set i a) (by omega) (by omega) hr (by simpa using hcl) (by
    rw [ea ha,hp,if_pos rfl,← hti,List.take_add_one,List.getElem?_set_self hic]
    congr 1
    rw [List.take_set_of_le (Nat.le_refl _)]) (fun m hm=>by
    rw [List.getElem?_set_ne (by omega)]
    exact hd m (by omega))
   refine ⟨y,?_,hry⟩
   unfold f17_2
   refine aa.tv hw.len (aa.tv rfl (aa.ite (bS hjc) (fun _=>?_) nofun))
   refine aa.nat hw.slLen (aa.nat anj (aa.chk (by simp [hw.slSize,hjc]) (aa.tvs he (aa.chk rfl (aa.call (hP a) (aa.chk rfl (aa.tv rfl (aa.tv rfl (aa.ite (v:=true) (by rw [hp]; rfl) (fun _=>?_) nofun)))))))))
   exact aa.nat hw.slLen (aa.nat ani (aa.chk (by simp [hw.slSize,hic]) (aa.tvs he' (aa.chk rfl (aa.tv hw' (aa.tv (inc hic hbn) (aa.tv (inc hjc hbn) (f17_2_J hy))))))))
  | false =>
   obtain ⟨y,hy,hry⟩:=ih i (j + 1) w cur (by omega) (by omega) hw hcl (by rw [ea ha,hp,hti]; simp) (fun m hm=>hd m (by omega))
   refine ⟨y,?_,hry⟩
   unfold f17_2
   refine aa.tv hw.len (aa.tv rfl (aa.ite (bS hjc) (fun _=>?_) nofun))
   exact aa.nat hw.slLen (aa.nat anj (aa.chk (by simp [hw.slSize,hjc]) (aa.tvs he (aa.chk rfl (aa.call (hP a) (aa.chk rfl (aa.tv rfl (aa.tv rfl (aa.ite (v:=false) (by rw [hp]; rfl) nofun fun _=>aa.tv (inc hjc hbn) (f17_2_J hy))))))))))
theorem del1 {y3 y4 y5:TV} {P:Int→Bool} (hP:∀ g,bc prog 41 [.agg [y3,y4,y5],I g] (B (P g))) {l:List Int} {w:TV} (hw:RInts (some true) w l):∀ (d k:Nat),k + d=l.length→(l.take k).filter P=l.take k →
  ∃ y,aa prog 17 (f17_1 (I l.length) (I k) w y3 y4 y5) y∧RInts (some true) y (l.filter P):=by
 intro d
 have hbn:=hw.bnd
 induction d with
 | zero =>
  intro k hk hf
  have hk:k=l.length:=by omega
  subst hk
  rw [List.take_length] at hf
  refine ⟨w,?_,by rw [hf]; exact hw⟩
  unfold f17_1
  exact aa.tv rfl (aa.ite bU nofun fun _=>aa.tv rfl (aa.ite (v:=true) rfl (fun _=>aa.chk (hw.own fun _ _ h=>h.own) aa.ret) nofun))
 | succ d ih =>
  intro k hk hf
  have hkl:k < l.length:=by omega
  obtain ⟨a,haa⟩:∃ a,a=l[k]:=⟨_,rfl⟩
  have ha:l[k]? = some a:=by rw [haa]; exact D6 hkl
  obtain ⟨e,he,rfl,hea⟩:=hw.pel ha
  have ank:ah (I k)=some k:=ak (by omega)
  cases hp:P a with
  | true =>
   obtain ⟨y,hy,hry⟩:=ih (k + 1) (by omega) (by rw [ea ha,hp,hf,List.take_add_one,ha]; rfl)
   refine ⟨y,?_,hry⟩
   unfold f17_1
   refine aa.tv rfl (aa.ite (bS hkl) (fun _=>?_) nofun)
   exact aa.nat hw.slLen (aa.nat ank (aa.chk (by simp [hw.slSize,hkl]) (aa.tvs he (aa.chk rfl (aa.call (hP a) (aa.chk rfl (aa.tv rfl (aa.ite (v:=false) (by rw [hp]; rfl) nofun fun _=>aa.tv (inc hkl hbn) (f17_1_J hy)))))))))
  | false =>
   obtain ⟨y,hy,hry⟩:=del2 hP d k (k + 1) w l (by omega) (by omega) hw rfl (by rw [ea ha,hp,hf]; simp) (fun m _=>rfl)
   refine ⟨y,?_,hry⟩
   unfold f17_1
   refine aa.tv rfl (aa.ite (bS hkl) (fun _=>?_) nofun)
   refine aa.nat hw.slLen (aa.nat ank (aa.chk (by simp [hw.slSize,hkl]) (aa.tvs he (aa.chk rfl (aa.call (hP a) (aa.chk rfl (aa.tv rfl (aa.ite (v:=true) (by rw [hp]; rfl) (fun _=>?_) nofun))))))))
   have hne:((k:Int) == (-1:Int))=false:=by simp
   exact aa.tv rfl (aa.ite (v:=false) (by simp only [asBool,hne]) nofun fun _=>aa.tv (inc hkl hbn) (f17_2_J hy))
theorem r71 {q:Option Bool} {e:List TV} {f:DFunc} (he:RFunc q e f) (n:Int):∃ y,bc prog 17 [.agg e,I n] y∧RInts (some true) y (gU f.blocks n):=by
 have he0:=he
 obtain ⟨b,rfl,hb,_⟩:=he
 cases ht:ct f.blocks.length n with
 | false =>
  refine ⟨.lit au,?_,by rw [tq ht]; exact .nil⟩
  refine bc.of (f17_MR _ _) ?_
  unfold f17_M
  refine aa.chk rfl (aa.call (r70 he0 n) (aa.chk rfl (aa.tv rfl (aa.ite (v:=true) (by rw [ht]; rfl) (fun _=>aa.chk rfl aa.ret) nofun))))
 | true =>
  obtain ⟨bk,hbk,hnl,hn⟩:=vP ht
  have key:∀ (w:TV),RInts (some true) w (nx bk)→∃ y,aa prog 17 (f17_0 (I f.params) (I f.regs) b w) y∧RInts (some true) y (gU f.blocks n):=fun w hw=>by
   obtain ⟨y,hy,hr⟩:=del1 (fun g=>r70 he0 g) hw (nx bk).length 0 (by omega) (by simp)
   refine ⟨y,?_,by rw [hnl]; exact hr⟩
   unfold f17_0
   exact aa.tv hw.len (f17_1_J hy)
  obtain ⟨e2,he2,hR⟩:=hb.idx (k:=.i64) hbk
  obtain ⟨v,hv,hvr⟩:=r15 hR
  have hR0:=hR
  obtain ⟨c,i,g,rfl,hc,hd,hi,hg,ho⟩:=hR
  rw [← hn] at he2
  by_cases h4:bk.fin.kind=4
  ·obtain ⟨w,hw,hwr⟩:=hvr.app (e:=[I bk.fin.pad]) (a:=bk.fin.pad) ⟨rfl,ho.2.2.2.2.2.2⟩ (by have:(gl bk).length≤2:=by { unfold gl; split <;> split <;> simp }; omega)
   obtain ⟨y,hy,hr⟩:=key w (by unfold nx; rw [if_pos h4]; exact hwr)
   refine ⟨y,?_,hr⟩
   refine bc.of (f17_MR _ _) ?_
   unfold f17_M
   refine aa.chk rfl (aa.call (r70 he0 n) (aa.chk rfl (aa.tv rfl (aa.ite (v:=false) (by rw [ht]; rfl) nofun fun _=>?_))))
   exact aa.tvs he2 (aa.chk rfl (aa.call hv (aa.chk (a9 hvr.isSl) (aa.tv rfl (aa.ite (v:=true) (by simp [asBool,h4]) (fun _=>aa.rws rfl (aa.tv hw (f17_0_J hy))) nofun)))))
  ·obtain ⟨y,hy,hr⟩:=key v (by unfold nx; rw [if_neg h4,List.append_nil]; exact hvr)
   refine ⟨y,?_,hr⟩
   refine bc.of (f17_MR _ _) ?_
   unfold f17_M
   refine aa.chk rfl (aa.call (r70 he0 n) (aa.chk rfl (aa.tv rfl (aa.ite (v:=false) (by rw [ht]; rfl) nofun fun _=>?_))))
   exact aa.tvs he2 (aa.chk rfl (aa.call hv (aa.chk (a9 hvr.isSl) (aa.tv rfl (aa.ite (v:=false) (by simp [asBool,h4]) nofun fun _=>f17_0_J hy)))))
end Go.Ab.Q12
end
section
set_option maxRecDepth 10000
namespace Go.Ab
theorem jB {α:Type} {l:List α} {j:Nat} {a:α} (h:l[j]? = some a):l.take (j + 1)=l.take j ++ [a]:=by
 rw [List.take_add_one,h]; rfl
end Go.Ab
namespace Go.Ab.Q12
open Go Go.Ab Go.Proofs
section
variable {q:Option Bool} {b:TV} {bs:List DBlock} (hb:RL q 14 (RBlock q) b bs)
include hb
theorem nxLoop {y1 y2 w4:TV} {l:List Int} (hw:RInts (some true) w4 l) (hl:l.length≤1000):∀ (d j:Nat) (acc:TV) (m:List Int),j + d=l.length→RInts (some true) acc m→m=(l.take j).filter (ct bs.length) →
  ∃ y,aa prog 18 (f18_4 (I j) y1 y2 b w4 acc) y∧RInts (some true) y (l.filter (ct bs.length)):=by
 intro d
 have hbn:=hw.bnd
 induction d with
 | zero =>
  intro j acc m hj ha hm
  have hj:j=l.length:=by omega
  subst hj
  rw [List.take_length] at hm
  subst hm
  refine ⟨acc,?_,ha⟩
  unfold f18_4
  exact aa.tv hw.len (aa.tv rfl (aa.ite bU nofun fun _=>aa.ret))
 | succ d ih =>
  intro j acc m hj ha hm
  have hjl:j < l.length:=by omega
  obtain ⟨a,haa⟩:∃ a,a=l[j]:=⟨_,rfl⟩
  have hla:l[j]? = some a:=by rw [haa]; exact D6 hjl
  obtain ⟨e,he,rfl,hea⟩:=hw.pel hla
  have anj:ah (I j)=some j:=ak (by omega)
  have hml:m.length≤j:=by rw [hm]; exact Nat.le_trans (List.length_filter_le _ _) (by simp; omega)
  cases hp:ct bs.length a with
  | true =>
   have hp':0≤a∧a < (bs.length:Int):=by simpa [ct] using hp
   obtain ⟨acc',h1,h2⟩:=ha.app (e:=[I a]) (a:=a) ⟨rfl,hea⟩ (by omega)
   obtain ⟨y,hy,hr⟩:=ih (j + 1) acc' (m ++ [a]) (by omega) h2 (by rw [ea hla,hp,if_pos rfl,hm])
   refine ⟨y,?_,hr⟩
   unfold f18_4
   refine aa.tv hw.len (aa.tv rfl (aa.ite (bS hjl) (fun _=>?_) nofun))
   refine aa.nat hw.slLen (aa.nat anj (aa.chk (by simp [hw.slSize,hjl]) (aa.tvs he (aa.chk rfl (aa.tv rfl (aa.ite (v:=true) (by simp [asBool,hp'.1]) (fun _=>?_) nofun))))))
   refine aa.nat hw.slLen (aa.nat anj (aa.chk (by simp [hw.slSize,hjl]) (aa.tvs he (aa.chk rfl (aa.tv hb.len (aa.tv rfl (aa.ite (v:=true) (by simp [asBool,hp'.2]) (fun _=>?_) nofun)))))))
   exact aa.nat hw.slLen (aa.nat anj (aa.chk (by simp [hw.slSize,hjl]) (aa.tvs he (aa.chk rfl (aa.rws rfl (aa.tv h1 (aa.tv (inc hjl hbn) (f18_4_J hy))))))))
  | false =>
   obtain ⟨y,hy,hr⟩:=ih (j + 1) acc m (by omega) ha (by rw [ea hla,hp,hm]; simp)
   refine ⟨y,?_,hr⟩
   unfold f18_4
   refine aa.tv hw.len (aa.tv rfl (aa.ite (bS hjl) (fun _=>?_) nofun))
   refine aa.nat hw.slLen (aa.nat anj (aa.chk (by simp [hw.slSize,hjl]) (aa.tvs he (aa.chk rfl (aa.tv rfl (aa.ite rfl (fun h=>?_) fun h=>?_))))))
   ·have h0:0≤a:=by simpa using h
    have h1:¬ a < (bs.length:Int):=by
     intro h; simp [ct,h0,h] at hp
    exact aa.nat hw.slLen (aa.nat anj (aa.chk (by simp [hw.slSize,hjl]) (aa.tvs he (aa.chk rfl (aa.tv hb.len (aa.tv rfl (aa.ite (v:=false) (by simp [asBool,h1]) nofun fun _=>aa.tv (inc hjl hbn) (f18_4_J hy))))))))
   ·exact aa.tv (inc hjl hbn) (f18_4_J hy)
theorem DL {y1 y2 g:TV} {x:DEnd} (ho:x.ok):∀ (w:TV) (l:List Int) (u:Bool),RInts (some true) w l→l.length≤2→u=(x.kind == 4) →
  ∃ y,aa prog 18 (f18_2 (B u) y1 y2 b (I x.kind) (I x.a) (I x.dst) (I x.f) g (I x.to) (I x.els) (I x.pad) w) y∧RInts (some true) y ((l ++ (if x.kind=4 then [x.pad] else [])).filter (ct bs.length)):=by
 intro w l u hw hl hu
 have key:∀ (w:TV) (m:List Int),RInts (some true) w m→m.length≤3→∃ y,aa prog 18 (f18_3 (I 0) y1 y2 b w (.lit au)) y∧RInts (some true) y (m.filter (ct bs.length)):=fun w m hw hm=>by
  obtain ⟨y,hy,hr⟩:=nxLoop hb (y1:=y1) (y2:=y2) hw (by omega) m.length 0 (.lit au) [] (by omega) .nil (by simp)
  exact ⟨y,by unfold f18_3; exact f18_4_J hy,hr⟩
 subst hu
 by_cases h4:x.kind=4
 ·obtain ⟨w',h1,h2⟩:=hw.app (e:=[I x.pad]) (a:=x.pad) ⟨rfl,ho.2.2.2.2.2.2⟩ (by omega)
  obtain ⟨y,hy,hr⟩:=key w' _ h2 (by simp; omega)
  refine ⟨y,?_,by rw [if_pos h4]; exact hr⟩
  unfold f18_2
  exact aa.ite (v:=true) (by simp [asBool,h4]) (fun _=>aa.rws rfl (aa.tv h1 (aa.chk rfl (f18_3_J hy)))) nofun
 ·obtain ⟨y,hy,hr⟩:=key w _ hw (by omega)
  refine ⟨y,?_,by rw [if_neg h4,List.append_nil]; exact hr⟩
  unfold f18_2
  exact aa.ite (v:=false) (by simp [asBool,h4]) nofun fun _=>aa.chk rfl (f18_3_J hy)
theorem DM {y1 y2 g:TV} {x:DEnd} (ho:x.ok):∀ (w:TV) (l:List Int) (u:Bool),RInts (some true) w l→l.length≤1→u=(x.kind == 3) →
  ∃ y,aa prog 18 (f18_1 (B u) y1 y2 b (I x.kind) (I x.a) (I x.dst) (I x.f) g (I x.to) (I x.els) (I x.pad) w) y∧RInts (some true) y ((l ++ (if x.kind=3 then [x.els] else []) ++ (if x.kind=4 then [x.pad] else [])).filter (ct bs.length)):=by
 intro w l u hw hl hu
 subst hu
 by_cases h3:x.kind=3
 ·obtain ⟨w',h1,h2⟩:=hw.app (e:=[I x.els]) (a:=x.els) ⟨rfl,ho.2.2.2.2.2.1⟩ (by omega)
  obtain ⟨y,hy,hr⟩:=DL hb (y1:=y1) (y2:=y2) (g:=g) ho w' _ _ h2 (by simp; omega) rfl
  refine ⟨y,?_,by rw [if_pos h3]; exact hr⟩
  unfold f18_1
  exact aa.ite (v:=true) (by simp [asBool,h3]) (fun _=>aa.rws rfl (aa.tv h1 (aa.tv rfl (f18_2_J hy)))) nofun
 ·obtain ⟨y,hy,hr⟩:=DL hb (y1:=y1) (y2:=y2) (g:=g) ho w _ _ hw (by omega) rfl
  refine ⟨y,?_,by rw [if_neg h3,List.append_nil]; exact hr⟩
  unfold f18_1
  exact aa.ite (v:=false) (by simp [asBool,h3]) nofun fun _=>aa.tv rfl (f18_2_J hy)
theorem nxTop {y1 y2 g:TV} {x:DEnd} (ho:x.ok) (u:Bool) (hu:u=true ↔ x.kind=2∨x.kind=3∨x.kind=4) :
  ∃ y,aa prog 18 (f18_0 (B u) y1 y2 b (I x.kind) (I x.a) (I x.dst) (I x.f) g (I x.to) (I x.els) (I x.pad) (.lit au)) y ∧
   RInts (some true) y (((if x.kind=2∨x.kind=3∨x.kind=4 then [x.to] else []) ++ (if x.kind=3 then [x.els] else []) ++ (if x.kind=4 then [x.pad] else [])).filter (ct bs.length)):=by
 cases u with
 | true =>
  have h:=hu.1 rfl
  obtain ⟨w',h1,h2⟩:=(RL.nil:RInts (some true) (.lit au) []).app (e:=[I x.to]) (a:=x.to) ⟨rfl,ho.2.2.2.2.1⟩ (by simp)
  obtain ⟨y,hy,hr⟩:=DM hb (y1:=y1) (y2:=y2) (g:=g) ho w' _ _ h2 (by simp) rfl
  refine ⟨y,?_,by rw [if_pos h]; exact hr⟩
  unfold f18_0
  exact aa.ite rfl (fun _=>aa.rws rfl (aa.tv h1 (aa.tv rfl (f18_1_J hy)))) nofun
 | false =>
  have h:¬ (x.kind=2∨x.kind=3∨x.kind=4):=fun h=>by have:=hu.2 h; cases this
  obtain ⟨y,hy,hr⟩:=DM hb (y1:=y1) (y2:=y2) (g:=g) ho (.lit au) [] _ .nil (by simp) rfl
  refine ⟨y,?_,by rw [if_neg h]; exact hr⟩
  unfold f18_0
  exact aa.ite rfl nofun fun _=>aa.tv rfl (f18_1_J hy)
end
theorem r72 {q:Option Bool} {e:List TV} {f:DFunc} (he:RFunc q e f) (n:Int):∃ y,bc prog 18 [.agg e,I n] y∧RInts (some true) y (gU f.blocks n):=by
 obtain ⟨b,rfl,hb,_⟩:=he
 by_cases h0:n < 0
 ·refine ⟨.lit au,?_,by rw [gU,if_neg (by omega)]; exact .nil⟩
  refine bc.of (f18_MR _ _) ?_
  unfold f18_M
  exact aa.chk rfl (aa.tv rfl (aa.ite (v:=true) (by simp [asBool,h0]) (fun _=>aa.ret) nofun))
 by_cases h1:n ≥ (f.blocks.length:Int)
 ·refine ⟨.lit au,?_,by rw [tq (by simp [ct]; omega)]; exact .nil⟩
  refine bc.of (f18_MR _ _) ?_
  unfold f18_M
  exact aa.chk rfl (aa.tv rfl (aa.ite (v:=false) (by simp [asBool]; omega) nofun fun _=>aa.tv hb.len (aa.tv rfl (aa.ite (v:=true) (by simp [asBool]; omega) (fun _=>aa.ret) nofun))))
 obtain ⟨bk,hbk,hnl,hn⟩:=vP (bs:=f.blocks) (n:=n) (by simp [ct]; omega)
 obtain ⟨e2,he2,hR⟩:=hb.idx (k:=.i64) hbk
 obtain ⟨c,i,g,rfl,hc,hd,hi,hg,ho⟩:=hR
 rw [← hn] at he2
 have key:∀ u:Bool,(u=true ↔ bk.fin.kind=2∨bk.fin.kind=3∨bk.fin.kind=4)→∃ y,aa prog 18 (f18_0 (B u) (I f.params) (I f.regs) b (I bk.fin.kind) (I bk.fin.a) (I bk.fin.dst) (I bk.fin.f) g (I bk.fin.to) (I bk.fin.els) (I bk.fin.pad) (.lit au)) y∧RInts (some true) y (gU f.blocks n):=fun u hu=>by
  obtain ⟨y,hy,hr⟩:=nxTop hb (y1:=I f.params) (y2:=I f.regs) (g:=g) ho u hu
  exact ⟨y,hy,by rw [hnl]; exact hr⟩
 have start:∀ {r:TV},(∀ (h2:bk.fin.kind=2),aa prog 18 (f18_0 (B true) (I f.params) (I f.regs) b (I bk.fin.kind) (I bk.fin.a) (I bk.fin.dst) (I bk.fin.f) g (I bk.fin.to) (I bk.fin.els) (I bk.fin.pad) (.lit au)) r) →
   (∀ (h3:bk.fin.kind=3),aa prog 18 (f18_0 (B true) (I f.params) (I f.regs) b (I bk.fin.kind) (I bk.fin.a) (I bk.fin.dst) (I bk.fin.f) g (I bk.fin.to) (I bk.fin.els) (I bk.fin.pad) (.lit au)) r) →
   (∀ (h2:¬ bk.fin.kind=2) (h3:¬ bk.fin.kind=3),aa prog 18 (f18_0 (B (bk.fin.kind == 4)) (I f.params) (I f.regs) b (I bk.fin.kind) (I bk.fin.a) (I bk.fin.dst) (I bk.fin.f) g (I bk.fin.to) (I bk.fin.els) (I bk.fin.pad) (.lit au)) r) →
   bc prog 18 [.agg [I f.params,I f.regs,b],I n] r:=fun {r} k2 k3 k4=>by
  refine bc.of (f18_MR _ _) ?_
  unfold f18_M
  refine aa.chk rfl (aa.tv rfl (aa.ite (v:=false) (by simp [asBool]; omega) nofun fun _=>aa.tv hb.len (aa.tv rfl (aa.ite (v:=false) (by simp [asBool]; omega) nofun fun _=>?_))))
  refine aa.tvs he2 (aa.chk rfl (aa.tv rfl (aa.ite rfl (fun h=>?_) fun h=>?_)))
  ·exact aa.chk rfl (f18_0_J (k2 (by simpa using h)))
  ·have h2:¬ bk.fin.kind=2:=by simpa using h
   refine aa.tv rfl (aa.ite rfl (fun h=>?_) fun h=>?_)
   ·exact aa.chk rfl (f18_0_J (k3 (by simpa using h)))
   ·exact aa.tv rfl (aa.chk rfl (f18_0_J (k4 h2 (by simpa using h))))
 by_cases h23:bk.fin.kind=2∨bk.fin.kind=3
 ·obtain ⟨y,hy,hr⟩:=key true ⟨fun _=>(by rcases h23 with h | h <;> simp [h]),fun _=>rfl⟩
  exact ⟨y,start (fun _=>hy) (fun _=>hy) (fun h2 h3=>absurd h23 (by simp [h2,h3])),hr⟩
 ·have h2:¬ bk.fin.kind=2:=fun h=>h23 (.inl h)
  have h3:¬ bk.fin.kind=3:=fun h=>h23 (.inr h)
  obtain ⟨y,hy,hr⟩:=key (bk.fin.kind == 4) (by simp [h2,h3])
  exact ⟨y,start (fun h=>absurd h h2) (fun h=>absurd h h3) (fun _ _=>hy),hr⟩
end Go.Ab.Q12
end

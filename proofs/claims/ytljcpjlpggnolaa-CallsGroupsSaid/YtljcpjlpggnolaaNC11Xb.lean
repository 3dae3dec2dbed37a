import Derived.Test.YtljcpjlpggnolaaNC11T
set_option linter.all false
set_option maxRecDepth 100000
namespace Go.Ab.C11
open Go Go.Ab Go.Proofs
open Go.Ab.TV (hole cell comp isSl isSc isTup cellsL tup agg)
open Go.Ab.Prg (tv tvs rws nat chk call jmp ret)
def f11_M (x0 x1 x2:TV):Prg TV :=
 chk (TV.isAgg x0 1) (
 call 18 [agg [cell x0 0],x2] fun v0 =>
 chk (ae fO [v0] 0) (
 Prg.ite (asBool v0) (
 call 25 [agg [cell x0 0],x1] fun v1 =>
 chk (ae zSl [v1] 0) (
 nat (slLen v1) fun n2 =>
 nat (ab x2) fun n3 =>
 chk (Bool.and (slSize v1 1) (Nat.blt n3 n2)) (
 tvs (pel v1 n3) fun e4 =>
 chk (ae fO e4 0) (
 ret (nth hole e4 0))))) (
 ret (B false))))
theorem f11_MR (x0 x1 x2:TV):dC prog 11 [x0,x1,x2]=f11_M x0 x1 x2:=by kernel_rfl
def f15_M (x0:TV):Prg TV :=
 chk (TV.isAgg x0 1) (
 call 26 [agg [cell x0 0]] fun v0 =>
 chk (Bool.and (TV.isAgg v0 2) (ae z60 (cellsL true v0) 0)) (
 call 28 [agg [frz (cell v0 0),frz (cell v0 1)]] fun v1 =>
 chk (ae zSl [v1] 0) (
 call 27 [agg [frz (cell v0 0),frz (cell v0 1)],frz v1] fun v2 =>
 chk (ae zSl [v2] 0) (
 ret v2))))
theorem f15_MR (x0:TV):dC prog 15 [x0]=f15_M x0:=by kernel_rfl
def f18_M (x0 x1:TV):Prg TV :=
 chk (TV.isAgg x0 1) (
 tv (pbin (.int .i64) .leq (I 0) x1) fun v0 =>
 Prg.ite (asBool v0) (
 tv (plen (.slice 38) (cell x0 0)) fun v1 =>
 tv (pbin (.int .i64) .lss x1 v1) fun v2 =>
 ret v2) (
 ret (B false)))
theorem f18_MR (x0 x1:TV):dC prog 18 [x0,x1]=f18_M x0 x1:=by kernel_rfl
def f20_0_S  (x0 x1 x2 w3:TV):ASt:=⟨[AV.one CA.junk,AV.one CA.junk,AV.one CA.junk,AV.one (CA.sref 0 0 [])] ++ List.replicate 5 (AV.one CA.junk) ++ [AV.tv x0,AV.tv x1,AV.tv x2] ++ List.replicate 31 (AV.one CA.junk),[some (BC.tree [w3])] ++ List.replicate 66 (none),[]⟩
def f20_1_S  (x0 x1 x2 x3 x4 x5 w6 y7 y8 y9 y10 y11 y12 y13 y14 y15 y16 y17 y18 y19 y20:TV):ASt:=⟨[AV.one CA.junk,AV.one CA.junk,AV.one CA.junk,AV.one (CA.sref 0 0 []),AV.one CA.junk,AV.one (CA.ptr 1 0),AV.one CA.junk,AV.one CA.junk,AV.one CA.junk,AV.tv x0,AV.tv x1,AV.tv x2] ++ List.replicate 4 (AV.one CA.junk) ++ [AV.tv x3,AV.tv x4,AV.tv x5] ++ List.replicate 24 (AV.one CA.junk),[some (BC.tree [w6]),some (BC.cells [CA.t y7,CA.t y8,CA.t y9,CA.t y10,CA.t y11,CA.t y12,CA.t y13,CA.t y14,CA.t y15,CA.t y16,CA.t y17,CA.t y18,CA.t y19,CA.t y20])] ++ List.replicate 65 (none),[]⟩
def f20_2_S  (x0 x1 x2 w3 y4 y5 y6 y7 y8 y9 y10 y11 y12 y13 y14 y15 y16 y17:TV):ASt:=⟨[AV.one CA.junk,AV.one CA.junk,AV.one CA.junk,AV.one (CA.sref 0 0 []),AV.one CA.junk,AV.one (CA.ptr 1 0),AV.one CA.junk,AV.one CA.junk,AV.one CA.junk,AV.tv x0,AV.tv x1,AV.tv x2] ++ List.replicate 31 (AV.one CA.junk),[some (BC.tree [w3]),some (BC.cells [CA.t y4,CA.t y5,CA.t y6,CA.t y7,CA.t y8,CA.t y9,CA.t y10,CA.t y11,CA.t y12,CA.t y13,CA.t y14,CA.t y15,CA.t y16,CA.t y17])] ++ List.replicate 65 (none),[]⟩
def f20_M (x0:TV):Prg TV :=
 chk (TV.isAgg x0 3) (
 tv (plen (.slice 49) (cell x0 2)) fun v0 =>
 chk true (
 jmp [0,0,1,0,1,1] (f20_0_S (cell x0 2) v0 (I 0) (TV.lit aV))))
def f20_0  (x0 x1 x2 w3:TV):Prg TV :=
 tv (pbin (.int .i64) .lss x2 x1) fun v1 =>
 Prg.ite (asBool v1) (
 tvs (pidx 14 x0 x2) fun e2 =>
 chk (Nat.ble 14 (List.length e2)) (
 tv (plen (.slice 41) (nth hole e2 5)) fun v3 =>
 jmp [0,0,1,0,1,0,0,1,1,0,0,1,0,1,1] (f20_1_S x0 x1 x2 (nth hole e2 5) v3 (I 0) w3 (nth hole e2 0) (nth hole e2 1) (nth hole e2 2) (nth hole e2 3) (nth hole e2 4) (nth hole e2 5) (nth hole e2 6) (nth hole e2 7) (nth hole e2 8) (nth hole e2 9) (nth hole e2 10) (nth hole e2 11) (nth hole e2 12) (nth hole e2 13)))) (
 chk (cw w3) (
 ret w3))
def f20_1  (x0 x1 x2 x3 x4 x5 w6 y7 y8 y9 y10 y11 y12 y13 y14 y15 y16 y17 y18 y19 y20:TV):Prg TV :=
 tv (pbin (.int .i64) .lss x5 x4) fun v4 =>
 Prg.ite (asBool v4) (
 tvs (pidx 7 x3 x5) fun e5 =>
 chk (Nat.ble 7 (List.length e5)) (
 tv (pbin (.int .i64) .eql (nth hole e5 0) (I 11)) fun v6 =>
 Prg.ite (asBool v6) (
 rws (pelems 1 (TV.sl true 1 (chunks 1 1 [nth hole e5 5]))) fun r7 =>
 tv (papp 1 w6 (lN r7)) fun v8 =>
 tv (pbin (.int .i64) .add x5 (I 1)) fun v9 =>
 jmp [0,0,1,0,1,0,0,1,1,0,0,1,0,1,1] (f20_1_S x0 x1 x2 x3 x4 v9 v8 y7 y8 y9 y10 y11 y12 y13 y14 y15 y16 y17 y18 y19 y20)) (
 tv (pbin (.int .i64) .add x5 (I 1)) fun v10 =>
 jmp [0,0,1,0,1,0,0,1,1,0,0,1,0,1,1] (f20_1_S x0 x1 x2 x3 x4 v10 w6 y7 y8 y9 y10 y11 y12 y13 y14 y15 y16 y17 y18 y19 y20)))) (
 jmp [1,1,0,0,1,1,0,0,1,0,1,1] (f20_2_S x0 x1 x2 w6 y7 y8 y9 y10 y11 y12 y13 y14 y15 y16 y17 y18 y19 y20))
def f20_2  (x0 x1 x2 w3 y4 y5 y6 y7 y8 y9 y10 y11 y12 y13 y14 y15 y16 y17:TV):Prg TV :=
 tv (pbin (.int .i64) .eql y10 (I 4)) fun v11 =>
 Prg.ite (asBool v11) (
 rws (pelems 1 (TV.sl true 1 (chunks 1 1 [y13]))) fun r12 =>
 tv (papp 1 w3 (lN r12)) fun v13 =>
 tv (pbin (.int .i64) .add x2 (I 1)) fun v14 =>
 jmp [0,0,1,0,1,1] (f20_0_S x0 x1 v14 v13)) (
 tv (pbin (.int .i64) .add x2 (I 1)) fun v15 =>
 jmp [0,0,1,0,1,1] (f20_0_S x0 x1 v15 w3))
theorem f20_MR (x0:TV):dC prog 20 [x0]=f20_M x0:=by kernel_rfl
theorem f20_0_J  {x0 x1 x2 w3:TV} {r:TV} (h:aa prog 20 (f20_0 x0 x1 x2 w3) r):aa prog 20 (.jmp [0,0,1,0,1,1] (f20_0_S x0 x1 x2 w3)) r:=aa.jmp (by kernel_rfl) h
theorem f20_1_J  {x0 x1 x2 x3 x4 x5 w6 y7 y8 y9 y10 y11 y12 y13 y14 y15 y16 y17 y18 y19 y20:TV} {r:TV} (h:aa prog 20 (f20_1 x0 x1 x2 x3 x4 x5 w6 y7 y8 y9 y10 y11 y12 y13 y14 y15 y16 y17 y18 y19 y20) r):aa prog 20 (.jmp [0,0,1,0,1,0,0,1,1,0,0,1,0,1,1] (f20_1_S x0 x1 x2 x3 x4 x5 w6 y7 y8 y9 y10 y11 y12 y13 y14 y15 y16 y17 y18 y19 y20)) r:=aa.jmp (by kernel_rfl) h
theorem f20_2_J  {x0 x1 x2 w3 y4 y5 y6 y7 y8 y9 y10 y11 y12 y13 y14 y15 y16 y17:TV} {r:TV} (h:aa prog 20 (f20_2 x0 x1 x2 w3 y4 y5 y6 y7 y8 y9 y10 y11 y12 y13 y14 y15 y16 y17) r):aa prog 20 (.jmp [1,1,0,0,1,1,0,0,1,0,1,1] (f20_2_S x0 x1 x2 w3 y4 y5 y6 y7 y8 y9 y10 y11 y12 y13 y14 y15 y16 y17)) r:=aa.jmp (by kernel_rfl) h
def f25_0_S  (y0 w1 w2:TV):ASt:=⟨[AV.one CA.junk,AV.one CA.junk,AV.one (CA.ptr 0 0),AV.one CA.junk,AV.one CA.junk,AV.one (CA.sref 1 0 []),AV.one (CA.sref 2 0 [])] ++ List.replicate 36 (AV.one CA.junk),[some (BC.cells [CA.t y0]),some (BC.tree [w1]),some (BC.tree [w2])] ++ List.replicate 64 (none),[]⟩
def f25_M (x0 x1:TV):Prg TV :=
 chk (TV.isAgg x0 1) (
 tv (plen (.slice 38) (cell x0 0)) fun v0 =>
 nat (ab v0) fun n1 =>
 nat (ab v0) fun n2 =>
 chk (Bool.and (Nat.ble n1 n2) (Nat.ble n2 4294967296)) (
 call 9 [agg [cell x0 0],x1] fun v3 =>
 chk (ae zSl [v3] 0) (
 jmp [0,0,0,1,1,1] (f25_0_S (cell x0 0) (TV.sl true 1 (List.replicate n1 [B false])) v3))))
def f25_0  (y0 w1 w2:TV):Prg TV :=
 tv (plen (.slice 3) w2) fun v4 =>
 tv (pbin (.int .i64) .gtr v4 (I 0)) fun v5 =>
 Prg.ite (asBool v5) (
 tv (plen (.slice 3) w2) fun v6 =>
 tv (pbin (.int .i64) .sub v6 (I 1)) fun v7 =>
 nat (slLen w2) fun n8 =>
 nat (ab v7) fun n9 =>
 chk (Bool.and (slSize w2 1) (Nat.blt n9 n8)) (
 tvs (pel w2 n9) fun e10 =>
 chk (ae bq e10 0) (
 nat (slLen w2) fun n11 =>
 nat (ab v7) fun n12 =>
 chk (Bool.and (Bool.and (slSize w2 1) (Nat.ble 0 (Option.getD (some n12) n11))) (Nat.ble (Option.getD (some n12) n11) n11)) (
 nat (slLen w1) fun n13 =>
 nat (ab (nth hole e10 0)) fun n14 =>
 chk (Bool.and (slSize w1 1) (Nat.blt n14 n13)) (
 tvs (pel w1 n14) fun e15 =>
 chk (ae fO e15 0) (
 tv (pun .not (nth hole e15 0)) fun v16 =>
 Prg.ite (asBool v16) (
 nat (slLen w1) fun n17 =>
 nat (ab (nth hole e10 0)) fun n18 =>
 chk (Bool.and (slSize w1 1) (Nat.blt n18 n17)) (
 tvs (pel w1 n18) fun e19 =>
 chk (ae fO e19 0) (
 tv (dI [] w1 n18 0 [B true]) fun v20 =>
 call 9 [agg [y0],nth hole e10 0] fun v21 =>
 chk (ae zSl [v21] 0) (
 rws (pelems 1 v21) fun r22 =>
 tv (cV 0 ((Option.getD (some n12) n11) - 0) w2) fun v23 =>
 tv (papp 1 v23 (lN r22)) fun v24 =>
 jmp [0,0,0,1,1,1] (f25_0_S y0 v20 v24))))) (
 tv (cV 0 ((Option.getD (some n12) n11) - 0) w2) fun v25 =>
 jmp [0,0,0,1,1,1] (f25_0_S y0 w1 v25)))))))) (
 chk (cw w1) (
 ret w1))
theorem f25_MR (x0 x1:TV):dC prog 25 [x0,x1]=f25_M x0 x1:=by kernel_rfl
theorem f25_0_J  {y0 w1 w2:TV} {r:TV} (h:aa prog 25 (f25_0 y0 w1 w2) r):aa prog 25 (.jmp [0,0,0,1,1,1] (f25_0_S y0 w1 w2)) r:=aa.jmp (by kernel_rfl) h
def f26_0_S  (x0 x1 y2 w3 w4:TV):ASt:=⟨[AV.one CA.junk,AV.one (CA.ptr 0 0),AV.one (CA.ptr 1 0),AV.one (CA.ptr 2 0)] ++ List.replicate 14 (AV.one CA.junk) ++ [AV.tv x0,AV.tv x1] ++ List.replicate 34 (AV.one CA.junk),[some (BC.cells [CA.t y2]),some (BC.cells [CA.junk,CA.junk]),some (BC.cells [CA.sref 3 0 [],CA.sref 4 0 []]),some (BC.tree [w3]),some (BC.tree [w4])] ++ List.replicate 73 (none),[]⟩
def f26_1_S  (x0 x1 x2:TV) (k3:Nat) (x4 x5 y6 w7 w8:TV):ASt:=⟨[AV.one CA.junk,AV.one (CA.ptr 0 0),AV.one (CA.ptr 1 0),AV.one (CA.ptr 2 0),AV.tv x0] ++ List.replicate 13 (AV.one CA.junk) ++ [AV.tv x1,AV.tv x2] ++ List.replicate 13 (AV.one CA.junk) ++ [AV.one (CA.sref 3 0 [(k3,0)]),AV.tv x4,AV.tv x5] ++ List.replicate 18 (AV.one CA.junk),[some (BC.cells [CA.t y6]),some (BC.cells [CA.junk,CA.junk]),some (BC.cells [CA.sref 3 0 [],CA.sref 4 0 []]),some (BC.tree [w7]),some (BC.tree [w8])] ++ List.replicate 73 (none),[]⟩
def f26_M (x0:TV):Prg TV :=
 chk (TV.isAgg x0 1) (
 tv (plen (.slice 38) (cell x0 0)) fun v0 =>
 nat (ab v0) fun n1 =>
 nat (ab v0) fun n2 =>
 chk (Bool.and (Nat.ble n1 n2) (Nat.ble n2 4294967296)) (
 tv (plen (.slice 38) (cell x0 0)) fun v3 =>
 nat (ab v3) fun n4 =>
 nat (ab v3) fun n5 =>
 chk (Bool.and (Nat.ble n4 n5) (Nat.ble n5 4294967296)) (
 tv (plen (.slice 38) (cell x0 0)) fun v6 =>
 jmp [0,0,1,0,1,1] (f26_0_S v6 (I 0) (cell x0 0) (TV.sl true 1 (List.replicate n1 [TV.lit aV])) (TV.sl true 1 (List.replicate n4 [TV.lit aV]))))))
def f26_0  (x0 x1 y2 w3 w4:TV):Prg TV :=
 tv (pbin (.int .i64) .lss x1 x0) fun v7 =>
 Prg.ite (asBool v7) (
 call 9 [agg [y2],x1] fun v8 =>
 chk (ae zSl [v8] 0) (
 nat (slLen w3) fun n9 =>
 nat (ab x1) fun n10 =>
 chk (Bool.and (slSize w3 1) (Nat.blt n10 n9)) (
 tvs (pel w3 n10) fun e11 =>
 chk (Bool.and (eh zSl e11 0) (ae zSl [v8] 0)) (
 tv (dI [] w3 n10 0 [v8]) fun v12 =>
 nat (slLen v12) fun n13 =>
 nat (ab x1) fun n14 =>
 chk (Bool.and (slSize v12 1) (Nat.blt n14 n13)) (
 tvs (pel v12 n14) fun e15 =>
 chk (ae zSl e15 0) (
 tv (bp [(n14,0)] v12) fun v16 =>
 tv (plen (.slice 3) v16) fun v17 =>
 jmp [0,0,1,1,1,0,0,1,1,0,0,1,0,1,1] (f26_1_S x1 x0 x1 n14 v17 (I 0) y2 v12 w4))))))) (
 chk (cw (agg [w3,w4])) (
 ret (agg [w3,w4])))
def f26_1  (x0 x1 x2:TV) (k3:Nat) (x4 x5 y6 w7 w8:TV):Prg TV :=
 tv (pbin (.int .i64) .lss x5 x4) fun v18 =>
 Prg.ite (asBool v18) (
 tv (bp [(k3,0)] w7) fun v19 =>
 nat (slLen v19) fun n20 =>
 nat (ab x5) fun n21 =>
 chk (Bool.and (slSize v19 1) (Nat.blt n21 n20)) (
 tv (bp [(k3,0)] w7) fun v22 =>
 tvs (pel v22 n21) fun e23 =>
 chk (ae bq e23 0) (
 nat (slLen w8) fun n24 =>
 nat (ab (nth hole e23 0)) fun n25 =>
 chk (Bool.and (slSize w8 1) (Nat.blt n25 n24)) (
 tvs (pel w8 n25) fun e26 =>
 chk (ae zSl e26 0) (
 chk (TV.ip x0) (
 rws (pelems 1 (TV.sl true 1 (chunks 1 1 [x0]))) fun r27 =>
 tv (bp [(n25,0)] w8) fun v28 =>
 tv (papp 1 v28 (lN r27)) fun v29 =>
 tv (jg [(n25,0)] w8 hole) fun v30 =>
 nat (slLen v30) fun n31 =>
 nat (ab (nth hole e23 0)) fun n32 =>
 chk (Bool.and (slSize v30 1) (Nat.blt n32 n31)) (
 tvs (pel v30 n32) fun e33 =>
 chk (Bool.and (eh zSl e33 0) (ae zSl [v29] 0)) (
 tv (dI [] v30 n32 0 [v29]) fun v34 =>
 tv (pbin (.int .i64) .add x5 (I 1)) fun v35 =>
 jmp [0,0,1,1,1,0,0,1,1,0,0,1,0,1,1] (f26_1_S x0 x1 x2 k3 x4 v35 y6 w7 v34))))))))) (
 tv (pbin (.int .i64) .add x2 (I 1)) fun v36 =>
 jmp [0,0,1,0,1,1] (f26_0_S x1 v36 y6 w7 w8))
theorem f26_MR (x0:TV):dC prog 26 [x0]=f26_M x0:=by kernel_rfl
theorem f26_0_J  {x0 x1 y2 w3 w4:TV} {r:TV} (h:aa prog 26 (f26_0 x0 x1 y2 w3 w4) r):aa prog 26 (.jmp [0,0,1,0,1,1] (f26_0_S x0 x1 y2 w3 w4)) r:=aa.jmp (by kernel_rfl) h
theorem f26_1_J  {x0 x1 x2:TV} {k3:Nat} {x4 x5 y6 w7 w8:TV} {r:TV} (h:aa prog 26 (f26_1 x0 x1 x2 k3 x4 x5 y6 w7 w8) r):aa prog 26 (.jmp [0,0,1,1,1,0,0,1,1,0,0,1,0,1,1] (f26_1_S x0 x1 x2 k3 x4 x5 y6 w7 w8)) r:=aa.jmp (by kernel_rfl) h
def f27_0_S  (x0 x1 x2 w3 w4:TV):ASt:=⟨[AV.one CA.junk,AV.tv x0,AV.one CA.junk,AV.one CA.junk,AV.one CA.junk,AV.one (CA.sref 0 0 []),AV.one (CA.sref 1 0 [])] ++ List.replicate 17 (AV.one CA.junk) ++ [AV.one (CA.sref 0 0 []),AV.tv x1,AV.tv x2] ++ List.replicate 70 (AV.one CA.junk),[some (BC.tree [w3]),some (BC.tree [w4])] ++ List.replicate 119 (none),[]⟩
def f27_1_S  (x0 x1 x2:TV) (k3:Nat) (x4 x5 w6 w7:TV):ASt:=⟨[AV.one CA.junk,AV.tv x0,AV.one CA.junk,AV.one CA.junk,AV.one CA.junk,AV.one (CA.sref 0 0 []),AV.one (CA.sref 1 0 [])] ++ List.replicate 17 (AV.one CA.junk) ++ [AV.one (CA.sref 0 0 []),AV.tv x1,AV.tv x2,AV.one CA.junk,AV.one CA.junk,AV.one CA.junk,AV.one (CA.sref 0 0 [(k3,0)]),AV.tv x4,AV.tv x5] ++ List.replicate 64 (AV.one CA.junk),[some (BC.tree [w6]),some (BC.tree [w7])] ++ List.replicate 119 (none),[]⟩
def f27_2_S  (x0 w1 w2:TV):ASt:=⟨[AV.one CA.junk,AV.tv x0,AV.one CA.junk,AV.one CA.junk,AV.one CA.junk,AV.one (CA.sref 0 0 []),AV.one (CA.sref 1 0 [])] ++ List.replicate 90 (AV.one CA.junk),[some (BC.tree [w1]),some (BC.tree [w2])] ++ List.replicate 119 (none),[]⟩
def f27_3_S  (x0 w1 w2 w3:TV):ASt:=⟨[AV.one CA.junk,AV.tv x0,AV.one CA.junk,AV.one CA.junk,AV.one CA.junk,AV.one (CA.sref 0 0 []),AV.one (CA.sref 1 0 [])] ++ List.replicate 4 (AV.one CA.junk) ++ [AV.one (CA.ptr 2 0)] ++ List.replicate 85 (AV.one CA.junk),[some (BC.tree [w1]),some (BC.tree [w2]),some (BC.cells [CA.sref 3 0 []]),some (BC.tree [w3])] ++ List.replicate 117 (none),[]⟩
def f27_4_S  (x0 x1 x2 w3 w4 w5:TV):ASt:=⟨[AV.one CA.junk,AV.tv x0,AV.one CA.junk,AV.one CA.junk,AV.one CA.junk,AV.one (CA.sref 0 0 []),AV.one (CA.sref 1 0 [])] ++ List.replicate 4 (AV.one CA.junk) ++ [AV.one (CA.ptr 2 0)] ++ List.replicate 32 (AV.one CA.junk) ++ [AV.one (CA.sref 1 0 []),AV.tv x1,AV.tv x2] ++ List.replicate 50 (AV.one CA.junk),[some (BC.tree [w3]),some (BC.tree [w4]),some (BC.cells [CA.sref 3 0 []]),some (BC.tree [w5])] ++ List.replicate 117 (none),[]⟩
def f27_5_S  (x0 w1 w2 w3 x4 x5 x6:TV):ASt:=⟨[AV.one (CA.ifp 71 0),AV.tv x0] ++ List.replicate 21 (AV.one CA.junk),[some (BC.cells [CA.sref 3 0 []]),some (BC.tree [w1]),some (BC.tree [w2]),some (BC.tree [w3])] ++ List.replicate 152 (none),([AV.one CA.junk,AV.tv x4,AV.one CA.junk,AV.one CA.junk,AV.one CA.junk,AV.one (CA.sref 1 0 []),AV.one (CA.sref 2 0 [])] ++ List.replicate 4 (AV.one CA.junk) ++ [AV.one (CA.ptr 0 0)] ++ List.replicate 32 (AV.one CA.junk) ++ [AV.one (CA.sref 2 0 []),AV.tv x5,AV.tv x6] ++ List.replicate 62 (AV.one CA.junk))⟩
def f27_6_S  (x0 w1 w2 w3:TV):ASt:=⟨[AV.one CA.junk,AV.tv x0,AV.one CA.junk,AV.one CA.junk,AV.one CA.junk,AV.one (CA.sref 0 0 []),AV.one (CA.sref 1 0 [])] ++ List.replicate 4 (AV.one CA.junk) ++ [AV.one (CA.ptr 2 0)] ++ List.replicate 85 (AV.one CA.junk),[some (BC.tree [w1]),some (BC.tree [w2]),some (BC.cells [CA.sref 3 0 []]),some (BC.tree [w3])] ++ List.replicate 117 (none),[]⟩
def f27_7_S  (x0 w1 w2 w3 w4:TV):ASt:=⟨[AV.one CA.junk,AV.tv x0,AV.one CA.junk,AV.one CA.junk,AV.one CA.junk,AV.one (CA.sref 0 0 []),AV.one (CA.sref 1 0 [])] ++ List.replicate 4 (AV.one CA.junk) ++ [AV.one (CA.ptr 2 0),AV.one CA.junk,AV.one CA.junk,AV.one (CA.sref 3 0 [])] ++ List.replicate 82 (AV.one CA.junk),[some (BC.tree [w1]),some (BC.tree [w2]),some (BC.cells [CA.sref 4 0 []]),some (BC.tree [w3]),some (BC.tree [w4])] ++ List.replicate 116 (none),[]⟩
def f27_8_S  (x0 x1 x2 w3 w4 w5 w6 x7:TV):ASt:=⟨[AV.one (CA.ifp 71 0),AV.tv x0,AV.tv x1] ++ List.replicate 4 (AV.one CA.junk) ++ [AV.tv x2] ++ List.replicate 40 (AV.one CA.junk),[some (BC.cells [CA.sref 4 0 []]),some (BC.tree [w3]),some (BC.tree [w4]),some (BC.tree [w5]),some (BC.tree [w6])] ++ List.replicate 179 (none),([AV.one CA.junk,AV.tv x7,AV.one CA.junk,AV.one CA.junk,AV.one CA.junk,AV.one (CA.sref 1 0 []),AV.one (CA.sref 2 0 [])] ++ List.replicate 4 (AV.one CA.junk) ++ [AV.one (CA.ptr 0 0),AV.one CA.junk,AV.one CA.junk,AV.one (CA.sref 3 0 [])] ++ List.replicate 82 (AV.one CA.junk) ++ [AV.one (CA.ifp 71 0)] ++ List.replicate 14 (AV.one CA.junk))⟩
def f27_9_S  (x0 x1 w2 w3 w4 w5 x6:TV):ASt:=⟨[AV.one CA.junk,AV.tv x0] ++ List.replicate 5 (AV.one CA.junk) ++ [AV.tv x1] ++ List.replicate 40 (AV.one CA.junk),[some (BC.tree [w2]),some (BC.tree [w3]),some (BC.cells [CA.sref 4 0 []]),some (BC.tree [w4]),some (BC.tree [w5])] ++ List.replicate 179 (none),([AV.one CA.junk,AV.tv x6,AV.one CA.junk,AV.one CA.junk,AV.one CA.junk,AV.one (CA.sref 0 0 []),AV.one (CA.sref 1 0 [])] ++ List.replicate 4 (AV.one CA.junk) ++ [AV.one (CA.ptr 2 0),AV.one CA.junk,AV.one CA.junk,AV.one (CA.sref 3 0 [])] ++ List.replicate 82 (AV.one CA.junk) ++ [AV.one (CA.ifp 71 2)] ++ List.replicate 14 (AV.one CA.junk))⟩
def f27_10_S  (x0 x1 x2 x3 w4 w5 w6 w7 x8:TV):ASt:=⟨[AV.one (CA.ifp 71 0),AV.tv x0,AV.tv x1] ++ List.replicate 4 (AV.one CA.junk) ++ [AV.tv x2,AV.one CA.junk,AV.tv x3] ++ List.replicate 38 (AV.one CA.junk),[some (BC.cells [CA.sref 4 0 []]),some (BC.tree [w4]),some (BC.tree [w5]),some (BC.tree [w6]),some (BC.tree [w7])] ++ List.replicate 179 (none),([AV.one CA.junk,AV.tv x8,AV.one CA.junk,AV.one CA.junk,AV.one CA.junk,AV.one (CA.sref 1 0 []),AV.one (CA.sref 2 0 [])] ++ List.replicate 4 (AV.one CA.junk) ++ [AV.one (CA.ptr 0 0),AV.one CA.junk,AV.one CA.junk,AV.one (CA.sref 3 0 [])] ++ List.replicate 82 (AV.one CA.junk) ++ [AV.one (CA.ifp 71 0)] ++ List.replicate 14 (AV.one CA.junk))⟩
def f27_11_S  (x0:TV) (k1:Nat) (x2 x3 w4 w5 w6 w7:TV):ASt:=⟨[AV.one CA.junk,AV.tv x0,AV.one CA.junk,AV.one CA.junk,AV.one CA.junk,AV.one (CA.sref 0 0 []),AV.one (CA.sref 1 0 [])] ++ List.replicate 4 (AV.one CA.junk) ++ [AV.one (CA.ptr 2 0),AV.one CA.junk,AV.one CA.junk,AV.one (CA.sref 3 0 [])] ++ List.replicate 59 (AV.one CA.junk) ++ [AV.one (CA.sref 0 0 [(k1,0)]),AV.tv x2,AV.tv x3] ++ List.replicate 20 (AV.one CA.junk),[some (BC.tree [w4]),some (BC.tree [w5]),some (BC.cells [CA.sref 4 0 []]),some (BC.tree [w6]),some (BC.tree [w7])] ++ List.replicate 116 (none),[]⟩
def f27_12_S  (x0 w1 w2 w3 w4 x5:TV) (k6:Nat) (x7 x8:TV):ASt:=⟨[AV.one (CA.ifp 71 0),AV.tv x0] ++ List.replicate 21 (AV.one CA.junk),[some (BC.cells [CA.sref 4 0 []]),some (BC.tree [w1]),some (BC.tree [w2]),some (BC.tree [w3]),some (BC.tree [w4])] ++ List.replicate 151 (none),([AV.one CA.junk,AV.tv x5,AV.one CA.junk,AV.one CA.junk,AV.one CA.junk,AV.one (CA.sref 1 0 []),AV.one (CA.sref 2 0 [])] ++ List.replicate 4 (AV.one CA.junk) ++ [AV.one (CA.ptr 0 0),AV.one CA.junk,AV.one CA.junk,AV.one (CA.sref 3 0 [])] ++ List.replicate 59 (AV.one CA.junk) ++ [AV.one (CA.sref 1 0 [(k6,0)]),AV.tv x7,AV.tv x8] ++ List.replicate 32 (AV.one CA.junk))⟩
def f27_M (x0 x1:TV):Prg TV :=
 chk (TV.isAgg x0 2) (
 call 32 [agg [cell x0 0,cell x0 1],x1] fun v0 =>
 chk (ae zSl [v0] 0) (
 tv (plen (.slice 28) x1) fun v1 =>
 nat (ab v1) fun n2 =>
 nat (ab v1) fun n3 =>
 chk (Bool.and (Nat.ble n2 n3) (Nat.ble n3 4294967296)) (
 tv (plen (.slice 28) v0) fun v4 =>
 jmp [0,0,1,0,1,1,1] (f27_0_S x1 v4 (I 0) v0 (TV.sl true 1 (List.replicate n2 [I 0]))))))
def f27_0  (x0 x1 x2 w3 w4:TV):Prg TV :=
 tv (pbin (.int .i64) .lss x2 x1) fun v5 =>
 Prg.ite (asBool v5) (
 nat (slLen w3) fun n6 =>
 nat (ab x2) fun n7 =>
 chk (Bool.and (slSize w3 1) (Nat.blt n7 n6)) (
 tvs (pel w3 n7) fun e8 =>
 chk (ae zSl e8 0) (
 tv (bp [(n7,0)] w3) fun v9 =>
 tv (plen (.slice 3) v9) fun v10 =>
 jmp [0,0,1,1,0,0,1,1,0,0,1,0,1,1,1] (f27_1_S x0 x1 x2 n7 v10 (I 0) w3 w4)))) (
 jmp [1,1,1,1] (f27_2_S x0 w3 w4))
def f27_1  (x0 x1 x2:TV) (k3:Nat) (x4 x5 w6 w7:TV):Prg TV :=
 tv (pbin (.int .i64) .lss x5 x4) fun v11 =>
 Prg.ite (asBool v11) (
 tv (bp [(k3,0)] w6) fun v12 =>
 nat (slLen v12) fun n13 =>
 nat (ab x5) fun n14 =>
 chk (Bool.and (slSize v12 1) (Nat.blt n14 n13)) (
 tv (bp [(k3,0)] w6) fun v15 =>
 tvs (pel v15 n14) fun e16 =>
 chk (ae bq e16 0) (
 nat (slLen w7) fun n17 =>
 nat (ab (nth hole e16 0)) fun n18 =>
 chk (Bool.and (slSize w7 1) (Nat.blt n18 n17)) (
 tvs (pel w7 n18) fun e19 =>
 chk (ae bq e19 0) (
 tv (pbin (.int .i64) .add (nth hole e19 0) (I 1)) fun v20 =>
 nat (slLen w7) fun n21 =>
 nat (ab (nth hole e16 0)) fun n22 =>
 chk (Bool.and (slSize w7 1) (Nat.blt n22 n21)) (
 tvs (pel w7 n22) fun e23 =>
 chk (ae bq e23 0) (
 tv (dI [] w7 n22 0 [v20]) fun v24 =>
 tv (pbin (.int .i64) .add x5 (I 1)) fun v25 =>
 jmp [0,0,1,1,0,0,1,1,0,0,1,0,1,1,1] (f27_1_S x0 x1 x2 k3 x4 v25 w6 v24)))))))) (
 tv (pbin (.int .i64) .add x2 (I 1)) fun v26 =>
 jmp [0,0,1,0,1,1,1] (f27_0_S x0 x1 v26 w6 w7))
def f27_2  (x0 w1 w2:TV):Prg TV :=
 chk true (
 jmp [1,1,1,1,1] (f27_3_S x0 w1 w2 (TV.lit aV)))
def f27_3  (x0 w1 w2 w3:TV):Prg TV :=
 tv (plen (.slice 3) w2) fun v27 =>
 jmp [0,0,1,0,1,1,1,1,1] (f27_4_S x0 v27 (I 0) w1 w2 w3)
def f27_4  (x0 x1 x2 w3 w4 w5:TV):Prg TV :=
 tv (pbin (.int .i64) .lss x2 x1) fun v28 =>
 Prg.ite (asBool v28) (
 nat (slLen w4) fun n29 =>
 nat (ab x2) fun n30 =>
 chk (Bool.and (slSize w4 1) (Nat.blt n30 n29)) (
 tvs (pel w4 n30) fun e31 =>
 chk (ae bq e31 0) (
 tv (pbin (.int .i64) .eql (nth hole e31 0) (I 0)) fun v32 =>
 Prg.ite (asBool v32) (
 tv (pifc 3 x2) fun v33 =>
 tv (pasrt 3 v33) fun v34 =>
 rws (pelems 1 (TV.sl true 1 (chunks 1 1 [v34]))) fun r35 =>
 tv (papp 1 w5 (lN r35)) fun v36 =>
 tv (plen (.slice 3) v36) fun v37 =>
 tv (pbin (.int .i64) .sub v37 (I 1)) fun v38 =>
 jmp [0,0,10,1,8,0,1,1,0,0,1,1,0,0,1,0,1,1,1,1,1] (f27_5_S v38 w3 w4 v36 x0 x1 x2)) (
 tv (pbin (.int .i64) .add x2 (I 1)) fun v39 =>
 jmp [0,0,1,0,1,1,1,1,1] (f27_4_S x0 x1 v39 w3 w4 w5))))) (
 jmp [1,1,1,1,1,1] (f27_6_S x0 w3 w4 w5))
def f27_5  (x0 w1 w2 w3 x4 x5 x6:TV):Prg TV :=
 tv (pbin (.int .i64) .sub x0 (I 1)) fun v40 =>
 tv (pbin (.int .i64) .quo v40 (I 2)) fun v41 =>
 tv (pbin (.int .i64) .eql v41 x0) fun v42 =>
 Prg.ite (asBool v42) (
 tv (pbin (.int .i64) .add x6 (I 1)) fun v43 =>
 jmp [0,0,1,0,1,1,1,1,1] (f27_4_S x4 x5 v43 w1 w2 w3)) (
 nat (slLen w3) fun n44 =>
 nat (ab x0) fun n45 =>
 chk (Bool.and (slSize w3 1) (Nat.blt n45 n44)) (
 tvs (pel w3 n45) fun e46 =>
 chk (ae bq e46 0) (
 nat (slLen w3) fun n47 =>
 nat (ab v41) fun n48 =>
 chk (Bool.and (slSize w3 1) (Nat.blt n48 n47)) (
 tvs (pel w3 n48) fun e49 =>
 chk (ae bq e49 0) (
 tv (pbin (.int .i64) .lss (nth hole e46 0) (nth hole e49 0)) fun v50 =>
 tv (pun .not v50) fun v51 =>
 Prg.ite (asBool v51) (
 tv (pbin (.int .i64) .add x6 (I 1)) fun v52 =>
 jmp [0,0,1,0,1,1,1,1,1] (f27_4_S x4 x5 v52 w1 w2 w3)) (
 nat (slLen w3) fun n53 =>
 nat (ab x0) fun n54 =>
 chk (Bool.and (slSize w3 1) (Nat.blt n54 n53)) (
 tvs (pel w3 n54) fun e55 =>
 chk (ae bq e55 0) (
 nat (slLen w3) fun n56 =>
 nat (ab v41) fun n57 =>
 chk (Bool.and (slSize w3 1) (Nat.blt n57 n56)) (
 tvs (pel w3 n57) fun e58 =>
 chk (ae bq e58 0) (
 nat (slLen w3) fun n59 =>
 nat (ab v41) fun n60 =>
 chk (Bool.and (slSize w3 1) (Nat.blt n60 n59)) (
 tvs (pel w3 n60) fun e61 =>
 chk (ae bq e61 0) (
 tv (dI [] w3 n60 0 [nth hole e55 0]) fun v62 =>
 nat (slLen v62) fun n63 =>
 nat (ab x0) fun n64 =>
 chk (Bool.and (slSize v62 1) (Nat.blt n64 n63)) (
 tvs (pel v62 n64) fun e65 =>
 chk (ae bq e65 0) (
 tv (dI [] v62 n64 0 [nth hole e58 0]) fun v66 =>
 jmp [0,0,10,1,8,0,1,1,0,0,1,1,0,0,1,0,1,1,1,1,1] (f27_5_S v41 w1 w2 v66 x4 x5 x6)))))))))))))))
def f27_6  (x0 w1 w2 w3:TV):Prg TV :=
 chk true (
 jmp [0,0,0,1,1,1,1,1,1,1] (f27_7_S x0 w1 w2 (TV.lit aV) w3))
def f27_7  (x0 w1 w2 w3 w4:TV):Prg TV :=
 tv (plen (.slice 3) w4) fun v67 =>
 tv (pbin (.int .i64) .gtr v67 (I 0)) fun v68 =>
 Prg.ite (asBool v68) (
 tv (plen (.slice 3) w4) fun v69 =>
 tv (pbin (.int .i64) .sub v69 (I 1)) fun v70 =>
 nat (slLen w4) fun n71 =>
 nat (ab v70) fun n72 =>
 chk (Bool.and (slSize w4 1) (Nat.blt n72 n71)) (
 tvs (pel w4 n72) fun e73 =>
 chk (ae bq e73 0) (
 nat (slLen w4) fun n74 =>
 nat (ab (I 0)) fun n75 =>
 chk (Bool.and (slSize w4 1) (Nat.blt n75 n74)) (
 tvs (pel w4 n75) fun e76 =>
 chk (ae bq e76 0) (
 nat (slLen w4) fun n77 =>
 nat (ab (I 0)) fun n78 =>
 chk (Bool.and (slSize w4 1) (Nat.blt n78 n77)) (
 tvs (pel w4 n78) fun e79 =>
 chk (ae bq e79 0) (
 tv (dI [] w4 n78 0 [nth hole e73 0]) fun v80 =>
 nat (slLen v80) fun n81 =>
 nat (ab v70) fun n82 =>
 chk (Bool.and (slSize v80 1) (Nat.blt n82 n81)) (
 tvs (pel v80 n82) fun e83 =>
 chk (ae bq e83 0) (
 tv (dI [] v80 n82 0 [nth hole e76 0]) fun v84 =>
 jmp [0,0,0,1,1,6,0,1,1,1,4,0,0,1,0,0,0,1,1,1,1,1,1,1] (f27_8_S (I 0) v70 (I 0) w1 w2 w3 v84 x0)))))))))) (
 ret w3)
def f27_8  (x0 x1 x2 w3 w4 w5 w6 x7:TV):Prg TV :=
 tv (pbin (.int .i64) .mul (I 2) x2) fun v85 =>
 tv (pbin (.int .i64) .add v85 (I 1)) fun v86 =>
 tv (pbin (.int .i64) .geq v86 x1) fun v87 =>
 Prg.ite (asBool v87) (
 jmp [1,1,1,6,0,1,1,1,4,0,0,1,0,0,0,1,1,1,1,1,1,1] (f27_9_S x0 x2 w3 w4 w5 w6 x7)) (
 tv (pbin (.int .i64) .lss v86 (I 0)) fun v88 =>
 Prg.ite (asBool v88) (
 jmp [1,1,1,6,0,1,1,1,4,0,0,1,0,0,0,1,1,1,1,1,1,1] (f27_9_S x0 x2 w3 w4 w5 w6 x7)) (
 tv (pbin (.int .i64) .add v86 (I 1)) fun v89 =>
 tv (pbin (.int .i64) .lss v89 x1) fun v90 =>
 Prg.ite (asBool v90) (
 nat (slLen w6) fun n91 =>
 nat (ab v89) fun n92 =>
 chk (Bool.and (slSize w6 1) (Nat.blt n92 n91)) (
 tvs (pel w6 n92) fun e93 =>
 chk (ae bq e93 0) (
 nat (slLen w6) fun n94 =>
 nat (ab v86) fun n95 =>
 chk (Bool.and (slSize w6 1) (Nat.blt n95 n94)) (
 tvs (pel w6 n95) fun e96 =>
 chk (ae bq e96 0) (
 tv (pbin (.int .i64) .lss (nth hole e93 0) (nth hole e96 0)) fun v97 =>
 Prg.ite (asBool v97) (
 jmp [1,1,1,1,0,0,0,0,1,1,6,0,1,1,1,4,0,0,1,0,0,0,1,1,1,1,1,1,1] (f27_10_S x0 x1 x2 v89 w3 w4 w5 w6 x7)) (
 jmp [1,1,1,1,0,0,0,0,1,1,6,0,1,1,1,4,0,0,1,0,0,0,1,1,1,1,1,1,1] (f27_10_S x0 x1 x2 v86 w3 w4 w5 w6 x7))))))) (
 jmp [1,1,1,1,0,0,0,0,1,1,6,0,1,1,1,4,0,0,1,0,0,0,1,1,1,1,1,1,1] (f27_10_S x0 x1 x2 v86 w3 w4 w5 w6 x7))))
def f27_9  (x0 x1 w2 w3 w4 w5 x6:TV):Prg TV :=
 tv (pbin (.int .i64) .gtr x1 x0) fun v98 =>
 tv (plen (.slice 3) w5) fun v99 =>
 tv (pbin (.int .i64) .sub v99 (I 1)) fun v100 =>
 nat (slLen w5) fun n101 =>
 nat (ab v100) fun n102 =>
 chk (Bool.and (slSize w5 1) (Nat.blt n102 n101)) (
 tvs (pel w5 n102) fun e103 =>
 chk (ae bq e103 0) (
 nat (slLen w5) fun n104 =>
 nat (ab v100) fun n105 =>
 chk (Bool.and (Bool.and (slSize w5 1) (Nat.ble 0 (Option.getD (some n105) n104))) (Nat.ble (Option.getD (some n105) n104) n104)) (
 tv (pifc 3 (nth hole e103 0)) fun v106 =>
 tv (pasrt 3 v106) fun v107 =>
 tvs (pidx 1 x6 v107) fun e108 =>
 chk (Nat.blt 0 (List.length e108)) (
 rws (pelems 1 (TV.sl true 1 (chunks 1 1 [nth hole e108 0]))) fun r109 =>
 tv (papp 1 w4 r109) fun v110 =>
 nat (slLen w2) fun n111 =>
 nat (ab v107) fun n112 =>
 chk (Bool.and (slSize w2 1) (Nat.blt n112 n111)) (
 tvs (pel w2 n112) fun e113 =>
 chk (ae zSl e113 0) (
 tv (bp [(n112,0)] w2) fun v114 =>
 tv (plen (.slice 3) v114) fun v115 =>
 tv (cV 0 ((Option.getD (some n105) n104) - 0) w5) fun v116 =>
 jmp [0,0,1,1,1,0,1,0,0,0,1,1,1,1,1,1,1] (f27_11_S x6 n112 v115 (I 0) w2 w3 v110 v116)))))))
def f27_10  (x0 x1 x2 x3 w4 w5 w6 w7 x8:TV):Prg TV :=
 nat (slLen w7) fun n117 =>
 nat (ab x3) fun n118 =>
 chk (Bool.and (slSize w7 1) (Nat.blt n118 n117)) (
 tvs (pel w7 n118) fun e119 =>
 chk (ae bq e119 0) (
 nat (slLen w7) fun n120 =>
 nat (ab x2) fun n121 =>
 chk (Bool.and (slSize w7 1) (Nat.blt n121 n120)) (
 tvs (pel w7 n121) fun e122 =>
 chk (ae bq e122 0) (
 tv (pbin (.int .i64) .lss (nth hole e119 0) (nth hole e122 0)) fun v123 =>
 tv (pun .not v123) fun v124 =>
 Prg.ite (asBool v124) (
 jmp [1,1,1,6,0,1,1,1,4,0,0,1,0,0,0,1,1,1,1,1,1,1] (f27_9_S x0 x2 w4 w5 w6 w7 x8)) (
 nat (slLen w7) fun n125 =>
 nat (ab x3) fun n126 =>
 chk (Bool.and (slSize w7 1) (Nat.blt n126 n125)) (
 tvs (pel w7 n126) fun e127 =>
 chk (ae bq e127 0) (
 nat (slLen w7) fun n128 =>
 nat (ab x2) fun n129 =>
 chk (Bool.and (slSize w7 1) (Nat.blt n129 n128)) (
 tvs (pel w7 n129) fun e130 =>
 chk (ae bq e130 0) (
 nat (slLen w7) fun n131 =>
 nat (ab x2) fun n132 =>
 chk (Bool.and (slSize w7 1) (Nat.blt n132 n131)) (
 tvs (pel w7 n132) fun e133 =>
 chk (ae bq e133 0) (
 tv (dI [] w7 n132 0 [nth hole e127 0]) fun v134 =>
 nat (slLen v134) fun n135 =>
 nat (ab x3) fun n136 =>
 chk (Bool.and (slSize v134 1) (Nat.blt n136 n135)) (
 tvs (pel v134 n136) fun e137 =>
 chk (ae bq e137 0) (
 tv (dI [] v134 n136 0 [nth hole e130 0]) fun v138 =>
 jmp [0,0,0,1,1,6,0,1,1,1,4,0,0,1,0,0,0,1,1,1,1,1,1,1] (f27_8_S x0 x1 x3 w4 w5 w6 v138 x8))))))))))))))
def f27_11  (x0:TV) (k1:Nat) (x2 x3 w4 w5 w6 w7:TV):Prg TV :=
 tv (pbin (.int .i64) .lss x3 x2) fun v139 =>
 Prg.ite (asBool v139) (
 tv (bp [(k1,0)] w4) fun v140 =>
 nat (slLen v140) fun n141 =>
 nat (ab x3) fun n142 =>
 chk (Bool.and (slSize v140 1) (Nat.blt n142 n141)) (
 tv (bp [(k1,0)] w4) fun v143 =>
 tvs (pel v143 n142) fun e144 =>
 chk (ae bq e144 0) (
 nat (slLen w5) fun n145 =>
 nat (ab (nth hole e144 0)) fun n146 =>
 chk (Bool.and (slSize w5 1) (Nat.blt n146 n145)) (
 tvs (pel w5 n146) fun e147 =>
 chk (ae bq e147 0) (
 tv (pbin (.int .i64) .sub (nth hole e147 0) (I 1)) fun v148 =>
 nat (slLen w5) fun n149 =>
 nat (ab (nth hole e144 0)) fun n150 =>
 chk (Bool.and (slSize w5 1) (Nat.blt n150 n149)) (
 tvs (pel w5 n150) fun e151 =>
 chk (ae bq e151 0) (
 tv (dI [] w5 n150 0 [v148]) fun v152 =>
 nat (slLen v152) fun n153 =>
 nat (ab (nth hole e144 0)) fun n154 =>
 chk (Bool.and (slSize v152 1) (Nat.blt n154 n153)) (
 tvs (pel v152 n154) fun e155 =>
 chk (ae bq e155 0) (
 tv (pbin (.int .i64) .eql (nth hole e155 0) (I 0)) fun v156 =>
 Prg.ite (asBool v156) (
 tv (pifc 3 (nth hole e144 0)) fun v157 =>
 tv (pasrt 3 v157) fun v158 =>
 rws (pelems 1 (TV.sl true 1 (chunks 1 1 [v158]))) fun r159 =>
 tv (papp 1 w7 (lN r159)) fun v160 =>
 tv (plen (.slice 3) v160) fun v161 =>
 tv (pbin (.int .i64) .sub v161 (I 1)) fun v162 =>
 jmp [0,0,10,1,8,0,1,1,1,0,0,1,1,0,0,1,1,1,0,1,0,0,0,1,1,1,1,1,1,1] (f27_12_S v162 w4 v152 w6 v160 x0 k1 x2 x3)) (
 tv (pbin (.int .i64) .add x3 (I 1)) fun v163 =>
 jmp [0,0,1,1,1,0,1,0,0,0,1,1,1,1,1,1,1] (f27_11_S x0 k1 x2 v163 w4 v152 w6 w7))))))))))) (
 jmp [0,0,0,1,1,1,1,1,1,1] (f27_7_S x0 w4 w5 w6 w7))
def f27_12  (x0 w1 w2 w3 w4 x5:TV) (k6:Nat) (x7 x8:TV):Prg TV :=
 tv (pbin (.int .i64) .sub x0 (I 1)) fun v164 =>
 tv (pbin (.int .i64) .quo v164 (I 2)) fun v165 =>
 tv (pbin (.int .i64) .eql v165 x0) fun v166 =>
 Prg.ite (asBool v166) (
 tv (pbin (.int .i64) .add x8 (I 1)) fun v167 =>
 jmp [0,0,1,1,1,0,1,0,0,0,1,1,1,1,1,1,1] (f27_11_S x5 k6 x7 v167 w1 w2 w3 w4)) (
 nat (slLen w4) fun n168 =>
 nat (ab x0) fun n169 =>
 chk (Bool.and (slSize w4 1) (Nat.blt n169 n168)) (
 tvs (pel w4 n169) fun e170 =>
 chk (ae bq e170 0) (
 nat (slLen w4) fun n171 =>
 nat (ab v165) fun n172 =>
 chk (Bool.and (slSize w4 1) (Nat.blt n172 n171)) (
 tvs (pel w4 n172) fun e173 =>
 chk (ae bq e173 0) (
 tv (pbin (.int .i64) .lss (nth hole e170 0) (nth hole e173 0)) fun v174 =>
 tv (pun .not v174) fun v175 =>
 Prg.ite (asBool v175) (
 tv (pbin (.int .i64) .add x8 (I 1)) fun v176 =>
 jmp [0,0,1,1,1,0,1,0,0,0,1,1,1,1,1,1,1] (f27_11_S x5 k6 x7 v176 w1 w2 w3 w4)) (
 nat (slLen w4) fun n177 =>
 nat (ab x0) fun n178 =>
 chk (Bool.and (slSize w4 1) (Nat.blt n178 n177)) (
 tvs (pel w4 n178) fun e179 =>
 chk (ae bq e179 0) (
 nat (slLen w4) fun n180 =>
 nat (ab v165) fun n181 =>
 chk (Bool.and (slSize w4 1) (Nat.blt n181 n180)) (
 tvs (pel w4 n181) fun e182 =>
 chk (ae bq e182 0) (
 nat (slLen w4) fun n183 =>
 nat (ab v165) fun n184 =>
 chk (Bool.and (slSize w4 1) (Nat.blt n184 n183)) (
 tvs (pel w4 n184) fun e185 =>
 chk (ae bq e185 0) (
 tv (dI [] w4 n184 0 [nth hole e179 0]) fun v186 =>
 nat (slLen v186) fun n187 =>
 nat (ab x0) fun n188 =>
 chk (Bool.and (slSize v186 1) (Nat.blt n188 n187)) (
 tvs (pel v186 n188) fun e189 =>
 chk (ae bq e189 0) (
 tv (dI [] v186 n188 0 [nth hole e182 0]) fun v190 =>
 jmp [0,0,10,1,8,0,1,1,1,0,0,1,1,0,0,1,1,1,0,1,0,0,0,1,1,1,1,1,1,1] (f27_12_S v165 w1 w2 w3 v190 x5 k6 x7 x8)))))))))))))))
theorem f27_MR (x0 x1:TV):dC prog 27 [x0,x1]=f27_M x0 x1:=by kernel_rfl
theorem f27_0_J  {x0 x1 x2 w3 w4:TV} {r:TV} (h:aa prog 27 (f27_0 x0 x1 x2 w3 w4) r):aa prog 27 (.jmp [0,0,1,0,1,1,1] (f27_0_S x0 x1 x2 w3 w4)) r:=aa.jmp (by kernel_rfl) h
theorem f27_1_J  {x0 x1 x2:TV} {k3:Nat} {x4 x5 w6 w7:TV} {r:TV} (h:aa prog 27 (f27_1 x0 x1 x2 k3 x4 x5 w6 w7) r):aa prog 27 (.jmp [0,0,1,1,0,0,1,1,0,0,1,0,1,1,1] (f27_1_S x0 x1 x2 k3 x4 x5 w6 w7)) r:=aa.jmp (by kernel_rfl) h
theorem f27_2_J  {x0 w1 w2:TV} {r:TV} (h:aa prog 27 (f27_2 x0 w1 w2) r):aa prog 27 (.jmp [1,1,1,1] (f27_2_S x0 w1 w2)) r:=aa.jmp (by kernel_rfl) h
theorem f27_3_J  {x0 w1 w2 w3:TV} {r:TV} (h:aa prog 27 (f27_3 x0 w1 w2 w3) r):aa prog 27 (.jmp [1,1,1,1,1] (f27_3_S x0 w1 w2 w3)) r:=aa.jmp (by kernel_rfl) h
theorem f27_4_J  {x0 x1 x2 w3 w4 w5:TV} {r:TV} (h:aa prog 27 (f27_4 x0 x1 x2 w3 w4 w5) r):aa prog 27 (.jmp [0,0,1,0,1,1,1,1,1] (f27_4_S x0 x1 x2 w3 w4 w5)) r:=aa.jmp (by kernel_rfl) h
theorem f27_5_J  {x0 w1 w2 w3 x4 x5 x6:TV} {r:TV} (h:aa prog 27 (f27_5 x0 w1 w2 w3 x4 x5 x6) r):aa prog 27 (.jmp [0,0,10,1,8,0,1,1,0,0,1,1,0,0,1,0,1,1,1,1,1] (f27_5_S x0 w1 w2 w3 x4 x5 x6)) r:=aa.jmp (by kernel_rfl) h
theorem f27_6_J  {x0 w1 w2 w3:TV} {r:TV} (h:aa prog 27 (f27_6 x0 w1 w2 w3) r):aa prog 27 (.jmp [1,1,1,1,1,1] (f27_6_S x0 w1 w2 w3)) r:=aa.jmp (by kernel_rfl) h
theorem f27_7_J  {x0 w1 w2 w3 w4:TV} {r:TV} (h:aa prog 27 (f27_7 x0 w1 w2 w3 w4) r):aa prog 27 (.jmp [0,0,0,1,1,1,1,1,1,1] (f27_7_S x0 w1 w2 w3 w4)) r:=aa.jmp (by kernel_rfl) h
theorem f27_8_J  {x0 x1 x2 w3 w4 w5 w6 x7:TV} {r:TV} (h:aa prog 27 (f27_8 x0 x1 x2 w3 w4 w5 w6 x7) r):aa prog 27 (.jmp [0,0,0,1,1,6,0,1,1,1,4,0,0,1,0,0,0,1,1,1,1,1,1,1] (f27_8_S x0 x1 x2 w3 w4 w5 w6 x7)) r:=aa.jmp (by kernel_rfl) h
theorem f27_9_J  {x0 x1 w2 w3 w4 w5 x6:TV} {r:TV} (h:aa prog 27 (f27_9 x0 x1 w2 w3 w4 w5 x6) r):aa prog 27 (.jmp [1,1,1,6,0,1,1,1,4,0,0,1,0,0,0,1,1,1,1,1,1,1] (f27_9_S x0 x1 w2 w3 w4 w5 x6)) r:=aa.jmp (by kernel_rfl) h
theorem f27_10_J  {x0 x1 x2 x3 w4 w5 w6 w7 x8:TV} {r:TV} (h:aa prog 27 (f27_10 x0 x1 x2 x3 w4 w5 w6 w7 x8) r):aa prog 27 (.jmp [1,1,1,1,0,0,0,0,1,1,6,0,1,1,1,4,0,0,1,0,0,0,1,1,1,1,1,1,1] (f27_10_S x0 x1 x2 x3 w4 w5 w6 w7 x8)) r:=aa.jmp (by kernel_rfl) h
theorem f27_11_J  {x0:TV} {k1:Nat} {x2 x3 w4 w5 w6 w7:TV} {r:TV} (h:aa prog 27 (f27_11 x0 k1 x2 x3 w4 w5 w6 w7) r):aa prog 27 (.jmp [0,0,1,1,1,0,1,0,0,0,1,1,1,1,1,1,1] (f27_11_S x0 k1 x2 x3 w4 w5 w6 w7)) r:=aa.jmp (by kernel_rfl) h
theorem f27_12_J  {x0 w1 w2 w3 w4 x5:TV} {k6:Nat} {x7 x8:TV} {r:TV} (h:aa prog 27 (f27_12 x0 w1 w2 w3 w4 x5 k6 x7 x8) r):aa prog 27 (.jmp [0,0,10,1,8,0,1,1,1,0,0,1,1,0,0,1,1,1,0,1,0,0,0,1,1,1,1,1,1,1] (f27_12_S x0 w1 w2 w3 w4 x5 k6 x7 x8)) r:=aa.jmp (by kernel_rfl) h
end Go.Ab.C11

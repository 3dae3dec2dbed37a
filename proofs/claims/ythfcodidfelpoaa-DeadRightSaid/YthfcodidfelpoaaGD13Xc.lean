import Derived.Test.YthfcodidfelpoaaGD13T
set_option linter.all false
set_option maxRecDepth 100000
namespace Go.Ab.D13
open Go Go.Ab Go.Proofs
open Go.Ab.TV (hole cell comp isSl isSc isTup cellsL tup agg)
open Go.Ab.Prg (tv tvs rws nat chk call jmp ret)
def f32_0_S  (x0 x1 x2 x3:TV):ASt:=⟨[AV.tv x0,AV.tv x1,Jk,Jk,Jk,AV.tv x2,AV.tv x3] ++ Rj 12,Rz 43,[]⟩
def f32_M (x0 x1:TV):Prg TV :=
 jmp [0,0,1,0,1,1] (f32_0_S x0 x1 (I 0) (I 0))
def f32_0  (x0 x1 x2 x3:TV):Prg TV :=
 tv (pbin (.int .i64) .lss x3 x1) fun v0 =>
 Prg.ite (asBool v0) (
 tvs (pidx 1 x0 x3) fun e1 =>
 chk (Nat.blt 0 (List.length e1)) (
 Prg.ite (asBool (nth hole e1 0)) (
 tv (pbin (.int .i64) .add x2 (I 1)) fun v2 =>
 tv (pbin (.int .i64) .add x3 (I 1)) fun v3 =>
 jmp [0,0,1,0,1,1] (f32_0_S x0 x1 v2 v3)) (
 tv (pbin (.int .i64) .add x3 (I 1)) fun v4 =>
 jmp [0,0,1,0,1,1] (f32_0_S x0 x1 x2 v4)))) (
 ret x2)
theorem f32_MR (x0 x1:TV):au prog 32 [x0,x1]=f32_M x0 x1:=by kernel_rfl
theorem f32_0_J  {x0 x1 x2 x3:TV} {r:TV} (h:aa prog 32 (f32_0 x0 x1 x2 x3) r):aa prog 32 (.jmp [0,0,1,0,1,1] (f32_0_S x0 x1 x2 x3)) r:=aa.jmp (by kernel_rfl) h
def f33_0_S  (x0 y1 y2 y3 y4:TV):ASt:=⟨[Jk,Jk,Pt 0,Pt 1,Jk,AV.tv x0] ++ Rj 87,[Ct y1,some (BC.cells [CA.t y2,CA.t y3,CA.t y4])] ++ Rz 115,[]⟩
def f33_1_S  (x0 x1 y2 y3 y4 y5 y6 y7 y8 y9 y10 y11 y12 y13 y14 y15 y16 y17 y18 y19:TV):ASt:=⟨[Jk,Jk,Pt 0,Pt 1,Jk,AV.tv x0,Pt 2,AV.tv x1] ++ Rj 85,[Ct y2,some (BC.cells [CA.t y3,CA.t y4,CA.t y5]),some (BC.cells [CA.t y6,CA.t y7,CA.t y8,CA.t y9,CA.t y10,CA.t y11,CA.t y12,CA.t y13,CA.t y14,CA.t y15,CA.t y16,CA.t y17,CA.t y18,CA.t y19])] ++ Rz 114,[]⟩
def f33_M (x0 x1:TV):Prg TV :=
 chk (TV.isAgg x0 1) (
 chk (TV.isAgg x1 3) (
 tv (pbin (.int .i64) .lss (cell x1 0) (I 0)) fun v0 =>
 Prg.ite (asBool v0) (
 ret (B false)) (
 tv (pbin (.int .i64) .gtr (cell x1 0) (I 8)) fun v1 =>
 Prg.ite (asBool v1) (
 ret (B false)) (
 tv (pbin (.int .i64) .lss (cell x1 1) (cell x1 0)) fun v2 =>
 Prg.ite (asBool v2) (
 ret (B false)) (
 tv (pbin (.int .i64) .gtr (cell x1 1) (I 256)) fun v3 =>
 Prg.ite (asBool v3) (
 ret (B false)) (
 tv (plen (.slice 46) (cell x1 2)) fun v4 =>
 tv (pbin (.int .i64) .eql v4 (I 0)) fun v5 =>
 Prg.ite (asBool v5) (
 ret (B false)) (
 tv (plen (.slice 46) (cell x1 2)) fun v6 =>
 tv (pbin (.int .i64) .gtr v6 (I 64)) fun v7 =>
 Prg.ite (asBool v7) (
 ret (B false)) (
 tvs (pidx 14 (cell x1 2) (I 0)) fun e8 =>
 chk (Nat.blt 0 (List.length e8)) (
 Prg.ite (asBool (nth hole e8 0)) (
 ret (B false)) (
 jmp [0,0,1,0,1,1] (f33_0_S (I 0) (cell x0 0) (cell x1 0) (cell x1 1) (cell x1 2))))))))))))
def f33_0  (x0 y1 y2 y3 y4:TV):Prg TV :=
 tv (plen (.slice 46) y4) fun v9 =>
 tv (pbin (.int .i64) .lss x0 v9) fun v10 =>
 Prg.ite (asBool v10) (
 tvs (pidx 14 y4 x0) fun e11 =>
 chk (Nat.ble 14 (List.length e11)) (
 tv (plen (.slice 50) (nth hole e11 5)) fun v12 =>
 tv (pbin (.int .i64) .gtr v12 (I 64)) fun v13 =>
 Prg.ite (asBool v13) (
 ret (B false)) (
 call 49 [agg [y2,y3,y4],agg [nth hole e11 0,nth hole e11 1,nth hole e11 2,nth hole e11 3,nth hole e11 4,nth hole e11 5,nth hole e11 6,nth hole e11 7,nth hole e11 8,nth hole e11 9,nth hole e11 10,nth hole e11 11,nth hole e11 12,nth hole e11 13]] fun v14 =>
 chk (ab ao [v14] 0) (
 tv (pun .not v14) fun v15 =>
 Prg.ite (asBool v15) (
 ret (B false)) (
 call 50 [agg [y1],agg [y2,y3,y4],agg [nth hole e11 6,nth hole e11 7,nth hole e11 8,nth hole e11 9,nth hole e11 10,nth hole e11 11,nth hole e11 12,nth hole e11 13]] fun v16 =>
 chk (ab ao [v16] 0) (
 tv (pun .not v16) fun v17 =>
 Prg.ite (asBool v17) (
 ret (B false)) (
 jmp [0,0,1,1,1,0,0,1,0,0,1,0,1,1] (f33_1_S x0 (I 0) y1 y2 y3 y4 (nth hole e11 0) (nth hole e11 1) (nth hole e11 2) (nth hole e11 3) (nth hole e11 4) (nth hole e11 5) (nth hole e11 6) (nth hole e11 7) (nth hole e11 8) (nth hole e11 9) (nth hole e11 10) (nth hole e11 11) (nth hole e11 12) (nth hole e11 13))))))))) (
 ret (B true))
def f33_1  (x0 x1 y2 y3 y4 y5 y6 y7 y8 y9 y10 y11 y12 y13 y14 y15 y16 y17 y18 y19:TV):Prg TV :=
 tv (plen (.slice 50) y11) fun v18 =>
 tv (pbin (.int .i64) .lss x1 v18) fun v19 =>
 Prg.ite (asBool v19) (
 tvs (pidx 7 y11 x1) fun e20 =>
 chk (Nat.ble 7 (List.length e20)) (
 call 51 [agg [y2],agg [y3,y4,y5],agg [nth hole e20 0,nth hole e20 1,nth hole e20 2,nth hole e20 3,nth hole e20 4,nth hole e20 5,nth hole e20 6]] fun v21 =>
 chk (ab ao [v21] 0) (
 tv (pun .not v21) fun v22 =>
 Prg.ite (asBool v22) (
 ret (B false)) (
 tv (pbin (.int .i64) .add x1 (I 1)) fun v23 =>
 jmp [0,0,1,1,1,0,0,1,0,0,1,0,1,1] (f33_1_S x0 v23 y2 y3 y4 y5 y6 y7 y8 y9 y10 y11 y12 y13 y14 y15 y16 y17 y18 y19))))) (
 tv (pbin (.int .i64) .add x0 (I 1)) fun v24 =>
 jmp [0,0,1,0,1,1] (f33_0_S v24 y2 y3 y4 y5))
theorem f33_MR (x0 x1:TV):au prog 33 [x0,x1]=f33_M x0 x1:=by kernel_rfl
theorem f33_0_J  {x0 y1 y2 y3 y4:TV} {r:TV} (h:aa prog 33 (f33_0 x0 y1 y2 y3 y4) r):aa prog 33 (.jmp [0,0,1,0,1,1] (f33_0_S x0 y1 y2 y3 y4)) r:=aa.jmp (by kernel_rfl) h
theorem f33_1_J  {x0 x1 y2 y3 y4 y5 y6 y7 y8 y9 y10 y11 y12 y13 y14 y15 y16 y17 y18 y19:TV} {r:TV} (h:aa prog 33 (f33_1 x0 x1 y2 y3 y4 y5 y6 y7 y8 y9 y10 y11 y12 y13 y14 y15 y16 y17 y18 y19) r):aa prog 33 (.jmp [0,0,1,1,1,0,0,1,0,0,1,0,1,1] (f33_1_S x0 x1 y2 y3 y4 y5 y6 y7 y8 y9 y10 y11 y12 y13 y14 y15 y16 y17 y18 y19)) r:=aa.jmp (by kernel_rfl) h
def f34_0_S  (x0 y1 w2:TV):ASt:=⟨[Jk,Jk,Pt 0,Jk,Jk,Sr 1,AV.tv x0] ++ Rj 38,[Ct y1,Tr w2] ++ Rz 67,[]⟩
def f34_1_S  (x0 x1 y2 w3 w4:TV):ASt:=⟨[Jk,Jk,Pt 0,Jk,Jk,Sr 1,AV.tv x0,Sr 2,AV.tv x1] ++ Rj 36,[Ct y2,Tr w3,Tr w4] ++ Rz 66,[]⟩
def f34_M (x0 x1:TV):Prg TV :=
 chk (TV.isAgg x0 1) (
 call 52 [agg [cell x0 0],x1] fun v0 =>
 chk (ab zSl [v0] 0) (
 jmp [0,0,1,0,1,1] (f34_0_S (I 0) (cell x0 0) v0)))
def f34_0  (x0 y1 w2:TV):Prg TV :=
 tv (plen (.slice 3) w2) fun v1 =>
 tv (pbin (.int .i64) .lss x0 v1) fun v2 =>
 Prg.ite (asBool v2) (
 nat (slLen w2) fun n3 =>
 nat (af x0) fun n4 =>
 chk (Bool.and (slSize w2 1) (Nat.blt n4 n3)) (
 tvs (pel w2 n4) fun e5 =>
 chk (ab ct e5 0) (
 call 52 [agg [y1],nth hole e5 0] fun v6 =>
 chk (ab zSl [v6] 0) (
 jmp [0,0,1,1,0,0,1,0,0,1,0,1,1] (f34_1_S x0 (I 0) y1 w2 v6))))) (
 chk (bj w2) (
 ret w2))
def f34_1  (x0 x1 y2 w3 w4:TV):Prg TV :=
 tv (plen (.slice 3) w4) fun v7 =>
 tv (pbin (.int .i64) .lss x1 v7) fun v8 =>
 Prg.ite (asBool v8) (
 nat (slLen w4) fun n9 =>
 nat (af x1) fun n10 =>
 chk (Bool.and (slSize w4 1) (Nat.blt n10 n9)) (
 tvs (pel w4 n10) fun e11 =>
 chk (ab ct e11 0) (
 call 35 [frz w3,nth hole e11 0] fun v12 =>
 chk (ab ao [v12] 0) (
 tv (pun .not v12) fun v13 =>
 Prg.ite (asBool v13) (
 nat (slLen w4) fun n14 =>
 nat (af x1) fun n15 =>
 chk (Bool.and (slSize w4 1) (Nat.blt n15 n14)) (
 tvs (pel w4 n15) fun e16 =>
 chk (ab ct e16 0) (
 rws (pelems 1 (TV.sl true 1 (chunks 1 1 [nth hole e16 0]))) fun r17 =>
 tv (papp 1 w3 (jR r17)) fun v18 =>
 tv (pbin (.int .i64) .add x1 (I 1)) fun v19 =>
 jmp [0,0,1,1,0,0,1,0,0,1,0,1,1] (f34_1_S x0 v19 y2 v18 w4)))) (
 tv (pbin (.int .i64) .add x1 (I 1)) fun v20 =>
 jmp [0,0,1,1,0,0,1,0,0,1,0,1,1] (f34_1_S x0 v20 y2 w3 w4)))))) (
 tv (pbin (.int .i64) .add x0 (I 1)) fun v21 =>
 jmp [0,0,1,0,1,1] (f34_0_S v21 y2 w3))
theorem f34_MR (x0 x1:TV):au prog 34 [x0,x1]=f34_M x0 x1:=by kernel_rfl
theorem f34_0_J  {x0 y1 w2:TV} {r:TV} (h:aa prog 34 (f34_0 x0 y1 w2) r):aa prog 34 (.jmp [0,0,1,0,1,1] (f34_0_S x0 y1 w2)) r:=aa.jmp (by kernel_rfl) h
theorem f34_1_J  {x0 x1 y2 w3 w4:TV} {r:TV} (h:aa prog 34 (f34_1 x0 x1 y2 w3 w4) r):aa prog 34 (.jmp [0,0,1,1,0,0,1,0,0,1,0,1,1] (f34_1_S x0 x1 y2 w3 w4)) r:=aa.jmp (by kernel_rfl) h
def f35_0_S  (x0 x1 x2:TV):ASt:=⟨[AV.tv x0,AV.tv x1,Jk,Jk,Jk,AV.tv x2] ++ Rj 12,Rz 42,[]⟩
def f35_M (x0 x1:TV):Prg TV :=
 jmp [0,0,1,0,1] (f35_0_S x0 x1 (I 0))
def f35_0  (x0 x1 x2:TV):Prg TV :=
 tv (plen (.slice 3) x0) fun v0 =>
 tv (pbin (.int .i64) .lss x2 v0) fun v1 =>
 Prg.ite (asBool v1) (
 tvs (pidx 1 x0 x2) fun e2 =>
 chk (Nat.blt 0 (List.length e2)) (
 tv (pbin (.int .i64) .eql (nth hole e2 0) x1) fun v3 =>
 Prg.ite (asBool v3) (
 ret (B true)) (
 tv (pbin (.int .i64) .add x2 (I 1)) fun v4 =>
 jmp [0,0,1,0,1] (f35_0_S x0 x1 v4)))) (
 ret (B false))
theorem f35_MR (x0 x1:TV):au prog 35 [x0,x1]=f35_M x0 x1:=by kernel_rfl
theorem f35_0_J  {x0 x1 x2:TV} {r:TV} (h:aa prog 35 (f35_0 x0 x1 x2) r):aa prog 35 (.jmp [0,0,1,0,1] (f35_0_S x0 x1 x2)) r:=aa.jmp (by kernel_rfl) h
def f36_0_S  (x0 x1 x2 y3 y4 y5 y6:TV):ASt:=⟨Rj 5 ++ [Pt 0] ++ Rj 44 ++ [AV.tv x0,AV.tv x1,AV.tv x2] ++ Rj 8,[some (BC.cells [CA.t y3,CA.t y4,CA.t y5,CA.t y6])] ++ Rz 84,[]⟩
def f36_M (x0 x1:TV):Prg TV :=
 chk (TV.isAgg x0 1) (
 chk (TV.isAgg x1 3) (
 tv (pbin (.int .i64) .lss (cell x1 0) (I 0)) fun v0 =>
 Prg.ite (asBool v0) (
 ret (B false)) (
 tv (pbin (.int .i64) .gtr (cell x1 0) (I 8)) fun v1 =>
 Prg.ite (asBool v1) (
 ret (B false)) (
 tv (pbin (.int .i64) .lss (cell x1 1) (cell x1 0)) fun v2 =>
 Prg.ite (asBool v2) (
 ret (B false)) (
 tv (pbin (.int .i64) .gtr (cell x1 1) (I 256)) fun v3 =>
 Prg.ite (asBool v3) (
 ret (B false)) (
 tv (plen (.slice 46) (cell x1 2)) fun v4 =>
 tv (pbin (.int .i64) .lss v4 (I 1)) fun v5 =>
 Prg.ite (asBool v5) (
 ret (B false)) (
 tv (plen (.slice 46) (cell x1 2)) fun v6 =>
 tv (pbin (.int .i64) .gtr v6 (I 64)) fun v7 =>
 Prg.ite (asBool v7) (
 ret (B false)) (
 tvs (pidx 14 (cell x1 2) (I 0)) fun e8 =>
 chk (Nat.blt 0 (List.length e8)) (
 Prg.ite (asBool (nth hole e8 0)) (
 ret (B false)) (
 tv (plen (.slice 46) (cell x1 2)) fun v9 =>
 jmp [0,0,1,0,1,1,1,1] (f36_0_S (cell x1 2) v9 (I 0) (cell x0 0) (cell x1 0) (cell x1 1) (cell x1 2))))))))))))
def f36_0  (x0 x1 x2 y3 y4 y5 y6:TV):Prg TV :=
 tv (pbin (.int .i64) .lss x2 x1) fun v10 =>
 Prg.ite (asBool v10) (
 tvs (pidx 14 x0 x2) fun e11 =>
 chk (Nat.ble 14 (List.length e11)) (
 call 53 [agg [y3,y4,y5,y6],agg [nth hole e11 0,nth hole e11 1,nth hole e11 2,nth hole e11 3,nth hole e11 4,nth hole e11 5,nth hole e11 6,nth hole e11 7,nth hole e11 8,nth hole e11 9,nth hole e11 10,nth hole e11 11,nth hole e11 12,nth hole e11 13]] fun v12 =>
 chk (ab ao [v12] 0) (
 tv (pun .not v12) fun v13 =>
 Prg.ite (asBool v13) (
 ret (B false)) (
 tv (pbin (.int .i64) .add x2 (I 1)) fun v14 =>
 jmp [0,0,1,0,1,1,1,1] (f36_0_S x0 x1 v14 y3 y4 y5 y6))))) (
 ret (B true))
theorem f36_MR (x0 x1:TV):au prog 36 [x0,x1]=f36_M x0 x1:=by kernel_rfl
theorem f36_0_J  {x0 x1 x2 y3 y4 y5 y6:TV} {r:TV} (h:aa prog 36 (f36_0 x0 x1 x2 y3 y4 y5 y6) r):aa prog 36 (.jmp [0,0,1,0,1,1,1,1] (f36_0_S x0 x1 x2 y3 y4 y5 y6)) r:=aa.jmp (by kernel_rfl) h
def f37_M (x0:TV):Prg TV :=
 tv (pbin (.slice 48) .eql x0 (TV.lit aB)) fun v0 =>
 Prg.ite (asBool v0) (
 chk true (
 ret (TV.lit aB))) (
 tv (plen (.slice 48) x0) fun v1 =>
 nat (af v1) fun n2 =>
 nat (af v1) fun n3 =>
 chk (Bool.and (Nat.ble n2 n3) (Nat.ble n3 4294967296)) (
 rws (pelems 1 x0) fun r4 =>
 tv (pcopy 1 (TV.sl true 1 (List.replicate n2 [W 0])) r4) fun v5 =>
 nat (slLen (TV.sl true 1 (List.replicate n2 [W 0]))) fun n6 =>
 chk (bj v5) (
 ret v5)))
theorem f37_MR (x0:TV):au prog 37 [x0]=f37_M x0:=by kernel_rfl
def f38_M (x0:TV):Prg TV :=
 tv (pbin (.slice 50) .eql x0 (TV.lit aB)) fun v0 =>
 Prg.ite (asBool v0) (
 ret (TV.lit aB)) (
 tv (plen (.slice 50) x0) fun v1 =>
 nat (af v1) fun n2 =>
 nat (af v1) fun n3 =>
 chk (Bool.and (Nat.ble n2 n3) (Nat.ble n3 4294967296)) (
 rws (pelems 7 x0) fun r4 =>
 tv (pcopy 7 (TV.sl true 7 (List.replicate n2 [I 0,I 0,I 0,I 0,W 0,I 0,TV.lit aB])) r4) fun v5 =>
 nat (slLen (TV.sl true 7 (List.replicate n2 [I 0,I 0,I 0,I 0,W 0,I 0,TV.lit aB]))) fun n6 =>
 ret v5))
theorem f38_MR (x0:TV):au prog 38 [x0]=f38_M x0:=by kernel_rfl
def f39_M (x0:TV):Prg TV :=
 tv (pbin (.slice 3) .eql x0 (TV.lit aB)) fun v0 =>
 Prg.ite (asBool v0) (
 chk true (
 ret (TV.lit aB))) (
 tv (plen (.slice 3) x0) fun v1 =>
 nat (af v1) fun n2 =>
 nat (af v1) fun n3 =>
 chk (Bool.and (Nat.ble n2 n3) (Nat.ble n3 4294967296)) (
 rws (pelems 1 x0) fun r4 =>
 tv (pcopy 1 (TV.sl true 1 (List.replicate n2 [I 0])) r4) fun v5 =>
 nat (slLen (TV.sl true 1 (List.replicate n2 [I 0]))) fun n6 =>
 chk (bj v5) (
 ret v5)))
theorem f39_MR (x0:TV):au prog 39 [x0]=f39_M x0:=by kernel_rfl
def f41_M (c0 x0:TV):Prg TV :=
 chk (Nat.blt 0 (List.length [c0])) (
 tvs (pidx 3 c0 x0) fun e0 =>
 chk (Nat.ble 3 (List.length e0)) (
 call 42 [agg [nth hole e0 0,nth hole e0 1,nth hole e0 2]] fun v1 =>
 chk (ab zSl [v1] 0) (
 chk (bj v1) (
 ret v1))))
theorem f41_MR (c0 x0:TV):au prog 41 [x0,agg [c0]]=f41_M c0 x0:=by kernel_rfl
def f42_0_S  (y0 y1 y2 w3:TV):ASt:=⟨[Jk,Pt 0,Jk,Pt 1] ++ Rj 11,[some (BC.cells [CA.t y0,CA.t y1,CA.t y2]),some (BC.cells [CA.sref 2 0 []]),Tr w3] ++ Rz 36,[]⟩
def f42_1_S  (x0 x1 y2 y3 y4 w5:TV):ASt:=⟨[AV.one (CA.yl 0),Pt 0] ++ Rj 6 ++ [AV.tv x0,AV.tv x1] ++ Rj 52,[some (BC.cells [CA.t y2,CA.t y3,CA.t y4]),some (BC.cells [CA.sref 2 0 []]),Tr w5] ++ Rz 98,([Jk,Jk,Jk,Pt 1,Jk,Jk,AV.clo 43 [CA.ptr 0 0]] ++ Rj 8)⟩
def f42_2_S  (e0:List TV) (x1 x2 x3 x4 y5 y6 y7 w8:TV):ASt:=⟨[AV.one (CA.yl 0),Pt 0,Jk,Jk,AV.one (CA.ref e0 0),Jk,Jk,Jk,AV.tv x1,AV.tv x2] ++ Rj 10 ++ [AV.tv x3,AV.tv x4] ++ Rj 40,[some (BC.cells [CA.t y5,CA.t y6,CA.t y7]),some (BC.cells [CA.sref 2 0 []]),Tr w8] ++ Rz 98,([Jk,Jk,Jk,Pt 1,Jk,Jk,AV.clo 43 [CA.ptr 0 0]] ++ Rj 8)⟩
def f42_3_S  (e0:List TV) (x1 x2 y3 y4 y5 w6:TV):ASt:=⟨[AV.one (CA.yl 0),Pt 0,Jk,Jk,AV.one (CA.ref e0 0),Jk,Jk,Jk,AV.tv x1,AV.tv x2] ++ Rj 52,[some (BC.cells [CA.t y3,CA.t y4,CA.t y5]),some (BC.cells [CA.sref 2 0 []]),Tr w6] ++ Rz 98,([Jk,Jk,Jk,Pt 1,Jk,Jk,AV.clo 43 [CA.ptr 0 0]] ++ Rj 8)⟩
def f42_M (x0:TV):Prg TV :=
 chk (TV.isAgg x0 3) (
 chk true (
 jmp [1,1] (f42_0_S (cell x0 0) (cell x0 1) (cell x0 2) (TV.lit aB))))
def f42_0  (y0 y1 y2 w3:TV):Prg TV :=
 tv (plen (.slice 46) y2) fun v0 =>
 jmp [0,0,1,43,0,1,0,1,1] (f42_1_S v0 (I 0) y0 y1 y2 w3)
def f42_1  (x0 x1 y2 y3 y4 w5:TV):Prg TV :=
 tv (pbin (.int .i64) .lss x1 x0) fun v1 =>
 Prg.ite (asBool v1) (
 tvs (pidx 14 y4 x1) fun e2 =>
 chk (Nat.blt 5 (List.length e2)) (
 tv (plen (.slice 50) (nth hole e2 5)) fun v3 =>
 jmp [0,0,1,0,1,1,0,0,1,1,0,0,1,43,0,1,0,1,1] (f42_2_S e2 x0 x1 v3 (I 0) y2 y3 y4 w5))) (
 chk (bj w5) (
 ret w5))
def f42_2  (e0:List TV) (x1 x2 x3 x4 y5 y6 y7 w8:TV):Prg TV :=
 tv (pbin (.int .i64) .lss x4 x3) fun v4 =>
 Prg.ite (asBool v4) (
 chk (Nat.blt 5 (List.length e0)) (
 tvs (pidx 7 (nth hole e0 5) x4) fun e5 =>
 chk (Nat.blt 0 (List.length e5)) (
 tv (pbin (.int .i64) .eql (nth hole e5 0) (I 11)) fun v6 =>
 Prg.ite (asBool v6) (
 chk (Nat.blt 5 (List.length e0)) (
 tvs (pidx 7 (nth hole e0 5) x4) fun e7 =>
 chk (Nat.blt 5 (List.length e7)) (
 rws (pelems 1 (TV.sl true 1 (chunks 1 1 [nth hole e7 5]))) fun r8 =>
 tv (papp 1 w8 (jR r8)) fun v9 =>
 tv (pbin (.int .i64) .add x4 (I 1)) fun v10 =>
 jmp [0,0,1,0,1,1,0,0,1,1,0,0,1,43,0,1,0,1,1] (f42_2_S e0 x1 x2 x3 v10 y5 y6 y7 v9)))) (
 tv (pbin (.int .i64) .add x4 (I 1)) fun v11 =>
 jmp [0,0,1,0,1,1,0,0,1,1,0,0,1,43,0,1,0,1,1] (f42_2_S e0 x1 x2 x3 v11 y5 y6 y7 w8))))) (
 jmp [1,1,1,0,0,1,1,0,0,1,43,0,1,0,1,1] (f42_3_S e0 x1 x2 y5 y6 y7 w8))
def f42_3  (e0:List TV) (x1 x2 y3 y4 y5 w6:TV):Prg TV :=
 chk (Nat.blt 6 (List.length e0)) (
 tv (pbin (.int .i64) .eql (nth hole e0 6) (I 4)) fun v12 =>
 Prg.ite (asBool v12) (
 chk (Nat.blt 9 (List.length e0)) (
 rws (pelems 1 (TV.sl true 1 (chunks 1 1 [nth hole e0 9]))) fun r13 =>
 tv (papp 1 w6 (jR r13)) fun v14 =>
 tv (pbin (.int .i64) .add x2 (I 1)) fun v15 =>
 jmp [0,0,1,43,0,1,0,1,1] (f42_1_S x1 v15 y3 y4 y5 v14))) (
 tv (pbin (.int .i64) .add x2 (I 1)) fun v16 =>
 jmp [0,0,1,43,0,1,0,1,1] (f42_1_S x1 v16 y3 y4 y5 w6)))
theorem f42_MR (x0:TV):au prog 42 [x0]=f42_M x0:=by kernel_rfl
theorem f42_0_J  {y0 y1 y2 w3:TV} {r:TV} (h:aa prog 42 (f42_0 y0 y1 y2 w3) r):aa prog 42 (.jmp [1,1] (f42_0_S y0 y1 y2 w3)) r:=aa.jmp (by kernel_rfl) h
theorem f42_1_J  {x0 x1 y2 y3 y4 w5:TV} {r:TV} (h:aa prog 42 (f42_1 x0 x1 y2 y3 y4 w5) r):aa prog 42 (.jmp [0,0,1,43,0,1,0,1,1] (f42_1_S x0 x1 y2 y3 y4 w5)) r:=aa.jmp (by kernel_rfl) h
theorem f42_2_J  {e0:List TV} {x1 x2 x3 x4 y5 y6 y7 w8:TV} {r:TV} (h:aa prog 42 (f42_2 e0 x1 x2 x3 x4 y5 y6 y7 w8) r):aa prog 42 (.jmp [0,0,1,0,1,1,0,0,1,1,0,0,1,43,0,1,0,1,1] (f42_2_S e0 x1 x2 x3 x4 y5 y6 y7 w8)) r:=aa.jmp (by kernel_rfl) h
theorem f42_3_J  {e0:List TV} {x1 x2 y3 y4 y5 w6:TV} {r:TV} (h:aa prog 42 (f42_3 e0 x1 x2 y3 y4 y5 w6) r):aa prog 42 (.jmp [1,1,1,0,0,1,1,0,0,1,43,0,1,0,1,1] (f42_3_S e0 x1 x2 y3 y4 y5 w6)) r:=aa.jmp (by kernel_rfl) h
def f44_0_S  (x0 x1 x2:TV):ASt:=⟨[AV.tv x0,AV.tv x1,Jk,Jk,Jk,AV.tv x2] ++ Rj 20,Rz 50,[]⟩
def f44_M (x0 x1:TV):Prg TV :=
 tv (plen (.slice 3) x0) fun v0 =>
 tv (plen (.slice 3) x1) fun v1 =>
 tv (pbin (.int .i64) .neq v0 v1) fun v2 =>
 Prg.ite (asBool v2) (
 ret (B false)) (
 jmp [0,0,1,0,1,1] (f44_0_S x0 x1 (I 0)))
def f44_0  (x0 x1 x2:TV):Prg TV :=
 tv (plen (.slice 3) x0) fun v3 =>
 tv (pbin (.int .i64) .lss x2 v3) fun v4 =>
 Prg.ite (asBool v4) (
 tvs (pidx 1 x0 x2) fun e5 =>
 chk (Nat.blt 0 (List.length e5)) (
 tvs (pidx 1 x1 x2) fun e6 =>
 chk (Nat.blt 0 (List.length e6)) (
 tv (pbin (.int .i64) .neq (nth hole e5 0) (nth hole e6 0)) fun v7 =>
 Prg.ite (asBool v7) (
 ret (B false)) (
 tv (pbin (.int .i64) .add x2 (I 1)) fun v8 =>
 jmp [0,0,1,0,1,1] (f44_0_S x0 x1 v8))))) (
 ret (B true))
theorem f44_MR (x0 x1:TV):au prog 44 [x0,x1]=f44_M x0 x1:=by kernel_rfl
theorem f44_0_J  {x0 x1 x2:TV} {r:TV} (h:aa prog 44 (f44_0 x0 x1 x2) r):aa prog 44 (.jmp [0,0,1,0,1,1] (f44_0_S x0 x1 x2)) r:=aa.jmp (by kernel_rfl) h
def f45_0_S  (w0 y1 y2 y3 w4 w5 w6:TV):ASt:=⟨[Jk,Sr 0] ++ Rj 5 ++ [Pt 1] ++ Rj 22,[Tr w0,some (BC.cells [CA.fn1 56 2,CA.sref 3 0 [],CA.sref 4 0 [],CA.sref 5 0 []]),some (BC.cells [CA.t y1,CA.t y2,CA.t y3]),Tr w4,Tr w5,Tr w6] ++ Rz 65,Rj 17⟩
def f45_1_S  (x0 x1 w2 y3 y4 y5 w6 w7 w8:TV):ASt:=⟨Rj 7 ++ [Pt 0] ++ Rj 6 ++ [Sr 1,AV.tv x0,AV.tv x1] ++ Rj 13,[some (BC.cells [CA.fn1 56 2,CA.sref 3 0 [],CA.sref 4 0 [],CA.sref 5 0 []]),Tr w2,some (BC.cells [CA.t y3,CA.t y4,CA.t y5]),Tr w6,Tr w7,Tr w8] ++ Rz 65,Rj 17⟩
def f45_2_S  (x0 x1 w2 y3 y4 y5 w6 w7 w8:TV):ASt:=⟨Rj 7 ++ [Pt 0] ++ Rj 6 ++ [Sr 1,AV.tv x0,AV.tv x1] ++ Rj 13,[some (BC.cells [CA.fn1 56 2,CA.sref 3 0 [],CA.sref 4 0 [],CA.sref 5 0 []]),Tr w2,some (BC.cells [CA.t y3,CA.t y4,CA.t y5]),Tr w6,Tr w7,Tr w8] ++ Rz 65,Rj 17⟩
def f45_3_S  (x0 x1 w2:TV):ASt:=⟨[Sr 0,Jk,AV.tv x0,AV.tv x1] ++ Rj 24,[Tr w2] ++ Rz 68,([Jk,Jk,Jk,Sr 0] ++ Rj 13)⟩
def f45_M (x0:TV):Prg TV :=
 chk (TV.isAgg x0 3) (
 tv (plen (.slice 46) (cell x0 2)) fun v0 =>
 tv (pbin (.int .i64) .eql v0 (I 0)) fun v1 =>
 Prg.ite (asBool v1) (
 chk true (
 ret (TV.lit aB))) (
 tv (plen (.slice 46) (cell x0 2)) fun v2 =>
 nat (af v2) fun n3 =>
 nat (af v2) fun n4 =>
 chk (Bool.and (Nat.ble n3 n4) (Nat.ble n4 4294967296)) (
 chk true (
 chk true (
 jmp [1,1,12,0,1,1] (f45_0_S (TV.sl true 1 (chunks 1 1 [I 0])) (cell x0 0) (cell x0 1) (cell x0 2) (TV.sl true 1 (List.replicate n3 [B false])) (TV.lit aB) (TV.lit aB)))))))
def f45_0  (w0 y1 y2 y3 w4 w5 w6:TV):Prg TV :=
 tv (plen (.slice 3) w0) fun v5 =>
 jmp [0,0,1,0,1,1,12,0,1,1] (f45_1_S v5 (I 0) w0 y1 y2 y3 w4 (bD w5) w6)
def f45_1  (x0 x1 w2 y3 y4 y5 w6 w7 w8:TV):Prg TV :=
 tv (pbin (.int .i64) .lss x1 x0) fun v6 =>
 Prg.ite (asBool v6) (
 nat (slLen w2) fun n7 =>
 nat (af x1) fun n8 =>
 chk (Bool.and (slSize w2 1) (Nat.blt n8 n7)) (
 tvs (pel w2 n8) fun e9 =>
 chk (ab ct e9 0) (
 nat (slLen w6) fun n10 =>
 nat (af (nth hole e9 0)) fun n11 =>
 chk (Bool.and (slSize w6 1) (Nat.blt n11 n10)) (
 tvs (pel w6 n11) fun e12 =>
 chk (ab ao e12 0) (
 tv (pun .not (nth hole e12 0)) fun v13 =>
 Prg.ite (asBool v13) (
 nat (slLen w6) fun n14 =>
 nat (af (nth hole e9 0)) fun n15 =>
 chk (Bool.and (slSize w6 1) (Nat.blt n15 n14)) (
 tvs (pel w6 n15) fun e16 =>
 chk (ab ao e16 0) (
 tv (df [] w6 n15 0 [B true]) fun v17 =>
 call 56 [pt (nth hole e9 0),agg [y3,y4,y5]] fun v18 =>
 chk (ab zSl [v18] 0) (
 rws (pelems 2 (TV.sl true 2 (chunks 2 1 [nth hole e9 0,v18]))) fun r19 =>
 tv (papp 2 w7 r19) fun v20 =>
 jmp [0,0,1,1,0,0,1,1,0,0,1,0,1,1,12,0,1,1] (f45_2_S x0 x1 w2 y3 y4 y5 v17 (bD v20) w8))))) (
 jmp [0,0,1,1,0,0,1,1,0,0,1,0,1,1,12,0,1,1] (f45_2_S x0 x1 w2 y3 y4 y5 w6 (bD w7) w8))))))) (
 tv (plen (.slice 3) w8) fun v21 =>
 tv (pbin (.int .i64) .sub v21 (I 1)) fun v22 =>
 jmp [0,0,1,4,0,1,1,1] (f45_3_S (I 0) v22 w8))
def f45_2  (x0 x1 w2 y3 y4 y5 w6 w7 w8:TV):Prg TV :=
 tv (plen (.slice 109) w7) fun v23 =>
 tv (pbin (.int .i64) .gtr v23 (I 0)) fun v24 =>
 Prg.ite (asBool v24) (
 tv (plen (.slice 109) w7) fun v25 =>
 tv (pbin (.int .i64) .sub v25 (I 1)) fun v26 =>
 nat (slLen w7) fun n27 =>
 nat (af v26) fun n28 =>
 chk (Bool.and (slSize w7 2) (Nat.blt n28 n27)) (
 tvs (pel w7 n28) fun e29 =>
 chk (ab zSl e29 1) (
 tv (aR [(n28,1)] w7) fun v30 =>
 tv (plen (.slice 3) v30) fun v31 =>
 tv (pbin (.int .i64) .eql v31 (I 0)) fun v32 =>
 Prg.ite (asBool v32) (
 tv (plen (.slice 109) w7) fun v33 =>
 tv (pbin (.int .i64) .sub v33 (I 1)) fun v34 =>
 nat (slLen w7) fun n35 =>
 nat (af v34) fun n36 =>
 chk (Bool.and (slSize w7 2) (Nat.blt n36 n35)) (
 tvs (pel w7 n36) fun e37 =>
 chk (ab ct e37 0) (
 rws (pelems 1 (TV.sl true 1 (chunks 1 1 [nth hole e37 0]))) fun r38 =>
 tv (papp 1 w8 (jR r38)) fun v39 =>
 nat (slLen w7) fun n40 =>
 nat (af v34) fun n41 =>
 chk (Bool.and (Bool.and (slSize w7 2) (Nat.ble 0 (Option.getD (some n41) n40))) (Nat.ble (Option.getD (some n41) n40) n40)) (
 tv (fF 0 ((Option.getD (some n41) n40) - 0) w7) fun v42 =>
 jmp [0,0,1,1,0,0,1,1,0,0,1,0,1,1,12,0,1,1] (f45_2_S x0 x1 w2 y3 y4 y5 w6 (bD v42) v39))))) (
 tvs (pel w7 n28) fun e43 =>
 chk (ab zSl e43 1) (
 tv (aR [(n28,1)] w7) fun v44 =>
 nat (slLen v44) fun n45 =>
 nat (af (I 0)) fun n46 =>
 chk (Bool.and (slSize v44 1) (Nat.blt n46 n45)) (
 tv (aR [(n28,1)] w7) fun v47 =>
 tvs (pel v47 n46) fun e48 =>
 chk (ab ct e48 0) (
 tvs (pel w7 n28) fun e49 =>
 chk (ab zSl e49 1) (
 tv (aR [(n28,1)] w7) fun v50 =>
 nat (slLen v50) fun n51 =>
 nat (af (I 1)) fun n52 =>
 chk (Bool.and (Bool.and (slSize v50 1) (Nat.ble (Option.getD (some n52) 0) (Option.getD none n51))) (Nat.ble (Option.getD none n51) n51)) (
 tv (aR [(n28,1)] w7) fun v53 =>
 tv (fF (Option.getD (some n52) 0) ((Option.getD none n51) - (Option.getD (some n52) 0)) v53) fun v54 =>
 chk (TV.gS v54) (
 tvs (pel w7 n28) fun e55 =>
 chk (Bool.and (bQ zSl e55 1) (ab zSl [v54] 0)) (
 tv (df [] w7 n28 1 [v54]) fun v56 =>
 nat (slLen w6) fun n57 =>
 nat (af (nth hole e48 0)) fun n58 =>
 chk (Bool.and (slSize w6 1) (Nat.blt n58 n57)) (
 tvs (pel w6 n58) fun e59 =>
 chk (ab ao e59 0) (
 tv (pun .not (nth hole e59 0)) fun v60 =>
 Prg.ite (asBool v60) (
 nat (slLen w6) fun n61 =>
 nat (af (nth hole e48 0)) fun n62 =>
 chk (Bool.and (slSize w6 1) (Nat.blt n62 n61)) (
 tvs (pel w6 n62) fun e63 =>
 chk (ab ao e63 0) (
 tv (df [] w6 n62 0 [B true]) fun v64 =>
 call 56 [pt (nth hole e48 0),agg [y3,y4,y5]] fun v65 =>
 chk (ab zSl [v65] 0) (
 rws (pelems 2 (TV.sl true 2 (chunks 2 1 [nth hole e48 0,v65]))) fun r66 =>
 tv (papp 2 v56 r66) fun v67 =>
 jmp [0,0,1,1,0,0,1,1,0,0,1,0,1,1,12,0,1,1] (f45_2_S x0 x1 w2 y3 y4 y5 v64 (bD v67) w8))))) (
 jmp [0,0,1,1,0,0,1,1,0,0,1,0,1,1,12,0,1,1] (f45_2_S x0 x1 w2 y3 y4 y5 w6 (bD v56) w8))))))))))))))) (
 tv (pbin (.int .i64) .add x1 (I 1)) fun v68 =>
 jmp [0,0,1,0,1,1,12,0,1,1] (f45_1_S x0 v68 w2 y3 y4 y5 w6 (bD w7) w8))
def f45_3  (x0 x1 w2:TV):Prg TV :=
 tv (pbin (.int .i64) .lss x0 x1) fun v69 =>
 Prg.ite (asBool v69) (
 nat (slLen w2) fun n70 =>
 nat (af x1) fun n71 =>
 chk (Bool.and (slSize w2 1) (Nat.blt n71 n70)) (
 tvs (pel w2 n71) fun e72 =>
 chk (ab ct e72 0) (
 nat (slLen w2) fun n73 =>
 nat (af x0) fun n74 =>
 chk (Bool.and (slSize w2 1) (Nat.blt n74 n73)) (
 tvs (pel w2 n74) fun e75 =>
 chk (ab ct e75 0) (
 nat (slLen w2) fun n76 =>
 nat (af x0) fun n77 =>
 chk (Bool.and (slSize w2 1) (Nat.blt n77 n76)) (
 tvs (pel w2 n77) fun e78 =>
 chk (ab ct e78 0) (
 tv (df [] w2 n77 0 [nth hole e72 0]) fun v79 =>
 nat (slLen v79) fun n80 =>
 nat (af x1) fun n81 =>
 chk (Bool.and (slSize v79 1) (Nat.blt n81 n80)) (
 tvs (pel v79 n81) fun e82 =>
 chk (ab ct e82 0) (
 tv (df [] v79 n81 0 [nth hole e75 0]) fun v83 =>
 tv (pbin (.int .i64) .add x0 (I 1)) fun v84 =>
 tv (pbin (.int .i64) .sub x1 (I 1)) fun v85 =>
 jmp [0,0,1,4,0,1,1,1] (f45_3_S v84 v85 v83)))))))))) (
 chk (bj w2) (
 ret w2))
theorem f45_MR (x0:TV):au prog 45 [x0]=f45_M x0:=by kernel_rfl
theorem f45_0_J  {w0 y1 y2 y3 w4 w5 w6:TV} {r:TV} (h:aa prog 45 (f45_0 w0 y1 y2 y3 w4 w5 w6) r):aa prog 45 (.jmp [1,1,12,0,1,1] (f45_0_S w0 y1 y2 y3 w4 w5 w6)) r:=aa.jmp (by kernel_rfl) h
theorem f45_1_J  {x0 x1 w2 y3 y4 y5 w6 w7 w8:TV} {r:TV} (h:aa prog 45 (f45_1 x0 x1 w2 y3 y4 y5 w6 w7 w8) r):aa prog 45 (.jmp [0,0,1,0,1,1,12,0,1,1] (f45_1_S x0 x1 w2 y3 y4 y5 w6 w7 w8)) r:=aa.jmp (by kernel_rfl) h
theorem f45_2_J  {x0 x1 w2 y3 y4 y5 w6 w7 w8:TV} {r:TV} (h:aa prog 45 (f45_2 x0 x1 w2 y3 y4 y5 w6 w7 w8) r):aa prog 45 (.jmp [0,0,1,1,0,0,1,1,0,0,1,0,1,1,12,0,1,1] (f45_2_S x0 x1 w2 y3 y4 y5 w6 w7 w8)) r:=aa.jmp (by kernel_rfl) h
theorem f45_3_J  {x0 x1 w2:TV} {r:TV} (h:aa prog 45 (f45_3 x0 x1 w2) r):aa prog 45 (.jmp [0,0,1,4,0,1,1,1] (f45_3_S x0 x1 w2)) r:=aa.jmp (by kernel_rfl) h
def f46_0_S  (x0 y1 y2 y3 y4 y5 y6 y7 y8 y9 y10 y11 y12 y13 y14 w15:TV):ASt:=⟨[Jk,Pt 0,Jk,Jk,Sr 1] ++ Rj 13 ++ [AV.tv x0] ++ Rj 7,[some (BC.cells [CA.t y1,CA.t y2,CA.t y3,CA.t y4,CA.t y5,CA.t y6,CA.t y7,CA.t y8,CA.t y9,CA.t y10,CA.t y11,CA.t y12,CA.t y13,CA.t y14]),Tr w15] ++ Rz 48,[]⟩
def f46_M (x0:TV):Prg TV :=
 chk (TV.isAgg x0 14) (
 call 58 [cell x0 6] fun v0 =>
 chk (ab ct [v0] 0) (
 call 59 [v0,I 64] fun v1 =>
 chk (ab ao [v1] 0) (
 Prg.ite (asBool v1) (
 rws (pelems 1 (TV.sl true 1 (chunks 1 1 [cell x0 11]))) fun r2 =>
 tv (papp 1 (TV.lit aB) (jR r2)) fun v3 =>
 call 59 [v0,I 128] fun v4 =>
 chk (ab ao [v4] 0) (
 jmp [1,0,1,1,1,1] (f46_0_S v4 (cell x0 0) (cell x0 1) (cell x0 2) (cell x0 3) (cell x0 4) (cell x0 5) (cell x0 6) (cell x0 7) (cell x0 8) (cell x0 9) (cell x0 10) (cell x0 11) (cell x0 12) (cell x0 13) v3))) (
 call 59 [v0,I 128] fun v5 =>
 chk (ab ao [v5] 0) (
 chk true (
 jmp [1,0,1,1,1,1] (f46_0_S v5 (cell x0 0) (cell x0 1) (cell x0 2) (cell x0 3) (cell x0 4) (cell x0 5) (cell x0 6) (cell x0 7) (cell x0 8) (cell x0 9) (cell x0 10) (cell x0 11) (cell x0 12) (cell x0 13) (TV.lit aB))))))))
def f46_0  (x0 y1 y2 y3 y4 y5 y6 y7 y8 y9 y10 y11 y12 y13 y14 w15:TV):Prg TV :=
 Prg.ite (asBool x0) (
 rws (pelems 1 (TV.sl true 1 (chunks 1 1 [y13]))) fun r6 =>
 tv (papp 1 w15 (jR r6)) fun v7 =>
 chk (bj v7) (
 ret v7)) (
 chk (bj w15) (
 ret w15))
theorem f46_MR (x0:TV):au prog 46 [x0]=f46_M x0:=by kernel_rfl
theorem f46_0_J  {x0 y1 y2 y3 y4 y5 y6 y7 y8 y9 y10 y11 y12 y13 y14 w15:TV} {r:TV} (h:aa prog 46 (f46_0 x0 y1 y2 y3 y4 y5 y6 y7 y8 y9 y10 y11 y12 y13 y14 w15) r):aa prog 46 (.jmp [1,0,1,1,1,1] (f46_0_S x0 y1 y2 y3 y4 y5 y6 y7 y8 y9 y10 y11 y12 y13 y14 w15)) r:=aa.jmp (by kernel_rfl) h
def f47_0_S  (y0 y1 y2 w3:TV):ASt:=⟨[Jk,Jk,Pt 0,Jk,Jk,Jk,Sr 1] ++ Rj 24,[some (BC.cells [CA.t y0,CA.t y1,CA.t y2]),Tr w3] ++ Rz 53,[]⟩
def f47_1_S  (x0 x1 w2 y3 y4 y5:TV):ASt:=⟨[Sr 0,AV.clo 62 [CA.ptr 1 0]] ++ Rj 5 ++ [AV.tv x0,AV.tv x1] ++ Rj 10,[Tr w2,some (BC.cells [CA.t y3,CA.t y4,CA.t y5])] ++ Rz 114,(Rj 31 ++ [Sr 0,AV.clo 62 [CA.ptr 1 0]] ++ Rj 40)⟩
def f47_2_S  (x0 x1 w2 y3 y4 y5:TV):ASt:=⟨[Sr 0,AV.clo 62 [CA.ptr 1 0],Jk,Jk,Jk,AV.tv x0,AV.tv x1] ++ Rj 35,[Tr w2,some (BC.cells [CA.t y3,CA.t y4,CA.t y5])] ++ Rz 95,Rj 31⟩
def f47_3_S  (x0 w1:TV):ASt:=⟨[Sr 0] ++ Rj 4 ++ [AV.tv x0] ++ Rj 36,[Tr w1] ++ Rz 96,Rj 31⟩
def f47_M (x0 x1:TV):Prg TV :=
 chk (TV.isAgg x0 3) (
 call 60 [agg [cell x0 0,cell x0 1,cell x0 2],x1] fun v0 =>
 chk (ab ao [v0] 0) (
 tv (pun .not v0) fun v1 =>
 Prg.ite (asBool v1) (
 chk true (
 ret (TV.lit aB))) (
 tvs (pidx 14 (cell x0 2) x1) fun e2 =>
 chk (Nat.ble 14 (List.length e2)) (
 call 46 [agg [nth hole e2 0,nth hole e2 1,nth hole e2 2,nth hole e2 3,nth hole e2 4,nth hole e2 5,nth hole e2 6,nth hole e2 7,nth hole e2 8,nth hole e2 9,nth hole e2 10,nth hole e2 11,nth hole e2 12,nth hole e2 13]] fun v3 =>
 chk (ab zSl [v3] 0) (
 tv (pbin (.int .i64) .eql (nth hole e2 6) (I 4)) fun v4 =>
 Prg.ite (asBool v4) (
 rws (pelems 1 (TV.sl true 1 (chunks 1 1 [nth hole e2 13]))) fun r5 =>
 tv (papp 1 v3 (jR r5)) fun v6 =>
 jmp [1,1,1,1,1] (f47_0_S (cell x0 0) (cell x0 1) (cell x0 2) v6)) (
 jmp [1,1,1,1,1] (f47_0_S (cell x0 0) (cell x0 1) (cell x0 2) v3)))))))
def f47_0  (y0 y1 y2 w3:TV):Prg TV :=
 tv (plen (.slice 3) w3) fun v7 =>
 jmp [0,0,1,0,1,6,0,1,6,0,1,1,1,1,1] (f47_1_S v7 (I 0) w3 y0 y1 y2)
def f47_1  (x0 x1 w2 y3 y4 y5:TV):Prg TV :=
 tv (pbin (.int .i64) .lss x1 x0) fun v8 =>
 Prg.ite (asBool v8) (
 nat (slLen w2) fun n9 =>
 nat (af x1) fun n10 =>
 chk (Bool.and (slSize w2 1) (Nat.blt n10 n9)) (
 tvs (pel w2 n10) fun e11 =>
 chk (ab ct e11 0) (
 call 60 [agg [y3,y4,y5],nth hole e11 0] fun v12 =>
 chk (ab ao [v12] 0) (
 tv (pun .not v12) fun v13 =>
 Prg.ite (asBool v13) (
 tv (pbin (.int .i64) .eql x1 (TV.lit (Value.int IntKind.i64 (-1)))) fun v14 =>
 Prg.ite (asBool v14) (
 chk (bj w2) (
 ret w2)) (
 tv (pbin (.int .i64) .add x1 (I 1)) fun v15 =>
 jmp [0,0,1,0,1,1,1,6,0,1,1,1,1,1] (f47_2_S x1 v15 w2 y3 y4 y5))) (
 tv (pbin (.int .i64) .add x1 (I 1)) fun v16 =>
 jmp [0,0,1,0,1,6,0,1,6,0,1,1,1,1,1] (f47_1_S x0 v16 w2 y3 y4 y5)))))) (
 tv (pbin (.int .i64) .eql (TV.lit (Value.int IntKind.i64 (-1))) (TV.lit (Value.int IntKind.i64 (-1)))) fun v17 =>
 Prg.ite (asBool v17) (
 chk (bj w2) (
 ret w2)) (
 tv (pbin (.int .i64) .add (TV.lit (Value.int IntKind.i64 (-1))) (I 1)) fun v18 =>
 jmp [0,0,1,0,1,1,1,6,0,1,1,1,1,1] (f47_2_S (TV.lit (Value.int IntKind.i64 (-1))) v18 w2 y3 y4 y5)))
def f47_2  (x0 x1 w2 y3 y4 y5:TV):Prg TV :=
 tv (plen (.slice 3) w2) fun v19 =>
 tv (pbin (.int .i64) .lss x1 v19) fun v20 =>
 Prg.ite (asBool v20) (
 nat (slLen w2) fun n21 =>
 nat (af x1) fun n22 =>
 chk (Bool.and (slSize w2 1) (Nat.blt n22 n21)) (
 tvs (pel w2 n22) fun e23 =>
 chk (ab ct e23 0) (
 call 60 [agg [y3,y4,y5],nth hole e23 0] fun v24 =>
 chk (ab ao [v24] 0) (
 tv (pun .not v24) fun v25 =>
 tv (pun .not v25) fun v26 =>
 Prg.ite (asBool v26) (
 nat (slLen w2) fun n27 =>
 nat (af x0) fun n28 =>
 chk (Bool.and (slSize w2 1) (Nat.blt n28 n27)) (
 tvs (pel w2 n28) fun e29 =>
 chk (ab ct e29 0) (
 tv (df [] w2 n28 0 [nth hole e23 0]) fun v30 =>
 tv (pbin (.int .i64) .add x0 (I 1)) fun v31 =>
 tv (pbin (.int .i64) .add x1 (I 1)) fun v32 =>
 jmp [0,0,1,0,1,1,1,6,0,1,1,1,1,1] (f47_2_S v31 v32 v30 y3 y4 y5)))) (
 tv (pbin (.int .i64) .add x1 (I 1)) fun v33 =>
 jmp [0,0,1,0,1,1,1,6,0,1,1,1,1,1] (f47_2_S x0 v33 w2 y3 y4 y5)))))) (
 jmp [1,1,1,1,6,0,1,1,1,1,1] (f47_3_S x0 w2))
def f47_3  (x0 w1:TV):Prg TV :=
 nat (slLen w1) fun n34 =>
 nat (af x0) fun n35 =>
 chk (Bool.and (Bool.and (slSize w1 1) (Nat.ble (Option.getD (some n35) 0) (Option.getD none n34))) (Nat.ble (Option.getD none n34) n34)) (
 tv (pclear 1 [I 0] (Option.getD (some n35) 0) ((Option.getD none n34) - (Option.getD (some n35) 0)) w1) fun v36 =>
 nat (slLen v36) fun n37 =>
 nat (af x0) fun n38 =>
 chk (Bool.and (Bool.and (slSize v36 1) (Nat.ble 0 (Option.getD (some n38) n37))) (Nat.ble (Option.getD (some n38) n37) n37)) (
 tv (fF 0 ((Option.getD (some n38) n37) - 0) v36) fun v39 =>
 chk (bj v39) (
 ret v39)))
theorem f47_MR (x0 x1:TV):au prog 47 [x0,x1]=f47_M x0 x1:=by kernel_rfl
theorem f47_0_J  {y0 y1 y2 w3:TV} {r:TV} (h:aa prog 47 (f47_0 y0 y1 y2 w3) r):aa prog 47 (.jmp [1,1,1,1,1] (f47_0_S y0 y1 y2 w3)) r:=aa.jmp (by kernel_rfl) h
theorem f47_1_J  {x0 x1 w2 y3 y4 y5:TV} {r:TV} (h:aa prog 47 (f47_1 x0 x1 w2 y3 y4 y5) r):aa prog 47 (.jmp [0,0,1,0,1,6,0,1,6,0,1,1,1,1,1] (f47_1_S x0 x1 w2 y3 y4 y5)) r:=aa.jmp (by kernel_rfl) h
theorem f47_2_J  {x0 x1 w2 y3 y4 y5:TV} {r:TV} (h:aa prog 47 (f47_2 x0 x1 w2 y3 y4 y5) r):aa prog 47 (.jmp [0,0,1,0,1,1,1,6,0,1,1,1,1,1] (f47_2_S x0 x1 w2 y3 y4 y5)) r:=aa.jmp (by kernel_rfl) h
theorem f47_3_J  {x0 w1:TV} {r:TV} (h:aa prog 47 (f47_3 x0 w1) r):aa prog 47 (.jmp [1,1,1,1,6,0,1,1,1,1,1] (f47_3_S x0 w1)) r:=aa.jmp (by kernel_rfl) h
def f48_0_S  (x0 x1 y2 y3 y4 w5:TV):ASt:=⟨[Jk,AV.tv x0,Pt 0,Jk,Jk,Sr 1,AV.tv x1] ++ Rj 62,[some (BC.cells [CA.t y2,CA.t y3,CA.t y4]),Tr w5] ++ Rz 91,[]⟩
def f48_1_S  (x0 x1 x2 y3 y4 y5 w6:TV):ASt:=⟨[Jk,AV.tv x0,Pt 0,Jk,Jk,Sr 1,AV.tv x1,AV.tv x2] ++ Rj 61,[some (BC.cells [CA.t y3,CA.t y4,CA.t y5]),Tr w6] ++ Rz 91,[]⟩
def f48_2_S  (x0 x1 x2 x3 y4 y5 y6 w7 w8:TV):ASt:=⟨[Jk,AV.tv x0,Pt 0,Jk,Jk,Sr 1,AV.tv x1,AV.tv x2,Sr 2,AV.tv x3] ++ Rj 59,[some (BC.cells [CA.t y4,CA.t y5,CA.t y6]),Tr w7,Tr w8] ++ Rz 90,[]⟩
def f48_M (x0 x1:TV):Prg TV :=
 chk (TV.isAgg x0 3) (
 tv (plen (.slice 46) (cell x0 2)) fun v0 =>
 nat (af v0) fun n1 =>
 nat (af v0) fun n2 =>
 chk (Bool.and (Nat.ble n1 n2) (Nat.ble n2 4294967296)) (
 tv (plen (.slice 4) (TV.sl true 1 (List.replicate n1 [B false]))) fun v3 =>
 tv (pbin (.int .i64) .eql v3 (I 0)) fun v4 =>
 Prg.ite (asBool v4) (
 ret (TV.sl true 1 (List.replicate n1 [B false]))) (
 tv (pbin (.int .i64) .eql x1 (I 0)) fun v5 =>
 Prg.ite (asBool v5) (
 ret (TV.sl true 1 (List.replicate n1 [B false]))) (
 nat (slLen (TV.sl true 1 (List.replicate n1 [B false]))) fun n6 =>
 nat (af (I 0)) fun n7 =>
 chk (Bool.and (slSize (TV.sl true 1 (List.replicate n1 [B false])) 1) (Nat.blt n7 n6)) (
 tvs (pel (TV.sl true 1 (List.replicate n1 [B false])) n7) fun e8 =>
 chk (ab ao e8 0) (
 tv (df [] (TV.sl true 1 (List.replicate n1 [B false])) n7 0 [B true]) fun v9 =>
 jmp [0,0,1,0,1,1,1,1] (f48_0_S x1 (B true) (cell x0 0) (cell x0 1) (cell x0 2) v9)))))))
def f48_0  (x0 x1 y2 y3 y4 w5:TV):Prg TV :=
 Prg.ite (asBool x1) (
 jmp [0,0,1,1,0,1,0,0,1,0,1,1,1,1] (f48_1_S x0 (B false) (I 0) y2 y3 y4 w5)) (
 ret w5)
def f48_1  (x0 x1 x2 y3 y4 y5 w6:TV):Prg TV :=
 tv (plen (.slice 4) w6) fun v10 =>
 tv (pbin (.int .i64) .lss x2 v10) fun v11 =>
 Prg.ite (asBool v11) (
 call 31 [agg [y3,y4,y5],x2] fun v12 =>
 chk (ab zSl [v12] 0) (
 jmp [0,0,1,1,0,0,1,0,0,1,1,0,1,0,0,1,0,1,1,1,1] (f48_2_S x0 x1 x2 (I 0) y3 y4 y5 w6 v12))) (
 jmp [0,0,1,0,1,1,1,1] (f48_0_S x0 x1 y3 y4 y5 w6))
def f48_2  (x0 x1 x2 x3 y4 y5 y6 w7 w8:TV):Prg TV :=
 tv (plen (.slice 3) w8) fun v13 =>
 tv (pbin (.int .i64) .lss x3 v13) fun v14 =>
 Prg.ite (asBool v14) (
 nat (slLen w7) fun n15 =>
 nat (af x2) fun n16 =>
 chk (Bool.and (slSize w7 1) (Nat.blt n16 n15)) (
 tvs (pel w7 n16) fun e17 =>
 chk (ab ao e17 0) (
 Prg.ite (asBool (nth hole e17 0)) (
 nat (slLen w8) fun n18 =>
 nat (af x3) fun n19 =>
 chk (Bool.and (slSize w8 1) (Nat.blt n19 n18)) (
 tvs (pel w8 n19) fun e20 =>
 chk (ab ct e20 0) (
 tv (pbin (.int .i64) .neq (nth hole e20 0) x0) fun v21 =>
 Prg.ite (asBool v21) (
 nat (slLen w8) fun n22 =>
 nat (af x3) fun n23 =>
 chk (Bool.and (slSize w8 1) (Nat.blt n23 n22)) (
 tvs (pel w8 n23) fun e24 =>
 chk (ab ct e24 0) (
 nat (slLen w7) fun n25 =>
 nat (af (nth hole e24 0)) fun n26 =>
 chk (Bool.and (slSize w7 1) (Nat.blt n26 n25)) (
 tvs (pel w7 n26) fun e27 =>
 chk (ab ao e27 0) (
 tv (pun .not (nth hole e27 0)) fun v28 =>
 Prg.ite (asBool v28) (
 nat (slLen w8) fun n29 =>
 nat (af x3) fun n30 =>
 chk (Bool.and (slSize w8 1) (Nat.blt n30 n29)) (
 tvs (pel w8 n30) fun e31 =>
 chk (ab ct e31 0) (
 nat (slLen w7) fun n32 =>
 nat (af (nth hole e31 0)) fun n33 =>
 chk (Bool.and (slSize w7 1) (Nat.blt n33 n32)) (
 tvs (pel w7 n33) fun e34 =>
 chk (ab ao e34 0) (
 tv (df [] w7 n33 0 [B true]) fun v35 =>
 tv (pbin (.int .i64) .add x3 (I 1)) fun v36 =>
 jmp [0,0,1,1,0,0,1,0,0,1,1,0,1,0,0,1,0,1,1,1,1] (f48_2_S x0 (B true) x2 v36 y4 y5 y6 v35 w8)))))) (
 tv (pbin (.int .i64) .add x3 (I 1)) fun v37 =>
 jmp [0,0,1,1,0,0,1,0,0,1,1,0,1,0,0,1,0,1,1,1,1] (f48_2_S x0 x1 x2 v37 y4 y5 y6 w7 w8))))))) (
 tv (pbin (.int .i64) .add x3 (I 1)) fun v38 =>
 jmp [0,0,1,1,0,0,1,0,0,1,1,0,1,0,0,1,0,1,1,1,1] (f48_2_S x0 x1 x2 v38 y4 y5 y6 w7 w8))))) (
 tv (pbin (.int .i64) .add x3 (I 1)) fun v39 =>
 jmp [0,0,1,1,0,0,1,0,0,1,1,0,1,0,0,1,0,1,1,1,1] (f48_2_S x0 x1 x2 v39 y4 y5 y6 w7 w8))))) (
 tv (pbin (.int .i64) .add x2 (I 1)) fun v40 =>
 jmp [0,0,1,1,0,1,0,0,1,0,1,1,1,1] (f48_1_S x0 x1 v40 y4 y5 y6 w7))
theorem f48_MR (x0 x1:TV):au prog 48 [x0,x1]=f48_M x0 x1:=by kernel_rfl
theorem f48_0_J  {x0 x1 y2 y3 y4 w5:TV} {r:TV} (h:aa prog 48 (f48_0 x0 x1 y2 y3 y4 w5) r):aa prog 48 (.jmp [0,0,1,0,1,1,1,1] (f48_0_S x0 x1 y2 y3 y4 w5)) r:=aa.jmp (by kernel_rfl) h
theorem f48_1_J  {x0 x1 x2 y3 y4 y5 w6:TV} {r:TV} (h:aa prog 48 (f48_1 x0 x1 x2 y3 y4 y5 w6) r):aa prog 48 (.jmp [0,0,1,1,0,1,0,0,1,0,1,1,1,1] (f48_1_S x0 x1 x2 y3 y4 y5 w6)) r:=aa.jmp (by kernel_rfl) h
theorem f48_2_J  {x0 x1 x2 x3 y4 y5 y6 w7 w8:TV} {r:TV} (h:aa prog 48 (f48_2 x0 x1 x2 x3 y4 y5 y6 w7 w8) r):aa prog 48 (.jmp [0,0,1,1,0,0,1,0,0,1,1,0,1,0,0,1,0,1,1,1,1] (f48_2_S x0 x1 x2 x3 y4 y5 y6 w7 w8)) r:=aa.jmp (by kernel_rfl) h
def f49_0_S  (x0 y1 y2 y3 y4 y5 y6 y7:TV):ASt:=⟨[Jk,Jk,Pt 0,Jk,Jk,Pt 1,AV.tv x0] ++ Rj 69,[some (BC.cells [CA.t y1,CA.t y2,CA.t y3]),some (BC.cells [CA.t y4,CA.t y5,CA.t y6,CA.t y7])] ++ Rz 98,[]⟩
def f49_1_S  (x0 x1 y2 y3 y4 y5 y6 y7 y8:TV):ASt:=⟨[Jk,Jk,Pt 0,Jk,Jk,Pt 1,AV.tv x0,AV.tv x1] ++ Rj 68,[some (BC.cells [CA.t y2,CA.t y3,CA.t y4]),some (BC.cells [CA.t y5,CA.t y6,CA.t y7,CA.t y8])] ++ Rz 98,[]⟩
def f49_2_S  (y0 y1 y2 y3 y4 y5 y6:TV):ASt:=⟨[Jk,Jk,Pt 0,Jk,Jk,Pt 1] ++ Rj 70,[some (BC.cells [CA.t y0,CA.t y1,CA.t y2]),some (BC.cells [CA.t y3,CA.t y4,CA.t y5,CA.t y6])] ++ Rz 98,[]⟩
def f49_M (x0 x1:TV):Prg TV :=
 chk (TV.isAgg x0 3) (
 chk (TV.isAgg x1 14) (
 tv (pun .not (cell x1 0)) fun v0 =>
 Prg.ite (asBool v0) (
 tv (pbin (.int .i64) .eql (cell x1 1) (I 0)) fun v1 =>
 Prg.ite (asBool v1) (
 tv (plen (.slice 48) (cell x1 2)) fun v2 =>
 tv (pbin (.int .i64) .eql v2 (I 0)) fun v3 =>
 Prg.ite (asBool v3) (
 tv (pun .not (cell x1 3)) fun v4 =>
 Prg.ite (asBool v4) (
 tv (pun .not (cell x1 4)) fun v5 =>
 ret v5) (
 ret (B false))) (
 ret (B false))) (
 ret (B false))) (
 jmp [0,0,1,0,1,1,1] (f49_0_S (I 0) (cell x0 0) (cell x0 1) (cell x0 2) (cell x1 1) (cell x1 2) (cell x1 3) (cell x1 4)))))
def f49_0  (x0 y1 y2 y3 y4 y5 y6 y7:TV):Prg TV :=
 tv (plen (.slice 48) y5) fun v6 =>
 tv (pbin (.int .i64) .lss x0 v6) fun v7 =>
 Prg.ite (asBool v7) (
 tv (pbin (.int .i64) .geq x0 (I 8)) fun v8 =>
 Prg.ite (asBool v8) (
 ret (B false)) (
 jmp [0,0,1,1,0,0,1,0,0,1,0,1,1,1] (f49_1_S x0 (I 0) y1 y2 y3 y4 y5 y6 y7))) (
 jmp [1,1,1,1] (f49_2_S y1 y2 y3 y4 y5 y6 y7))
def f49_1  (x0 x1 y2 y3 y4 y5 y6 y7 y8:TV):Prg TV :=
 tv (pbin (.int .i64) .lss x1 x0) fun v9 =>
 Prg.ite (asBool v9) (
 tvs (pidx 1 y6 x1) fun e10 =>
 chk (Nat.blt 0 (List.length e10)) (
 tvs (pidx 1 y6 x0) fun e11 =>
 chk (Nat.blt 0 (List.length e11)) (
 tv (pbin (.int .u16) .eql (nth hole e10 0) (nth hole e11 0)) fun v12 =>
 Prg.ite (asBool v12) (
 ret (B false)) (
 tv (pbin (.int .i64) .add x1 (I 1)) fun v13 =>
 jmp [0,0,1,1,0,0,1,0,0,1,0,1,1,1] (f49_1_S x0 v13 y2 y3 y4 y5 y6 y7 y8))))) (
 tv (pbin (.int .i64) .add x0 (I 1)) fun v14 =>
 jmp [0,0,1,0,1,1,1] (f49_0_S v14 y2 y3 y4 y5 y6 y7 y8))
def f49_2  (y0 y1 y2 y3 y4 y5 y6:TV):Prg TV :=
 call 63 [y3,y1] fun v15 =>
 chk (ab ao [v15] 0) (
 Prg.ite (asBool v15) (
 tv (plen (.slice 48) y4) fun v16 =>
 tv (pbin (.int .i64) .gtr v16 (I 0)) fun v17 =>
 Prg.ite (asBool v17) (
 ret (B true)) (
 Prg.ite (asBool y5) (
 ret (B true)) (
 ret y6))) (
 ret (B false)))
theorem f49_MR (x0 x1:TV):au prog 49 [x0,x1]=f49_M x0 x1:=by kernel_rfl
theorem f49_0_J  {x0 y1 y2 y3 y4 y5 y6 y7:TV} {r:TV} (h:aa prog 49 (f49_0 x0 y1 y2 y3 y4 y5 y6 y7) r):aa prog 49 (.jmp [0,0,1,0,1,1,1] (f49_0_S x0 y1 y2 y3 y4 y5 y6 y7)) r:=aa.jmp (by kernel_rfl) h
theorem f49_1_J  {x0 x1 y2 y3 y4 y5 y6 y7 y8:TV} {r:TV} (h:aa prog 49 (f49_1 x0 x1 y2 y3 y4 y5 y6 y7 y8) r):aa prog 49 (.jmp [0,0,1,1,0,0,1,0,0,1,0,1,1,1] (f49_1_S x0 x1 y2 y3 y4 y5 y6 y7 y8)) r:=aa.jmp (by kernel_rfl) h
theorem f49_2_J  {y0 y1 y2 y3 y4 y5 y6:TV} {r:TV} (h:aa prog 49 (f49_2 y0 y1 y2 y3 y4 y5 y6) r):aa prog 49 (.jmp [1,1,1,1] (f49_2_S y0 y1 y2 y3 y4 y5 y6)) r:=aa.jmp (by kernel_rfl) h
def f50_0_S  (x0 x1 x2 x3 y4 y5 y6 y7 y8 y9 y10 y11 y12 y13 y14 y15:TV):ASt:=⟨[Jk,Jk,Jk,Pt 0,Pt 1,Pt 2,Jk,AV.tv x0,AV.tv x1,AV.tv x2] ++ Rj 30 ++ [AV.tv x3] ++ Rj 117,[Ct y4,some (BC.cells [CA.t y5,CA.t y6,CA.t y7]),some (BC.cells [CA.t y8,CA.t y9,CA.t y10,CA.t y11,CA.t y12,CA.t y13,CA.t y14,CA.t y15])] ++ Rz 179,[]⟩
def f50_1_S  (x0 x1 x2 x3 x4 y5 y6 y7 y8 y9 y10 y11 y12 y13 y14 y15 y16:TV):ASt:=⟨[Jk,Jk,Jk,Pt 0,Pt 1,Pt 2,Jk,AV.tv x0,AV.tv x1,AV.tv x2] ++ Rj 30 ++ [AV.tv x3,AV.tv x4] ++ Rj 116,[Ct y5,some (BC.cells [CA.t y6,CA.t y7,CA.t y8]),some (BC.cells [CA.t y9,CA.t y10,CA.t y11,CA.t y12,CA.t y13,CA.t y14,CA.t y15,CA.t y16])] ++ Rz 179,[]⟩
def f50_M (x0 x1 x2:TV):Prg TV :=
 chk (TV.isAgg x0 1) (
 chk (TV.isAgg x1 3) (
 chk (TV.isAgg x2 8) (
 call 63 [cell x2 1,cell x1 1] fun v0 =>
 chk (ab ao [v0] 0) (
 call 63 [cell x2 2,cell x1 1] fun v1 =>
 chk (ab ao [v1] 0) (
 tv (pbin (.int .i64) .eql (cell x2 2) (I 0)) fun v2 =>
 Prg.ite (asBool v2) (
 tv (pbin (.int .i64) .eql (cell x2 3) (I 0)) fun v3 =>
 Prg.ite (asBool v3) (
 tv (plen (.slice 3) (cell x2 4)) fun v4 =>
 tv (pbin (.int .i64) .eql v4 (I 0)) fun v5 =>
 Prg.ite (asBool v5) (
 tv (pbin (.int .i64) .eql (cell x2 7) (I 0)) fun v6 =>
 jmp [1,0,1,1,1] (f50_0_S v0 v1 v6 (cell x2 0) (cell x0 0) (cell x1 0) (cell x1 1) (cell x1 2) (cell x2 0) (cell x2 1) (cell x2 2) (cell x2 3) (cell x2 4) (cell x2 5) (cell x2 6) (cell x2 7))) (
 jmp [1,0,1,1,1] (f50_0_S v0 v1 (B false) (cell x2 0) (cell x0 0) (cell x1 0) (cell x1 1) (cell x1 2) (cell x2 0) (cell x2 1) (cell x2 2) (cell x2 3) (cell x2 4) (cell x2 5) (cell x2 6) (cell x2 7)))) (
 jmp [1,0,1,1,1] (f50_0_S v0 v1 (B false) (cell x2 0) (cell x0 0) (cell x1 0) (cell x1 1) (cell x1 2) (cell x2 0) (cell x2 1) (cell x2 2) (cell x2 3) (cell x2 4) (cell x2 5) (cell x2 6) (cell x2 7)))) (
 jmp [1,0,1,1,1] (f50_0_S v0 v1 (B false) (cell x2 0) (cell x0 0) (cell x1 0) (cell x1 1) (cell x1 2) (cell x2 0) (cell x2 1) (cell x2 2) (cell x2 3) (cell x2 4) (cell x2 5) (cell x2 6) (cell x2 7))))))))
def f50_0  (x0 x1 x2 x3 y4 y5 y6 y7 y8 y9 y10 y11 y12 y13 y14 y15:TV):Prg TV :=
 tv (pbin (.int .i64) .eql x3 (I 1)) fun v7 =>
 Prg.ite (asBool v7) (
 jmp [1,0,1,0,1,1,1] (f50_1_S x0 x1 x2 x3 v7 y4 y5 y6 y7 y8 y9 y10 y11 y12 y13 y14 y15)) (
 tv (pbin (.int .i64) .eql x3 (I 5)) fun v8 =>
 jmp [1,0,1,0,1,1,1] (f50_1_S x0 x1 x2 x3 v8 y4 y5 y6 y7 y8 y9 y10 y11 y12 y13 y14 y15))
def f50_1  (x0 x1 x2 x3 x4 y5 y6 y7 y8 y9 y10 y11 y12 y13 y14 y15 y16:TV):Prg TV :=
 Prg.ite (asBool x4) (
 Prg.ite (asBool x0) (
 Prg.ite (asBool x2) (
 tv (pbin (.int .i64) .eql y14 (I 0)) fun v9 =>
 Prg.ite (asBool v9) (
 tv (pbin (.int .i64) .eql y15 (I 0)) fun v10 =>
 ret v10) (
 ret (B false))) (
 ret (B false))) (
 ret (B false))) (
 tv (pbin (.int .i64) .eql x3 (I 2)) fun v11 =>
 Prg.ite (asBool v11) (
 tv (pbin (.int .i64) .eql y10 (I 0)) fun v12 =>
 Prg.ite (asBool v12) (
 Prg.ite (asBool x2) (
 call 64 [agg [y6,y7,y8],y14] fun v13 =>
 chk (ab ao [v13] 0) (
 Prg.ite (asBool v13) (
 tv (pbin (.int .i64) .eql y15 (I 0)) fun v14 =>
 ret v14) (
 ret (B false)))) (
 ret (B false))) (
 ret (B false))) (
 tv (pbin (.int .i64) .eql x3 (I 3)) fun v15 =>
 Prg.ite (asBool v15) (
 Prg.ite (asBool x0) (
 Prg.ite (asBool x2) (
 call 64 [agg [y6,y7,y8],y14] fun v16 =>
 chk (ab ao [v16] 0) (
 Prg.ite (asBool v16) (
 call 64 [agg [y6,y7,y8],y15] fun v17 =>
 chk (ab ao [v17] 0) (
 ret v17)) (
 ret (B false)))) (
 ret (B false))) (
 ret (B false))) (
 tv (pbin (.int .i64) .eql x3 (I 4)) fun v18 =>
 Prg.ite (asBool v18) (
 tv (pbin (.int .i64) .eql y10 (I 0)) fun v19 =>
 Prg.ite (asBool v19) (
 Prg.ite (asBool x1) (
 call 65 [agg [y5],agg [y6,y7,y8],y12,y13] fun v20 =>
 chk (ab ao [v20] 0) (
 Prg.ite (asBool v20) (
 call 64 [agg [y6,y7,y8],y14] fun v21 =>
 chk (ab ao [v21] 0) (
 Prg.ite (asBool v21) (
 tv (pbin (.int .i64) .eql y15 (I 0)) fun v22 =>
 Prg.ite (asBool v22) (
 tv (plen (.slice 46) y8) fun v23 =>
 call 63 [y16,v23] fun v24 =>
 chk (ab ao [v24] 0) (
 Prg.ite (asBool v24) (
 tvs (pidx 14 y8 y16) fun e25 =>
 chk (Nat.blt 0 (List.length e25)) (
 ret (nth hole e25 0))) (
 ret (B false)))) (
 ret (B false))) (
 ret (B false)))) (
 ret (B false)))) (
 ret (B false))) (
 ret (B false))) (
 tv (pbin (.int .i64) .eql x3 (I 6)) fun v26 =>
 Prg.ite (asBool v26) (
 tv (pbin (.int .i64) .eql y10 (I 0)) fun v27 =>
 Prg.ite (asBool v27) (
 Prg.ite (asBool x2) (
 tv (pbin (.int .i64) .eql y14 (I 0)) fun v28 =>
 Prg.ite (asBool v28) (
 tv (pbin (.int .i64) .eql y15 (I 0)) fun v29 =>
 ret v29) (
 ret (B false))) (
 ret (B false))) (
 ret (B false))) (
 ret (B false))))))
theorem f50_MR (x0 x1 x2:TV):au prog 50 [x0,x1,x2]=f50_M x0 x1 x2:=by kernel_rfl
theorem f50_0_J  {x0 x1 x2 x3 y4 y5 y6 y7 y8 y9 y10 y11 y12 y13 y14 y15:TV} {r:TV} (h:aa prog 50 (f50_0 x0 x1 x2 x3 y4 y5 y6 y7 y8 y9 y10 y11 y12 y13 y14 y15) r):aa prog 50 (.jmp [1,0,1,1,1] (f50_0_S x0 x1 x2 x3 y4 y5 y6 y7 y8 y9 y10 y11 y12 y13 y14 y15)) r:=aa.jmp (by kernel_rfl) h
theorem f50_1_J  {x0 x1 x2 x3 x4 y5 y6 y7 y8 y9 y10 y11 y12 y13 y14 y15 y16:TV} {r:TV} (h:aa prog 50 (f50_1 x0 x1 x2 x3 x4 y5 y6 y7 y8 y9 y10 y11 y12 y13 y14 y15 y16) r):aa prog 50 (.jmp [1,0,1,0,1,1,1] (f50_1_S x0 x1 x2 x3 x4 y5 y6 y7 y8 y9 y10 y11 y12 y13 y14 y15 y16)) r:=aa.jmp (by kernel_rfl) h
end Go.Ab.D13

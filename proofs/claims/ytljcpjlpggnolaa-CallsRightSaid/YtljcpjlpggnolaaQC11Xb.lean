import Derived.Test.YtljcpjlpggnolaaQC11T
set_option linter.all false
set_option maxRecDepth 100000
namespace Go.Ab.C11
open Go Go.Ab Go.Proofs
open Go.Ab.TV (hole cell comp isSl isSc isTup cellsL tup agg)
open Go.Ab.Prg (tv tvs rws nat chk call jmp ret)
def f10_0_S  (x0 x1 y2 w3:TV):ASt:=⟨[Jk,AV.tv x0,Pt 0,Jk,Jk,Sr 1,AV.tv x1] ++ Rj 30,[Ct y2,Tr w3] ++ Rz 59,[]⟩
def f10_M (x0 x1:TV):Prg TV :=
 chk (TV.isAgg x0 1) (
 chk true (
 jmp [0,0,1,0,1,1] (f10_0_S x1 (I 0) (cell x0 0) (TV.lit aK))))
def f10_0  (x0 x1 y2 w3:TV):Prg TV :=
 tv (plen (.slice 38) y2) fun v0 =>
 tv (pbin (.int .i64) .lss x1 v0) fun v1 =>
 Prg.ite (asBool v1) (
 tv (pbin (.int .i64) .geq x0 (I 0)) fun v2 =>
 Prg.ite (asBool v2) (
 tv (plen (.slice 38) y2) fun v3 =>
 tv (pbin (.int .i64) .lss x0 v3) fun v4 =>
 Prg.ite (asBool v4) (
 tvs (pidx 3 y2 x0) fun e5 =>
 chk (Nat.ble 3 (List.length e5)) (
 call 24 [agg [nth hole e5 0,nth hole e5 1,nth hole e5 2],x1] fun v6 =>
 chk (ab cF [v6] 0) (
 Prg.ite (asBool v6) (
 chk (TV.ga x1) (
 rws (pelems 1 (TV.sl true 1 (chunks 1 1 [x1]))) fun r7 =>
 tv (papp 1 w3 (j4 r7)) fun v8 =>
 tv (pbin (.int .i64) .add x1 (I 1)) fun v9 =>
 jmp [0,0,1,0,1,1] (f10_0_S x0 v9 y2 v8))) (
 tv (pbin (.int .i64) .add x1 (I 1)) fun v10 =>
 jmp [0,0,1,0,1,1] (f10_0_S x0 v10 y2 w3))))) (
 tv (pbin (.int .i64) .add x1 (I 1)) fun v11 =>
 jmp [0,0,1,0,1,1] (f10_0_S x0 v11 y2 w3))) (
 tv (pbin (.int .i64) .add x1 (I 1)) fun v12 =>
 jmp [0,0,1,0,1,1] (f10_0_S x0 v12 y2 w3))) (
 chk (bY w3) (
 ret w3))
theorem f10_MR (x0 x1:TV):cb prog 10 [x0,x1]=f10_M x0 x1:=by kernel_rfl
theorem f10_0_J  {x0 x1 y2 w3:TV} {r:TV} (h:aa prog 10 (f10_0 x0 x1 y2 w3) r):aa prog 10 (.jmp [0,0,1,0,1,1] (f10_0_S x0 x1 y2 w3)) r:=aa.jmp (by kernel_rfl) h
def f11_M (x0 x1 x2:TV):Prg TV :=
 chk (TV.isAgg x0 1) (
 call 18 [agg [cell x0 0],x2] fun v0 =>
 chk (ab cF [v0] 0) (
 Prg.ite (asBool v0) (
 call 25 [agg [cell x0 0],x1] fun v1 =>
 chk (ab zSl [v1] 0) (
 nat (slLen v1) fun n2 =>
 nat (ae x2) fun n3 =>
 chk (Bool.and (slSize v1 1) (Nat.blt n3 n2)) (
 tvs (pel v1 n3) fun e4 =>
 chk (ab cF e4 0) (
 ret (nth hole e4 0))))) (
 ret (B false))))
theorem f11_MR (x0 x1 x2:TV):cb prog 11 [x0,x1,x2]=f11_M x0 x1 x2:=by kernel_rfl
def f12_0_S  (x0 x1 x2:TV):ASt:=⟨[AV.tv x0,AV.tv x1,Jk,Jk,Jk,AV.tv x2] ++ Rj 12,Rz 42,[]⟩
def f12_M (x0 x1:TV):Prg TV :=
 jmp [0,0,1,0,1] (f12_0_S x0 x1 (I 0))
def f12_0  (x0 x1 x2:TV):Prg TV :=
 tv (plen (.slice 3) x0) fun v0 =>
 tv (pbin (.int .i64) .lss x2 v0) fun v1 =>
 Prg.ite (asBool v1) (
 tvs (pidx 1 x0 x2) fun e2 =>
 chk (Nat.blt 0 (List.length e2)) (
 tv (pbin (.int .i64) .eql (nth hole e2 0) x1) fun v3 =>
 Prg.ite (asBool v3) (
 ret (B true)) (
 tv (pbin (.int .i64) .add x2 (I 1)) fun v4 =>
 jmp [0,0,1,0,1] (f12_0_S x0 x1 v4)))) (
 ret (B false))
theorem f12_MR (x0 x1:TV):cb prog 12 [x0,x1]=f12_M x0 x1:=by kernel_rfl
theorem f12_0_J  {x0 x1 x2:TV} {r:TV} (h:aa prog 12 (f12_0 x0 x1 x2) r):aa prog 12 (.jmp [0,0,1,0,1] (f12_0_S x0 x1 x2)) r:=aa.jmp (by kernel_rfl) h
def f13_0_S  (x0 y1 w2:TV):ASt:=⟨[Jk,Jk,Pt 0,Jk,Jk,Sr 1,AV.tv x0] ++ Rj 38,[Ct y1,Tr w2] ++ Rz 67,[]⟩
def f13_1_S  (x0 x1 y2 w3 w4:TV):ASt:=⟨[Jk,Jk,Pt 0,Jk,Jk,Sr 1,AV.tv x0,Sr 2,AV.tv x1] ++ Rj 36,[Ct y2,Tr w3,Tr w4] ++ Rz 66,[]⟩
def f13_M (x0 x1:TV):Prg TV :=
 chk (TV.isAgg x0 1) (
 call 10 [agg [cell x0 0],x1] fun v0 =>
 chk (ab zSl [v0] 0) (
 jmp [0,0,1,0,1,1] (f13_0_S (I 0) (cell x0 0) v0)))
def f13_0  (x0 y1 w2:TV):Prg TV :=
 tv (plen (.slice 3) w2) fun v1 =>
 tv (pbin (.int .i64) .lss x0 v1) fun v2 =>
 Prg.ite (asBool v2) (
 nat (slLen w2) fun n3 =>
 nat (ae x0) fun n4 =>
 chk (Bool.and (slSize w2 1) (Nat.blt n4 n3)) (
 tvs (pel w2 n4) fun e5 =>
 chk (ab bF e5 0) (
 call 10 [agg [y1],nth hole e5 0] fun v6 =>
 chk (ab zSl [v6] 0) (
 jmp [0,0,1,1,0,0,1,0,0,1,0,1,1] (f13_1_S x0 (I 0) y1 w2 v6))))) (
 chk (bY w2) (
 ret w2))
def f13_1  (x0 x1 y2 w3 w4:TV):Prg TV :=
 tv (plen (.slice 3) w4) fun v7 =>
 tv (pbin (.int .i64) .lss x1 v7) fun v8 =>
 Prg.ite (asBool v8) (
 nat (slLen w4) fun n9 =>
 nat (ae x1) fun n10 =>
 chk (Bool.and (slSize w4 1) (Nat.blt n10 n9)) (
 tvs (pel w4 n10) fun e11 =>
 chk (ab bF e11 0) (
 call 12 [frz w3,nth hole e11 0] fun v12 =>
 chk (ab cF [v12] 0) (
 tv (pun .not v12) fun v13 =>
 Prg.ite (asBool v13) (
 nat (slLen w4) fun n14 =>
 nat (ae x1) fun n15 =>
 chk (Bool.and (slSize w4 1) (Nat.blt n15 n14)) (
 tvs (pel w4 n15) fun e16 =>
 chk (ab bF e16 0) (
 rws (pelems 1 (TV.sl true 1 (chunks 1 1 [nth hole e16 0]))) fun r17 =>
 tv (papp 1 w3 (j4 r17)) fun v18 =>
 tv (pbin (.int .i64) .add x1 (I 1)) fun v19 =>
 jmp [0,0,1,1,0,0,1,0,0,1,0,1,1] (f13_1_S x0 v19 y2 v18 w4)))) (
 tv (pbin (.int .i64) .add x1 (I 1)) fun v20 =>
 jmp [0,0,1,1,0,0,1,0,0,1,0,1,1] (f13_1_S x0 v20 y2 w3 w4)))))) (
 tv (pbin (.int .i64) .add x0 (I 1)) fun v21 =>
 jmp [0,0,1,0,1,1] (f13_0_S v21 y2 w3))
theorem f13_MR (x0 x1:TV):cb prog 13 [x0,x1]=f13_M x0 x1:=by kernel_rfl
theorem f13_0_J  {x0 y1 w2:TV} {r:TV} (h:aa prog 13 (f13_0 x0 y1 w2) r):aa prog 13 (.jmp [0,0,1,0,1,1] (f13_0_S x0 y1 w2)) r:=aa.jmp (by kernel_rfl) h
theorem f13_1_J  {x0 x1 y2 w3 w4:TV} {r:TV} (h:aa prog 13 (f13_1 x0 x1 y2 w3 w4) r):aa prog 13 (.jmp [0,0,1,1,0,0,1,0,0,1,0,1,1] (f13_1_S x0 x1 y2 w3 w4)) r:=aa.jmp (by kernel_rfl) h
def f14_M (x0:TV):Prg TV :=
 chk (TV.isAgg x0 1) (
 call 25 [agg [cell x0 0],I 0] fun v0 =>
 chk (ab zSl [v0] 0) (
 tv (plen (.slice 4) v0) fun v1 =>
 tv (pbin (.int .i64) .gtr v1 (I 0)) fun v2 =>
 Prg.ite (asBool v2) (
 nat (slLen v0) fun n3 =>
 nat (ae (I 0)) fun n4 =>
 chk (Bool.and (slSize v0 1) (Nat.blt n4 n3)) (
 tvs (pel v0 n4) fun e5 =>
 chk (ab cF e5 0) (
 tv (dN [] v0 n4 0 [B true]) fun v6 =>
 chk (bY v6) (
 ret v6)))) (
 chk (bY v0) (
 ret v0))))
theorem f14_MR (x0:TV):cb prog 14 [x0]=f14_M x0:=by kernel_rfl
def f15_M (x0:TV):Prg TV :=
 chk (TV.isAgg x0 1) (
 call 26 [agg [cell x0 0]] fun v0 =>
 chk (Bool.and (TV.isAgg v0 2) (ab z60 (cellsL true v0) 0)) (
 call 28 [agg [frz (cell v0 0),frz (cell v0 1)]] fun v1 =>
 chk (ab zSl [v1] 0) (
 call 27 [agg [frz (cell v0 0),frz (cell v0 1)],frz v1] fun v2 =>
 chk (ab zSl [v2] 0) (
 ret v2))))
theorem f15_MR (x0:TV):cb prog 15 [x0]=f15_M x0:=by kernel_rfl
def f16_0_S  (x0 y1 w2:TV):ASt:=⟨[Jk,Pt 0,Jk,Sr 1,AV.tv x0] ++ Rj 85,[Ct y1,Tr w2] ++ Rz 112,[]⟩
def f16_1_S  (w0:TV):ASt:=⟨[Jk,Jk,Jk,Sr 0] ++ Rj 86,[Tr w0] ++ Rz 113,[]⟩
def f16_2_S  (w0 w1 w2:TV):ASt:=⟨[Jk,Jk,Jk,Sr 0,Jk,Sr 1,Sr 2] ++ Rj 83,[Tr w0,Tr w1,Tr w2] ++ Rz 111,[]⟩
def f16_3_S  (x0 w1 w2 w3:TV):ASt:=⟨[Jk,Jk,Jk,Sr 0,Jk,Sr 1,Sr 2,AV.tv x0] ++ Rj 82,[Tr w1,Tr w2,Tr w3] ++ Rz 111,[]⟩
def f16_4_S  (x0 x1 x2 w3 w4 w5 w6:TV):ASt:=⟨[Jk,Jk,Jk,Sr 0,Jk,Sr 1,Sr 2,AV.tv x0,Sr 3,AV.tv x1,AV.tv x2] ++ Rj 79,[Tr w3,Tr w4,Tr w5,Tr w6] ++ Rz 110,[]⟩
def f16_5_S  (x0 x1 x2 x3 w4 w5 w6 w7:TV):ASt:=⟨[Jk,Jk,Jk,Sr 0,Jk,Sr 1,Sr 2,AV.tv x0,Sr 3,AV.tv x1,AV.tv x2] ++ Rj 53 ++ [AV.tv x3] ++ Rj 25,[Tr w4,Tr w5,Tr w6,Tr w7] ++ Rz 110,[]⟩
def f16_6_S  (x0 x1 w2 w3 w4 w5:TV):ASt:=⟨[Jk,Jk,Jk,Sr 0,Jk,Sr 1,Sr 2,AV.tv x0,Sr 3,AV.tv x1] ++ Rj 80,[Tr w2,Tr w3,Tr w4,Tr w5] ++ Rz 110,[]⟩
def f16_7_S  (x0 x1 x2 w3 w4 w5:TV):ASt:=⟨[Jk,Jk,Jk,Sr 0,Jk,Sr 1,Sr 2,AV.tv x0,AV.tv x1] ++ Rj 72 ++ [AV.tv x2] ++ Rj 8,[Tr w3,Tr w4,Tr w5] ++ Rz 111,[]⟩
def f16_M (x0:TV):Prg TV :=
 chk (TV.isAgg x0 1) (
 chk true (
 jmp [0,0,1,0,1,1] (f16_0_S (I 0) (cell x0 0) (TV.lit aK))))
def f16_0  (x0 y1 w2:TV):Prg TV :=
 tv (plen (.slice 38) y1) fun v0 =>
 tv (pbin (.int .i64) .lss x0 v0) fun v1 =>
 Prg.ite (asBool v1) (
 call 13 [agg [y1],x0] fun v2 =>
 chk (ab zSl [v2] 0) (
 rws (pelems 1 (TV.sl true 1 (chunks 1 1 [v2]))) fun r3 =>
 tv (papp 1 w2 r3) fun v4 =>
 tv (pbin (.int .i64) .add x0 (I 1)) fun v5 =>
 jmp [0,0,1,0,1,1] (f16_0_S v5 y1 v4))) (
 jmp [1,1,1] (f16_1_S w2))
def f16_1  (w0:TV):Prg TV :=
 chk true (
 chk true (
 jmp [0,0,0,1,1,1,1,1] (f16_2_S w0 (TV.lit aK) (TV.lit aK))))
def f16_2  (w0 w1 w2:TV):Prg TV :=
 tv (plen (.slice 3) w2) fun v6 =>
 tv (plen (.slice 28) w0) fun v7 =>
 tv (pbin (.int .i64) .lss v6 v7) fun v8 =>
 Prg.ite (asBool v8) (
 jmp [0,0,1,0,1,0,0,0,1,1,1,1,1] (f16_3_S (I 0) w0 w1 w2)) (
 ret w1)
def f16_3  (x0 w1 w2 w3:TV):Prg TV :=
 tv (plen (.slice 28) w1) fun v9 =>
 tv (pbin (.int .i64) .lss x0 v9) fun v10 =>
 Prg.ite (asBool v10) (
 call 12 [frz w3,x0] fun v11 =>
 chk (ab cF [v11] 0) (
 Prg.ite (asBool v11) (
 tv (pbin (.int .i64) .add x0 (I 1)) fun v12 =>
 jmp [0,0,1,0,1,0,0,0,1,1,1,1,1] (f16_3_S v12 w1 w2 w3)) (
 chk true (
 jmp [0,0,1,0,1,1,1,0,0,1,0,0,1,0,1,0,0,0,1,1,1,1,1] (f16_4_S x0 (B true) (I 0) w1 w2 w3 (TV.lit aK)))))) (
 jmp [0,0,0,1,1,1,1,1] (f16_2_S w1 w2 w3))
def f16_4  (x0 x1 x2 w3 w4 w5 w6:TV):Prg TV :=
 tv (plen (.slice 28) w3) fun v13 =>
 tv (pbin (.int .i64) .lss x2 v13) fun v14 =>
 Prg.ite (asBool v14) (
 nat (slLen w3) fun n15 =>
 nat (ae x2) fun n16 =>
 chk (Bool.and (slSize w3 1) (Nat.blt n16 n15)) (
 tvs (pel w3 n16) fun e17 =>
 chk (ab zSl e17 0) (
 tv (bD [(n16,0)] w3) fun v18 =>
 call 12 [frz v18,x0] fun v19 =>
 chk (ab cF [v19] 0) (
 tv (pbin (.int .i64) .eql x2 x0) fun v20 =>
 Prg.ite (asBool v20) (
 jmp [1,1,0,0,1,0,0,1,0,1,1,1,0,0,1,0,0,1,0,1,0,0,0,1,1,1,1,1] (f16_5_S x0 x1 x2 (B true) w3 w4 w5 w6)) (
 nat (slLen w3) fun n21 =>
 nat (ae x0) fun n22 =>
 chk (Bool.and (slSize w3 1) (Nat.blt n22 n21)) (
 tvs (pel w3 n22) fun e23 =>
 chk (ab zSl e23 0) (
 tv (bD [(n22,0)] w3) fun v24 =>
 call 12 [frz v24,x2] fun v25 =>
 chk (ab cF [v25] 0) (
 Prg.ite (asBool v25) (
 jmp [1,1,0,0,1,0,0,1,0,1,1,1,0,0,1,0,0,1,0,1,0,0,0,1,1,1,1,1] (f16_5_S x0 x1 x2 v19 w3 w4 w5 w6)) (
 jmp [1,1,0,0,1,0,0,1,0,1,1,1,0,0,1,0,0,1,0,1,0,0,0,1,1,1,1,1] (f16_5_S x0 x1 x2 (B false) w3 w4 w5 w6)))))))))) (
 jmp [1,1,1,1,0,0,1,0,0,1,0,1,0,0,0,1,1,1,1,1] (f16_6_S x0 x1 w3 w4 w5 w6))
def f16_5  (x0 x1 x2 x3 w4 w5 w6 w7:TV):Prg TV :=
 Prg.ite (asBool x3) (
 chk (TV.ga x2) (
 rws (pelems 1 (TV.sl true 1 (chunks 1 1 [x2]))) fun r26 =>
 tv (papp 1 w7 (j4 r26)) fun v27 =>
 tv (pbin (.int .i64) .add x2 (I 1)) fun v28 =>
 jmp [0,0,1,0,1,1,1,0,0,1,0,0,1,0,1,0,0,0,1,1,1,1,1] (f16_4_S x0 x1 v28 w4 w5 w6 v27))) (
 nat (slLen w4) fun n29 =>
 nat (ae x0) fun n30 =>
 chk (Bool.and (slSize w4 1) (Nat.blt n30 n29)) (
 tvs (pel w4 n30) fun e31 =>
 chk (ab zSl e31 0) (
 tv (bD [(n30,0)] w4) fun v32 =>
 call 12 [frz v32,x2] fun v33 =>
 chk (ab cF [v33] 0) (
 Prg.ite (asBool v33) (
 call 12 [frz w6,x2] fun v34 =>
 chk (ab cF [v34] 0) (
 tv (pun .not v34) fun v35 =>
 Prg.ite (asBool v35) (
 tv (pbin (.int .i64) .add x2 (I 1)) fun v36 =>
 jmp [0,0,1,0,1,1,1,0,0,1,0,0,1,0,1,0,0,0,1,1,1,1,1] (f16_4_S x0 (B false) v36 w4 w5 w6 w7)) (
 tv (pbin (.int .i64) .add x2 (I 1)) fun v37 =>
 jmp [0,0,1,0,1,1,1,0,0,1,0,0,1,0,1,0,0,0,1,1,1,1,1] (f16_4_S x0 x1 v37 w4 w5 w6 w7)))) (
 tv (pbin (.int .i64) .add x2 (I 1)) fun v38 =>
 jmp [0,0,1,0,1,1,1,0,0,1,0,0,1,0,1,0,0,0,1,1,1,1,1] (f16_4_S x0 x1 v38 w4 w5 w6 w7))))))
def f16_6  (x0 x1 w2 w3 w4 w5:TV):Prg TV :=
 jmp [1,1,1,1,1,0,0,1,0,0,1,0,1,0,0,0,1,1,1,1,1] (f16_7_S x0 (frz w5) x1 w2 w3 w4)
def f16_7  (x0 x1 x2 w3 w4 w5:TV):Prg TV :=
 Prg.ite (asBool x2) (
 chk (TV.ga x1) (
 rws (pelems 1 (TV.sl true 1 (chunks 1 1 [x1]))) fun r39 =>
 tv (papp 1 w4 r39) fun v40 =>
 rws (pelems 1 x1) fun r41 =>
 tv (papp 1 w5 r41) fun v42 =>
 jmp [0,0,0,1,1,1,1,1] (f16_2_S w3 v40 v42))) (
 tv (pbin (.int .i64) .add x0 (I 1)) fun v43 =>
 jmp [0,0,1,0,1,0,0,0,1,1,1,1,1] (f16_3_S v43 w3 w4 w5))
theorem f16_MR (x0:TV):cb prog 16 [x0]=f16_M x0:=by kernel_rfl
theorem f16_0_J  {x0 y1 w2:TV} {r:TV} (h:aa prog 16 (f16_0 x0 y1 w2) r):aa prog 16 (.jmp [0,0,1,0,1,1] (f16_0_S x0 y1 w2)) r:=aa.jmp (by kernel_rfl) h
theorem f16_1_J  {w0:TV} {r:TV} (h:aa prog 16 (f16_1 w0) r):aa prog 16 (.jmp [1,1,1] (f16_1_S w0)) r:=aa.jmp (by kernel_rfl) h
theorem f16_2_J  {w0 w1 w2:TV} {r:TV} (h:aa prog 16 (f16_2 w0 w1 w2) r):aa prog 16 (.jmp [0,0,0,1,1,1,1,1] (f16_2_S w0 w1 w2)) r:=aa.jmp (by kernel_rfl) h
theorem f16_3_J  {x0 w1 w2 w3:TV} {r:TV} (h:aa prog 16 (f16_3 x0 w1 w2 w3) r):aa prog 16 (.jmp [0,0,1,0,1,0,0,0,1,1,1,1,1] (f16_3_S x0 w1 w2 w3)) r:=aa.jmp (by kernel_rfl) h
theorem f16_4_J  {x0 x1 x2 w3 w4 w5 w6:TV} {r:TV} (h:aa prog 16 (f16_4 x0 x1 x2 w3 w4 w5 w6) r):aa prog 16 (.jmp [0,0,1,0,1,1,1,0,0,1,0,0,1,0,1,0,0,0,1,1,1,1,1] (f16_4_S x0 x1 x2 w3 w4 w5 w6)) r:=aa.jmp (by kernel_rfl) h
theorem f16_5_J  {x0 x1 x2 x3 w4 w5 w6 w7:TV} {r:TV} (h:aa prog 16 (f16_5 x0 x1 x2 x3 w4 w5 w6 w7) r):aa prog 16 (.jmp [1,1,0,0,1,0,0,1,0,1,1,1,0,0,1,0,0,1,0,1,0,0,0,1,1,1,1,1] (f16_5_S x0 x1 x2 x3 w4 w5 w6 w7)) r:=aa.jmp (by kernel_rfl) h
theorem f16_6_J  {x0 x1 w2 w3 w4 w5:TV} {r:TV} (h:aa prog 16 (f16_6 x0 x1 w2 w3 w4 w5) r):aa prog 16 (.jmp [1,1,1,1,0,0,1,0,0,1,0,1,0,0,0,1,1,1,1,1] (f16_6_S x0 x1 w2 w3 w4 w5)) r:=aa.jmp (by kernel_rfl) h
theorem f16_7_J  {x0 x1 x2 w3 w4 w5:TV} {r:TV} (h:aa prog 16 (f16_7 x0 x1 x2 w3 w4 w5) r):aa prog 16 (.jmp [1,1,1,1,1,0,0,1,0,0,1,0,1,0,0,0,1,1,1,1,1] (f16_7_S x0 x1 x2 w3 w4 w5)) r:=aa.jmp (by kernel_rfl) h
def f18_M (x0 x1:TV):Prg TV :=
 chk (TV.isAgg x0 1) (
 tv (pbin (.int .i64) .leq (I 0) x1) fun v0 =>
 Prg.ite (asBool v0) (
 tv (plen (.slice 38) (cell x0 0)) fun v1 =>
 tv (pbin (.int .i64) .lss x1 v1) fun v2 =>
 ret v2) (
 ret (B false)))
theorem f18_MR (x0 x1:TV):cb prog 18 [x0,x1]=f18_M x0 x1:=by kernel_rfl
def f20_0_S  (x0 x1 x2 w3:TV):ASt:=⟨[Jk,Jk,Jk,Sr 0] ++ Rj 5 ++ [AV.tv x0,AV.tv x1,AV.tv x2] ++ Rj 31,[Tr w3] ++ Rz 66,[]⟩
def f20_1_S  (x0 x1 x2 x3 x4 x5 w6 y7 y8 y9 y10 y11 y12 y13 y14 y15 y16 y17 y18 y19 y20:TV):ASt:=⟨[Jk,Jk,Jk,Sr 0,Jk,Pt 1,Jk,Jk,Jk,AV.tv x0,AV.tv x1,AV.tv x2] ++ Rj 4 ++ [AV.tv x3,AV.tv x4,AV.tv x5] ++ Rj 24,[Tr w6,some (BC.cells [CA.t y7,CA.t y8,CA.t y9,CA.t y10,CA.t y11,CA.t y12,CA.t y13,CA.t y14,CA.t y15,CA.t y16,CA.t y17,CA.t y18,CA.t y19,CA.t y20])] ++ Rz 65,[]⟩
def f20_2_S  (x0 x1 x2 w3 y4 y5 y6 y7 y8 y9 y10 y11 y12 y13 y14 y15 y16 y17:TV):ASt:=⟨[Jk,Jk,Jk,Sr 0,Jk,Pt 1,Jk,Jk,Jk,AV.tv x0,AV.tv x1,AV.tv x2] ++ Rj 31,[Tr w3,some (BC.cells [CA.t y4,CA.t y5,CA.t y6,CA.t y7,CA.t y8,CA.t y9,CA.t y10,CA.t y11,CA.t y12,CA.t y13,CA.t y14,CA.t y15,CA.t y16,CA.t y17])] ++ Rz 65,[]⟩
def f20_M (x0:TV):Prg TV :=
 chk (TV.isAgg x0 3) (
 tv (plen (.slice 49) (cell x0 2)) fun v0 =>
 chk true (
 jmp [0,0,1,0,1,1] (f20_0_S (cell x0 2) v0 (I 0) (TV.lit aK))))
def f20_0  (x0 x1 x2 w3:TV):Prg TV :=
 tv (pbin (.int .i64) .lss x2 x1) fun v1 =>
 Prg.ite (asBool v1) (
 tvs (pidx 14 x0 x2) fun e2 =>
 chk (Nat.ble 14 (List.length e2)) (
 tv (plen (.slice 41) (nth hole e2 5)) fun v3 =>
 jmp [0,0,1,0,1,0,0,1,1,0,0,1,0,1,1] (f20_1_S x0 x1 x2 (nth hole e2 5) v3 (I 0) w3 (nth hole e2 0) (nth hole e2 1) (nth hole e2 2) (nth hole e2 3) (nth hole e2 4) (nth hole e2 5) (nth hole e2 6) (nth hole e2 7) (nth hole e2 8) (nth hole e2 9) (nth hole e2 10) (nth hole e2 11) (nth hole e2 12) (nth hole e2 13)))) (
 chk (bY w3) (
 ret w3))
def f20_1  (x0 x1 x2 x3 x4 x5 w6 y7 y8 y9 y10 y11 y12 y13 y14 y15 y16 y17 y18 y19 y20:TV):Prg TV :=
 tv (pbin (.int .i64) .lss x5 x4) fun v4 =>
 Prg.ite (asBool v4) (
 tvs (pidx 7 x3 x5) fun e5 =>
 chk (Nat.ble 7 (List.length e5)) (
 tv (pbin (.int .i64) .eql (nth hole e5 0) (I 11)) fun v6 =>
 Prg.ite (asBool v6) (
 rws (pelems 1 (TV.sl true 1 (chunks 1 1 [nth hole e5 5]))) fun r7 =>
 tv (papp 1 w6 (j4 r7)) fun v8 =>
 tv (pbin (.int .i64) .add x5 (I 1)) fun v9 =>
 jmp [0,0,1,0,1,0,0,1,1,0,0,1,0,1,1] (f20_1_S x0 x1 x2 x3 x4 v9 v8 y7 y8 y9 y10 y11 y12 y13 y14 y15 y16 y17 y18 y19 y20)) (
 tv (pbin (.int .i64) .add x5 (I 1)) fun v10 =>
 jmp [0,0,1,0,1,0,0,1,1,0,0,1,0,1,1] (f20_1_S x0 x1 x2 x3 x4 v10 w6 y7 y8 y9 y10 y11 y12 y13 y14 y15 y16 y17 y18 y19 y20)))) (
 jmp [1,1,0,0,1,1,0,0,1,0,1,1] (f20_2_S x0 x1 x2 w6 y7 y8 y9 y10 y11 y12 y13 y14 y15 y16 y17 y18 y19 y20))
def f20_2  (x0 x1 x2 w3 y4 y5 y6 y7 y8 y9 y10 y11 y12 y13 y14 y15 y16 y17:TV):Prg TV :=
 tv (pbin (.int .i64) .eql y10 (I 4)) fun v11 =>
 Prg.ite (asBool v11) (
 rws (pelems 1 (TV.sl true 1 (chunks 1 1 [y13]))) fun r12 =>
 tv (papp 1 w3 (j4 r12)) fun v13 =>
 tv (pbin (.int .i64) .add x2 (I 1)) fun v14 =>
 jmp [0,0,1,0,1,1] (f20_0_S x0 x1 v14 v13)) (
 tv (pbin (.int .i64) .add x2 (I 1)) fun v15 =>
 jmp [0,0,1,0,1,1] (f20_0_S x0 x1 v15 w3))
theorem f20_MR (x0:TV):cb prog 20 [x0]=f20_M x0:=by kernel_rfl
theorem f20_0_J  {x0 x1 x2 w3:TV} {r:TV} (h:aa prog 20 (f20_0 x0 x1 x2 w3) r):aa prog 20 (.jmp [0,0,1,0,1,1] (f20_0_S x0 x1 x2 w3)) r:=aa.jmp (by kernel_rfl) h
theorem f20_1_J  {x0 x1 x2 x3 x4 x5 w6 y7 y8 y9 y10 y11 y12 y13 y14 y15 y16 y17 y18 y19 y20:TV} {r:TV} (h:aa prog 20 (f20_1 x0 x1 x2 x3 x4 x5 w6 y7 y8 y9 y10 y11 y12 y13 y14 y15 y16 y17 y18 y19 y20) r):aa prog 20 (.jmp [0,0,1,0,1,0,0,1,1,0,0,1,0,1,1] (f20_1_S x0 x1 x2 x3 x4 x5 w6 y7 y8 y9 y10 y11 y12 y13 y14 y15 y16 y17 y18 y19 y20)) r:=aa.jmp (by kernel_rfl) h
theorem f20_2_J  {x0 x1 x2 w3 y4 y5 y6 y7 y8 y9 y10 y11 y12 y13 y14 y15 y16 y17:TV} {r:TV} (h:aa prog 20 (f20_2 x0 x1 x2 w3 y4 y5 y6 y7 y8 y9 y10 y11 y12 y13 y14 y15 y16 y17) r):aa prog 20 (.jmp [1,1,0,0,1,1,0,0,1,0,1,1] (f20_2_S x0 x1 x2 w3 y4 y5 y6 y7 y8 y9 y10 y11 y12 y13 y14 y15 y16 y17)) r:=aa.jmp (by kernel_rfl) h
def f24_0_S  (x0 x1 y2 y3 y4:TV):ASt:=⟨[Jk,AV.tv x0,Pt 0,Jk,Jk,AV.tv x1] ++ Rj 63,[some (BC.cells [CA.t y2,CA.t y3,CA.t y4])] ++ Rz 92,[]⟩
def f24_1_S  (x0 x1 x2 y3 y4 y5:TV):ASt:=⟨[Jk,AV.tv x0,Pt 0,Jk,Jk,AV.tv x1,AV.tv x2] ++ Rj 62,[some (BC.cells [CA.t y3,CA.t y4,CA.t y5])] ++ Rz 92,[]⟩
def f24_2_S  (x0 x1 y2 y3 y4:TV):ASt:=⟨[Jk,AV.tv x0,Pt 0,Jk,Jk,AV.tv x1] ++ Rj 63,[some (BC.cells [CA.t y2,CA.t y3,CA.t y4])] ++ Rz 92,[]⟩
def f24_M (x0 x1:TV):Prg TV :=
 chk (TV.isAgg x0 3) (
 jmp [0,0,1,0,1] (f24_0_S x1 (I 0) (cell x0 0) (cell x0 1) (cell x0 2)))
def f24_0  (x0 x1 y2 y3 y4:TV):Prg TV :=
 tv (plen (.slice 49) y4) fun v0 =>
 tv (pbin (.int .i64) .lss x1 v0) fun v1 =>
 Prg.ite (asBool v1) (
 jmp [0,0,1,0,0,0,1,0,0,1,0,1] (f24_1_S x0 x1 (I 0) y2 y3 y4)) (
 ret (B false))
def f24_1  (x0 x1 x2 y3 y4 y5:TV):Prg TV :=
 tvs (pidx 14 y5 x1) fun e2 =>
 chk (Nat.blt 5 (List.length e2)) (
 tv (plen (.slice 41) (nth hole e2 5)) fun v3 =>
 tv (pbin (.int .i64) .lss x2 v3) fun v4 =>
 Prg.ite (asBool v4) (
 tvs (pidx 14 y5 x1) fun e5 =>
 chk (Nat.blt 5 (List.length e5)) (
 tvs (pidx 7 (nth hole e5 5) x2) fun e6 =>
 chk (Nat.blt 0 (List.length e6)) (
 tv (pbin (.int .i64) .eql (nth hole e6 0) (I 11)) fun v7 =>
 Prg.ite (asBool v7) (
 tvs (pidx 14 y5 x1) fun e8 =>
 chk (Nat.blt 5 (List.length e8)) (
 tvs (pidx 7 (nth hole e8 5) x2) fun e9 =>
 chk (Nat.blt 5 (List.length e9)) (
 tv (pbin (.int .i64) .eql (nth hole e9 5) x0) fun v10 =>
 Prg.ite (asBool v10) (
 ret (B true)) (
 tv (pbin (.int .i64) .add x2 (I 1)) fun v11 =>
 jmp [0,0,1,0,0,0,1,0,0,1,0,1] (f24_1_S x0 x1 v11 y3 y4 y5))))) (
 tv (pbin (.int .i64) .add x2 (I 1)) fun v12 =>
 jmp [0,0,1,0,0,0,1,0,0,1,0,1] (f24_1_S x0 x1 v12 y3 y4 y5))))) (
 jmp [1,0,0,1,0,0,1,0,1] (f24_2_S x0 x1 y3 y4 y5)))
def f24_2  (x0 x1 y2 y3 y4:TV):Prg TV :=
 tvs (pidx 14 y4 x1) fun e13 =>
 chk (Nat.blt 6 (List.length e13)) (
 tv (pbin (.int .i64) .eql (nth hole e13 6) (I 4)) fun v14 =>
 Prg.ite (asBool v14) (
 tvs (pidx 14 y4 x1) fun e15 =>
 chk (Nat.blt 9 (List.length e15)) (
 tv (pbin (.int .i64) .eql (nth hole e15 9) x0) fun v16 =>
 Prg.ite (asBool v16) (
 ret (B true)) (
 tv (pbin (.int .i64) .add x1 (I 1)) fun v17 =>
 jmp [0,0,1,0,1] (f24_0_S x0 v17 y2 y3 y4)))) (
 tv (pbin (.int .i64) .add x1 (I 1)) fun v18 =>
 jmp [0,0,1,0,1] (f24_0_S x0 v18 y2 y3 y4)))
theorem f24_MR (x0 x1:TV):cb prog 24 [x0,x1]=f24_M x0 x1:=by kernel_rfl
theorem f24_0_J  {x0 x1 y2 y3 y4:TV} {r:TV} (h:aa prog 24 (f24_0 x0 x1 y2 y3 y4) r):aa prog 24 (.jmp [0,0,1,0,1] (f24_0_S x0 x1 y2 y3 y4)) r:=aa.jmp (by kernel_rfl) h
theorem f24_1_J  {x0 x1 x2 y3 y4 y5:TV} {r:TV} (h:aa prog 24 (f24_1 x0 x1 x2 y3 y4 y5) r):aa prog 24 (.jmp [0,0,1,0,0,0,1,0,0,1,0,1] (f24_1_S x0 x1 x2 y3 y4 y5)) r:=aa.jmp (by kernel_rfl) h
theorem f24_2_J  {x0 x1 y2 y3 y4:TV} {r:TV} (h:aa prog 24 (f24_2 x0 x1 y2 y3 y4) r):aa prog 24 (.jmp [1,0,0,1,0,0,1,0,1] (f24_2_S x0 x1 y2 y3 y4)) r:=aa.jmp (by kernel_rfl) h
def f25_0_S  (y0 w1 w2:TV):ASt:=⟨[Jk,Jk,Pt 0,Jk,Jk,Sr 1,Sr 2] ++ Rj 36,[Ct y0,Tr w1,Tr w2] ++ Rz 64,[]⟩
def f25_M (x0 x1:TV):Prg TV :=
 chk (TV.isAgg x0 1) (
 tv (plen (.slice 38) (cell x0 0)) fun v0 =>
 nat (ae v0) fun n1 =>
 nat (ae v0) fun n2 =>
 chk (Bool.and (Nat.ble n1 n2) (Nat.ble n2 4294967296)) (
 call 9 [agg [cell x0 0],x1] fun v3 =>
 chk (ab zSl [v3] 0) (
 jmp [0,0,0,1,1,1] (f25_0_S (cell x0 0) (TV.sl true 1 (List.replicate n1 [B false])) v3))))
def f25_0  (y0 w1 w2:TV):Prg TV :=
 tv (plen (.slice 3) w2) fun v4 =>
 tv (pbin (.int .i64) .gtr v4 (I 0)) fun v5 =>
 Prg.ite (asBool v5) (
 tv (plen (.slice 3) w2) fun v6 =>
 tv (pbin (.int .i64) .sub v6 (I 1)) fun v7 =>
 nat (slLen w2) fun n8 =>
 nat (ae v7) fun n9 =>
 chk (Bool.and (slSize w2 1) (Nat.blt n9 n8)) (
 tvs (pel w2 n9) fun e10 =>
 chk (ab bF e10 0) (
 nat (slLen w2) fun n11 =>
 nat (ae v7) fun n12 =>
 chk (Bool.and (Bool.and (slSize w2 1) (Nat.ble 0 (Option.getD (some n12) n11))) (Nat.ble (Option.getD (some n12) n11) n11)) (
 nat (slLen w1) fun n13 =>
 nat (ae (nth hole e10 0)) fun n14 =>
 chk (Bool.and (slSize w1 1) (Nat.blt n14 n13)) (
 tvs (pel w1 n14) fun e15 =>
 chk (ab cF e15 0) (
 tv (pun .not (nth hole e15 0)) fun v16 =>
 Prg.ite (asBool v16) (
 nat (slLen w1) fun n17 =>
 nat (ae (nth hole e10 0)) fun n18 =>
 chk (Bool.and (slSize w1 1) (Nat.blt n18 n17)) (
 tvs (pel w1 n18) fun e19 =>
 chk (ab cF e19 0) (
 tv (dN [] w1 n18 0 [B true]) fun v20 =>
 call 9 [agg [y0],nth hole e10 0] fun v21 =>
 chk (ab zSl [v21] 0) (
 rws (pelems 1 v21) fun r22 =>
 tv (cX 0 ((Option.getD (some n12) n11) - 0) w2) fun v23 =>
 tv (papp 1 v23 (j4 r22)) fun v24 =>
 jmp [0,0,0,1,1,1] (f25_0_S y0 v20 v24))))) (
 tv (cX 0 ((Option.getD (some n12) n11) - 0) w2) fun v25 =>
 jmp [0,0,0,1,1,1] (f25_0_S y0 w1 v25)))))))) (
 chk (bY w1) (
 ret w1))
theorem f25_MR (x0 x1:TV):cb prog 25 [x0,x1]=f25_M x0 x1:=by kernel_rfl
theorem f25_0_J  {y0 w1 w2:TV} {r:TV} (h:aa prog 25 (f25_0 y0 w1 w2) r):aa prog 25 (.jmp [0,0,0,1,1,1] (f25_0_S y0 w1 w2)) r:=aa.jmp (by kernel_rfl) h
def f26_0_S  (x0 x1 y2 w3 w4:TV):ASt:=⟨[Jk,Pt 0,Pt 1,Pt 2] ++ Rj 14 ++ [AV.tv x0,AV.tv x1] ++ Rj 34,[Ct y2,some (BC.cells [CA.junk,CA.junk]),some (BC.cells [CA.sref 3 0 [],CA.sref 4 0 []]),Tr w3,Tr w4] ++ Rz 73,[]⟩
def f26_1_S  (x0 x1 x2:TV) (k3:Nat) (x4 x5 y6 w7 w8:TV):ASt:=⟨[Jk,Pt 0,Pt 1,Pt 2,AV.tv x0] ++ Rj 13 ++ [AV.tv x1,AV.tv x2] ++ Rj 13 ++ [AV.one (CA.sref 3 0 [(k3,0)]),AV.tv x4,AV.tv x5] ++ Rj 18,[Ct y6,some (BC.cells [CA.junk,CA.junk]),some (BC.cells [CA.sref 3 0 [],CA.sref 4 0 []]),Tr w7,Tr w8] ++ Rz 73,[]⟩
def f26_M (x0:TV):Prg TV :=
 chk (TV.isAgg x0 1) (
 tv (plen (.slice 38) (cell x0 0)) fun v0 =>
 nat (ae v0) fun n1 =>
 nat (ae v0) fun n2 =>
 chk (Bool.and (Nat.ble n1 n2) (Nat.ble n2 4294967296)) (
 tv (plen (.slice 38) (cell x0 0)) fun v3 =>
 nat (ae v3) fun n4 =>
 nat (ae v3) fun n5 =>
 chk (Bool.and (Nat.ble n4 n5) (Nat.ble n5 4294967296)) (
 tv (plen (.slice 38) (cell x0 0)) fun v6 =>
 jmp [0,0,1,0,1,1] (f26_0_S v6 (I 0) (cell x0 0) (TV.sl true 1 (List.replicate n1 [TV.lit aK])) (TV.sl true 1 (List.replicate n4 [TV.lit aK]))))))
def f26_0  (x0 x1 y2 w3 w4:TV):Prg TV :=
 tv (pbin (.int .i64) .lss x1 x0) fun v7 =>
 Prg.ite (asBool v7) (
 call 9 [agg [y2],x1] fun v8 =>
 chk (ab zSl [v8] 0) (
 nat (slLen w3) fun n9 =>
 nat (ae x1) fun n10 =>
 chk (Bool.and (slSize w3 1) (Nat.blt n10 n9)) (
 tvs (pel w3 n10) fun e11 =>
 chk (Bool.and (ei zSl e11 0) (ab zSl [v8] 0)) (
 tv (dN [] w3 n10 0 [v8]) fun v12 =>
 nat (slLen v12) fun n13 =>
 nat (ae x1) fun n14 =>
 chk (Bool.and (slSize v12 1) (Nat.blt n14 n13)) (
 tvs (pel v12 n14) fun e15 =>
 chk (ab zSl e15 0) (
 tv (bD [(n14,0)] v12) fun v16 =>
 tv (plen (.slice 3) v16) fun v17 =>
 jmp [0,0,1,1,1,0,0,1,1,0,0,1,0,1,1] (f26_1_S x1 x0 x1 n14 v17 (I 0) y2 v12 w4))))))) (
 chk (bY (agg [w3,w4])) (
 ret (agg [w3,w4])))
def f26_1  (x0 x1 x2:TV) (k3:Nat) (x4 x5 y6 w7 w8:TV):Prg TV :=
 tv (pbin (.int .i64) .lss x5 x4) fun v18 =>
 Prg.ite (asBool v18) (
 tv (bD [(k3,0)] w7) fun v19 =>
 nat (slLen v19) fun n20 =>
 nat (ae x5) fun n21 =>
 chk (Bool.and (slSize v19 1) (Nat.blt n21 n20)) (
 tv (bD [(k3,0)] w7) fun v22 =>
 tvs (pel v22 n21) fun e23 =>
 chk (ab bF e23 0) (
 nat (slLen w8) fun n24 =>
 nat (ae (nth hole e23 0)) fun n25 =>
 chk (Bool.and (slSize w8 1) (Nat.blt n25 n24)) (
 tvs (pel w8 n25) fun e26 =>
 chk (ab zSl e26 0) (
 chk (TV.ga x0) (
 rws (pelems 1 (TV.sl true 1 (chunks 1 1 [x0]))) fun r27 =>
 tv (bD [(n25,0)] w8) fun v28 =>
 tv (papp 1 v28 (j4 r27)) fun v29 =>
 tv (je [(n25,0)] w8 hole) fun v30 =>
 nat (slLen v30) fun n31 =>
 nat (ae (nth hole e23 0)) fun n32 =>
 chk (Bool.and (slSize v30 1) (Nat.blt n32 n31)) (
 tvs (pel v30 n32) fun e33 =>
 chk (Bool.and (ei zSl e33 0) (ab zSl [v29] 0)) (
 tv (dN [] v30 n32 0 [v29]) fun v34 =>
 tv (pbin (.int .i64) .add x5 (I 1)) fun v35 =>
 jmp [0,0,1,1,1,0,0,1,1,0,0,1,0,1,1] (f26_1_S x0 x1 x2 k3 x4 v35 y6 w7 v34))))))))) (
 tv (pbin (.int .i64) .add x2 (I 1)) fun v36 =>
 jmp [0,0,1,0,1,1] (f26_0_S x1 v36 y6 w7 w8))
theorem f26_MR (x0:TV):cb prog 26 [x0]=f26_M x0:=by kernel_rfl
theorem f26_0_J  {x0 x1 y2 w3 w4:TV} {r:TV} (h:aa prog 26 (f26_0 x0 x1 y2 w3 w4) r):aa prog 26 (.jmp [0,0,1,0,1,1] (f26_0_S x0 x1 y2 w3 w4)) r:=aa.jmp (by kernel_rfl) h
theorem f26_1_J  {x0 x1 x2:TV} {k3:Nat} {x4 x5 y6 w7 w8:TV} {r:TV} (h:aa prog 26 (f26_1 x0 x1 x2 k3 x4 x5 y6 w7 w8) r):aa prog 26 (.jmp [0,0,1,1,1,0,0,1,1,0,0,1,0,1,1] (f26_1_S x0 x1 x2 k3 x4 x5 y6 w7 w8)) r:=aa.jmp (by kernel_rfl) h
def f27_0_S  (x0 x1 x2 w3 w4:TV):ASt:=⟨[Jk,AV.tv x0,Jk,Jk,Jk,Sr 0,Sr 1] ++ Rj 17 ++ [Sr 0,AV.tv x1,AV.tv x2] ++ Rj 70,[Tr w3,Tr w4] ++ Rz 119,[]⟩
def f27_1_S  (x0 x1 x2:TV) (k3:Nat) (x4 x5 w6 w7:TV):ASt:=⟨[Jk,AV.tv x0,Jk,Jk,Jk,Sr 0,Sr 1] ++ Rj 17 ++ [Sr 0,AV.tv x1,AV.tv x2,Jk,Jk,Jk,AV.one (CA.sref 0 0 [(k3,0)]),AV.tv x4,AV.tv x5] ++ Rj 64,[Tr w6,Tr w7] ++ Rz 119,[]⟩
def f27_2_S  (x0 w1 w2:TV):ASt:=⟨[Jk,AV.tv x0,Jk,Jk,Jk,Sr 0,Sr 1] ++ Rj 90,[Tr w1,Tr w2] ++ Rz 119,[]⟩
def f27_3_S  (x0 w1 w2 w3:TV):ASt:=⟨[Jk,AV.tv x0,Jk,Jk,Jk,Sr 0,Sr 1] ++ Rj 4 ++ [Pt 2] ++ Rj 85,[Tr w1,Tr w2,some (BC.cells [CA.sref 3 0 []]),Tr w3] ++ Rz 117,[]⟩
def f27_4_S  (x0 x1 x2 w3 w4 w5:TV):ASt:=⟨[Jk,AV.tv x0,Jk,Jk,Jk,Sr 0,Sr 1] ++ Rj 4 ++ [Pt 2] ++ Rj 32 ++ [Sr 1,AV.tv x1,AV.tv x2] ++ Rj 50,[Tr w3,Tr w4,some (BC.cells [CA.sref 3 0 []]),Tr w5] ++ Rz 117,[]⟩
def f27_5_S  (x0 w1 w2 w3 x4 x5 x6:TV):ASt:=⟨[AV.one (CA.ifp 71 0),AV.tv x0] ++ Rj 21,[some (BC.cells [CA.sref 3 0 []]),Tr w1,Tr w2,Tr w3] ++ Rz 152,([Jk,AV.tv x4,Jk,Jk,Jk,Sr 1,Sr 2] ++ Rj 4 ++ [Pt 0] ++ Rj 32 ++ [Sr 2,AV.tv x5,AV.tv x6] ++ Rj 62)⟩
def f27_6_S  (x0 w1 w2 w3:TV):ASt:=⟨[Jk,AV.tv x0,Jk,Jk,Jk,Sr 0,Sr 1] ++ Rj 4 ++ [Pt 2] ++ Rj 85,[Tr w1,Tr w2,some (BC.cells [CA.sref 3 0 []]),Tr w3] ++ Rz 117,[]⟩
def f27_7_S  (x0 w1 w2 w3 w4:TV):ASt:=⟨[Jk,AV.tv x0,Jk,Jk,Jk,Sr 0,Sr 1] ++ Rj 4 ++ [Pt 2,Jk,Jk,Sr 3] ++ Rj 82,[Tr w1,Tr w2,some (BC.cells [CA.sref 4 0 []]),Tr w3,Tr w4] ++ Rz 116,[]⟩
def f27_8_S  (x0 x1 x2 w3 w4 w5 w6 x7:TV):ASt:=⟨[AV.one (CA.ifp 71 0),AV.tv x0,AV.tv x1] ++ Rj 4 ++ [AV.tv x2] ++ Rj 40,[some (BC.cells [CA.sref 4 0 []]),Tr w3,Tr w4,Tr w5,Tr w6] ++ Rz 179,([Jk,AV.tv x7,Jk,Jk,Jk,Sr 1,Sr 2] ++ Rj 4 ++ [Pt 0,Jk,Jk,Sr 3] ++ Rj 82 ++ [AV.one (CA.ifp 71 0)] ++ Rj 14)⟩
def f27_9_S  (x0 x1 w2 w3 w4 w5 x6:TV):ASt:=⟨[Jk,AV.tv x0] ++ Rj 5 ++ [AV.tv x1] ++ Rj 40,[Tr w2,Tr w3,some (BC.cells [CA.sref 4 0 []]),Tr w4,Tr w5] ++ Rz 179,([Jk,AV.tv x6,Jk,Jk,Jk,Sr 0,Sr 1] ++ Rj 4 ++ [Pt 2,Jk,Jk,Sr 3] ++ Rj 82 ++ [AV.one (CA.ifp 71 2)] ++ Rj 14)⟩
def f27_10_S  (x0 x1 x2 x3 w4 w5 w6 w7 x8:TV):ASt:=⟨[AV.one (CA.ifp 71 0),AV.tv x0,AV.tv x1] ++ Rj 4 ++ [AV.tv x2,Jk,AV.tv x3] ++ Rj 38,[some (BC.cells [CA.sref 4 0 []]),Tr w4,Tr w5,Tr w6,Tr w7] ++ Rz 179,([Jk,AV.tv x8,Jk,Jk,Jk,Sr 1,Sr 2] ++ Rj 4 ++ [Pt 0,Jk,Jk,Sr 3] ++ Rj 82 ++ [AV.one (CA.ifp 71 0)] ++ Rj 14)⟩
def f27_11_S  (x0:TV) (k1:Nat) (x2 x3 w4 w5 w6 w7:TV):ASt:=⟨[Jk,AV.tv x0,Jk,Jk,Jk,Sr 0,Sr 1] ++ Rj 4 ++ [Pt 2,Jk,Jk,Sr 3] ++ Rj 59 ++ [AV.one (CA.sref 0 0 [(k1,0)]),AV.tv x2,AV.tv x3] ++ Rj 20,[Tr w4,Tr w5,some (BC.cells [CA.sref 4 0 []]),Tr w6,Tr w7] ++ Rz 116,[]⟩
def f27_12_S  (x0 w1 w2 w3 w4 x5:TV) (k6:Nat) (x7 x8:TV):ASt:=⟨[AV.one (CA.ifp 71 0),AV.tv x0] ++ Rj 21,[some (BC.cells [CA.sref 4 0 []]),Tr w1,Tr w2,Tr w3,Tr w4] ++ Rz 151,([Jk,AV.tv x5,Jk,Jk,Jk,Sr 1,Sr 2] ++ Rj 4 ++ [Pt 0,Jk,Jk,Sr 3] ++ Rj 59 ++ [AV.one (CA.sref 1 0 [(k6,0)]),AV.tv x7,AV.tv x8] ++ Rj 32)⟩
def f27_M (x0 x1:TV):Prg TV :=
 chk (TV.isAgg x0 2) (
 call 32 [agg [cell x0 0,cell x0 1],x1] fun v0 =>
 chk (ab zSl [v0] 0) (
 tv (plen (.slice 28) x1) fun v1 =>
 nat (ae v1) fun n2 =>
 nat (ae v1) fun n3 =>
 chk (Bool.and (Nat.ble n2 n3) (Nat.ble n3 4294967296)) (
 tv (plen (.slice 28) v0) fun v4 =>
 jmp [0,0,1,0,1,1,1] (f27_0_S x1 v4 (I 0) v0 (TV.sl true 1 (List.replicate n2 [I 0]))))))
def f27_0  (x0 x1 x2 w3 w4:TV):Prg TV :=
 tv (pbin (.int .i64) .lss x2 x1) fun v5 =>
 Prg.ite (asBool v5) (
 nat (slLen w3) fun n6 =>
 nat (ae x2) fun n7 =>
 chk (Bool.and (slSize w3 1) (Nat.blt n7 n6)) (
 tvs (pel w3 n7) fun e8 =>
 chk (ab zSl e8 0) (
 tv (bD [(n7,0)] w3) fun v9 =>
 tv (plen (.slice 3) v9) fun v10 =>
 jmp [0,0,1,1,0,0,1,1,0,0,1,0,1,1,1] (f27_1_S x0 x1 x2 n7 v10 (I 0) w3 w4)))) (
 jmp [1,1,1,1] (f27_2_S x0 w3 w4))
def f27_1  (x0 x1 x2:TV) (k3:Nat) (x4 x5 w6 w7:TV):Prg TV :=
 tv (pbin (.int .i64) .lss x5 x4) fun v11 =>
 Prg.ite (asBool v11) (
 tv (bD [(k3,0)] w6) fun v12 =>
 nat (slLen v12) fun n13 =>
 nat (ae x5) fun n14 =>
 chk (Bool.and (slSize v12 1) (Nat.blt n14 n13)) (
 tv (bD [(k3,0)] w6) fun v15 =>
 tvs (pel v15 n14) fun e16 =>
 chk (ab bF e16 0) (
 nat (slLen w7) fun n17 =>
 nat (ae (nth hole e16 0)) fun n18 =>
 chk (Bool.and (slSize w7 1) (Nat.blt n18 n17)) (
 tvs (pel w7 n18) fun e19 =>
 chk (ab bF e19 0) (
 tv (pbin (.int .i64) .add (nth hole e19 0) (I 1)) fun v20 =>
 nat (slLen w7) fun n21 =>
 nat (ae (nth hole e16 0)) fun n22 =>
 chk (Bool.and (slSize w7 1) (Nat.blt n22 n21)) (
 tvs (pel w7 n22) fun e23 =>
 chk (ab bF e23 0) (
 tv (dN [] w7 n22 0 [v20]) fun v24 =>
 tv (pbin (.int .i64) .add x5 (I 1)) fun v25 =>
 jmp [0,0,1,1,0,0,1,1,0,0,1,0,1,1,1] (f27_1_S x0 x1 x2 k3 x4 v25 w6 v24)))))))) (
 tv (pbin (.int .i64) .add x2 (I 1)) fun v26 =>
 jmp [0,0,1,0,1,1,1] (f27_0_S x0 x1 v26 w6 w7))
def f27_2  (x0 w1 w2:TV):Prg TV :=
 chk true (
 jmp [1,1,1,1,1] (f27_3_S x0 w1 w2 (TV.lit aK)))
def f27_3  (x0 w1 w2 w3:TV):Prg TV :=
 tv (plen (.slice 3) w2) fun v27 =>
 jmp [0,0,1,0,1,1,1,1,1] (f27_4_S x0 v27 (I 0) w1 w2 w3)
def f27_4  (x0 x1 x2 w3 w4 w5:TV):Prg TV :=
 tv (pbin (.int .i64) .lss x2 x1) fun v28 =>
 Prg.ite (asBool v28) (
 nat (slLen w4) fun n29 =>
 nat (ae x2) fun n30 =>
 chk (Bool.and (slSize w4 1) (Nat.blt n30 n29)) (
 tvs (pel w4 n30) fun e31 =>
 chk (ab bF e31 0) (
 tv (pbin (.int .i64) .eql (nth hole e31 0) (I 0)) fun v32 =>
 Prg.ite (asBool v32) (
 tv (pifc 3 x2) fun v33 =>
 tv (pasrt 3 v33) fun v34 =>
 rws (pelems 1 (TV.sl true 1 (chunks 1 1 [v34]))) fun r35 =>
 tv (papp 1 w5 (j4 r35)) fun v36 =>
 tv (plen (.slice 3) v36) fun v37 =>
 tv (pbin (.int .i64) .sub v37 (I 1)) fun v38 =>
 jmp [0,0,10,1,8,0,1,1,0,0,1,1,0,0,1,0,1,1,1,1,1] (f27_5_S v38 w3 w4 v36 x0 x1 x2)) (
 tv (pbin (.int .i64) .add x2 (I 1)) fun v39 =>
 jmp [0,0,1,0,1,1,1,1,1] (f27_4_S x0 x1 v39 w3 w4 w5))))) (
 jmp [1,1,1,1,1,1] (f27_6_S x0 w3 w4 w5))
def f27_5  (x0 w1 w2 w3 x4 x5 x6:TV):Prg TV :=
 tv (pbin (.int .i64) .sub x0 (I 1)) fun v40 =>
 tv (pbin (.int .i64) .quo v40 (I 2)) fun v41 =>
 tv (pbin (.int .i64) .eql v41 x0) fun v42 =>
 Prg.ite (asBool v42) (
 tv (pbin (.int .i64) .add x6 (I 1)) fun v43 =>
 jmp [0,0,1,0,1,1,1,1,1] (f27_4_S x4 x5 v43 w1 w2 w3)) (
 nat (slLen w3) fun n44 =>
 nat (ae x0) fun n45 =>
 chk (Bool.and (slSize w3 1) (Nat.blt n45 n44)) (
 tvs (pel w3 n45) fun e46 =>
 chk (ab bF e46 0) (
 nat (slLen w3) fun n47 =>
 nat (ae v41) fun n48 =>
 chk (Bool.and (slSize w3 1) (Nat.blt n48 n47)) (
 tvs (pel w3 n48) fun e49 =>
 chk (ab bF e49 0) (
 tv (pbin (.int .i64) .lss (nth hole e46 0) (nth hole e49 0)) fun v50 =>
 tv (pun .not v50) fun v51 =>
 Prg.ite (asBool v51) (
 tv (pbin (.int .i64) .add x6 (I 1)) fun v52 =>
 jmp [0,0,1,0,1,1,1,1,1] (f27_4_S x4 x5 v52 w1 w2 w3)) (
 nat (slLen w3) fun n53 =>
 nat (ae x0) fun n54 =>
 chk (Bool.and (slSize w3 1) (Nat.blt n54 n53)) (
 tvs (pel w3 n54) fun e55 =>
 chk (ab bF e55 0) (
 nat (slLen w3) fun n56 =>
 nat (ae v41) fun n57 =>
 chk (Bool.and (slSize w3 1) (Nat.blt n57 n56)) (
 tvs (pel w3 n57) fun e58 =>
 chk (ab bF e58 0) (
 nat (slLen w3) fun n59 =>
 nat (ae v41) fun n60 =>
 chk (Bool.and (slSize w3 1) (Nat.blt n60 n59)) (
 tvs (pel w3 n60) fun e61 =>
 chk (ab bF e61 0) (
 tv (dN [] w3 n60 0 [nth hole e55 0]) fun v62 =>
 nat (slLen v62) fun n63 =>
 nat (ae x0) fun n64 =>
 chk (Bool.and (slSize v62 1) (Nat.blt n64 n63)) (
 tvs (pel v62 n64) fun e65 =>
 chk (ab bF e65 0) (
 tv (dN [] v62 n64 0 [nth hole e58 0]) fun v66 =>
 jmp [0,0,10,1,8,0,1,1,0,0,1,1,0,0,1,0,1,1,1,1,1] (f27_5_S v41 w1 w2 v66 x4 x5 x6)))))))))))))))
def f27_6  (x0 w1 w2 w3:TV):Prg TV :=
 chk true (
 jmp [0,0,0,1,1,1,1,1,1,1] (f27_7_S x0 w1 w2 (TV.lit aK) w3))
def f27_7  (x0 w1 w2 w3 w4:TV):Prg TV :=
 tv (plen (.slice 3) w4) fun v67 =>
 tv (pbin (.int .i64) .gtr v67 (I 0)) fun v68 =>
 Prg.ite (asBool v68) (
 tv (plen (.slice 3) w4) fun v69 =>
 tv (pbin (.int .i64) .sub v69 (I 1)) fun v70 =>
 nat (slLen w4) fun n71 =>
 nat (ae v70) fun n72 =>
 chk (Bool.and (slSize w4 1) (Nat.blt n72 n71)) (
 tvs (pel w4 n72) fun e73 =>
 chk (ab bF e73 0) (
 nat (slLen w4) fun n74 =>
 nat (ae (I 0)) fun n75 =>
 chk (Bool.and (slSize w4 1) (Nat.blt n75 n74)) (
 tvs (pel w4 n75) fun e76 =>
 chk (ab bF e76 0) (
 nat (slLen w4) fun n77 =>
 nat (ae (I 0)) fun n78 =>
 chk (Bool.and (slSize w4 1) (Nat.blt n78 n77)) (
 tvs (pel w4 n78) fun e79 =>
 chk (ab bF e79 0) (
 tv (dN [] w4 n78 0 [nth hole e73 0]) fun v80 =>
 nat (slLen v80) fun n81 =>
 nat (ae v70) fun n82 =>
 chk (Bool.and (slSize v80 1) (Nat.blt n82 n81)) (
 tvs (pel v80 n82) fun e83 =>
 chk (ab bF e83 0) (
 tv (dN [] v80 n82 0 [nth hole e76 0]) fun v84 =>
 jmp [0,0,0,1,1,6,0,1,1,1,4,0,0,1,0,0,0,1,1,1,1,1,1,1] (f27_8_S (I 0) v70 (I 0) w1 w2 w3 v84 x0)))))))))) (
 ret w3)
def f27_8  (x0 x1 x2 w3 w4 w5 w6 x7:TV):Prg TV :=
 tv (pbin (.int .i64) .mul (I 2) x2) fun v85 =>
 tv (pbin (.int .i64) .add v85 (I 1)) fun v86 =>
 tv (pbin (.int .i64) .geq v86 x1) fun v87 =>
 Prg.ite (asBool v87) (
 jmp [1,1,1,6,0,1,1,1,4,0,0,1,0,0,0,1,1,1,1,1,1,1] (f27_9_S x0 x2 w3 w4 w5 w6 x7)) (
 tv (pbin (.int .i64) .lss v86 (I 0)) fun v88 =>
 Prg.ite (asBool v88) (
 jmp [1,1,1,6,0,1,1,1,4,0,0,1,0,0,0,1,1,1,1,1,1,1] (f27_9_S x0 x2 w3 w4 w5 w6 x7)) (
 tv (pbin (.int .i64) .add v86 (I 1)) fun v89 =>
 tv (pbin (.int .i64) .lss v89 x1) fun v90 =>
 Prg.ite (asBool v90) (
 nat (slLen w6) fun n91 =>
 nat (ae v89) fun n92 =>
 chk (Bool.and (slSize w6 1) (Nat.blt n92 n91)) (
 tvs (pel w6 n92) fun e93 =>
 chk (ab bF e93 0) (
 nat (slLen w6) fun n94 =>
 nat (ae v86) fun n95 =>
 chk (Bool.and (slSize w6 1) (Nat.blt n95 n94)) (
 tvs (pel w6 n95) fun e96 =>
 chk (ab bF e96 0) (
 tv (pbin (.int .i64) .lss (nth hole e93 0) (nth hole e96 0)) fun v97 =>
 Prg.ite (asBool v97) (
 jmp [1,1,1,1,0,0,0,0,1,1,6,0,1,1,1,4,0,0,1,0,0,0,1,1,1,1,1,1,1] (f27_10_S x0 x1 x2 v89 w3 w4 w5 w6 x7)) (
 jmp [1,1,1,1,0,0,0,0,1,1,6,0,1,1,1,4,0,0,1,0,0,0,1,1,1,1,1,1,1] (f27_10_S x0 x1 x2 v86 w3 w4 w5 w6 x7))))))) (
 jmp [1,1,1,1,0,0,0,0,1,1,6,0,1,1,1,4,0,0,1,0,0,0,1,1,1,1,1,1,1] (f27_10_S x0 x1 x2 v86 w3 w4 w5 w6 x7))))
def f27_9  (x0 x1 w2 w3 w4 w5 x6:TV):Prg TV :=
 tv (pbin (.int .i64) .gtr x1 x0) fun v98 =>
 tv (plen (.slice 3) w5) fun v99 =>
 tv (pbin (.int .i64) .sub v99 (I 1)) fun v100 =>
 nat (slLen w5) fun n101 =>
 nat (ae v100) fun n102 =>
 chk (Bool.and (slSize w5 1) (Nat.blt n102 n101)) (
 tvs (pel w5 n102) fun e103 =>
 chk (ab bF e103 0) (
 nat (slLen w5) fun n104 =>
 nat (ae v100) fun n105 =>
 chk (Bool.and (Bool.and (slSize w5 1) (Nat.ble 0 (Option.getD (some n105) n104))) (Nat.ble (Option.getD (some n105) n104) n104)) (
 tv (pifc 3 (nth hole e103 0)) fun v106 =>
 tv (pasrt 3 v106) fun v107 =>
 tvs (pidx 1 x6 v107) fun e108 =>
 chk (Nat.blt 0 (List.length e108)) (
 rws (pelems 1 (TV.sl true 1 (chunks 1 1 [nth hole e108 0]))) fun r109 =>
 tv (papp 1 w4 r109) fun v110 =>
 nat (slLen w2) fun n111 =>
 nat (ae v107) fun n112 =>
 chk (Bool.and (slSize w2 1) (Nat.blt n112 n111)) (
 tvs (pel w2 n112) fun e113 =>
 chk (ab zSl e113 0) (
 tv (bD [(n112,0)] w2) fun v114 =>
 tv (plen (.slice 3) v114) fun v115 =>
 tv (cX 0 ((Option.getD (some n105) n104) - 0) w5) fun v116 =>
 jmp [0,0,1,1,1,0,1,0,0,0,1,1,1,1,1,1,1] (f27_11_S x6 n112 v115 (I 0) w2 w3 v110 v116)))))))
def f27_10  (x0 x1 x2 x3 w4 w5 w6 w7 x8:TV):Prg TV :=
 nat (slLen w7) fun n117 =>
 nat (ae x3) fun n118 =>
 chk (Bool.and (slSize w7 1) (Nat.blt n118 n117)) (
 tvs (pel w7 n118) fun e119 =>
 chk (ab bF e119 0) (
 nat (slLen w7) fun n120 =>
 nat (ae x2) fun n121 =>
 chk (Bool.and (slSize w7 1) (Nat.blt n121 n120)) (
 tvs (pel w7 n121) fun e122 =>
 chk (ab bF e122 0) (
 tv (pbin (.int .i64) .lss (nth hole e119 0) (nth hole e122 0)) fun v123 =>
 tv (pun .not v123) fun v124 =>
 Prg.ite (asBool v124) (
 jmp [1,1,1,6,0,1,1,1,4,0,0,1,0,0,0,1,1,1,1,1,1,1] (f27_9_S x0 x2 w4 w5 w6 w7 x8)) (
 nat (slLen w7) fun n125 =>
 nat (ae x3) fun n126 =>
 chk (Bool.and (slSize w7 1) (Nat.blt n126 n125)) (
 tvs (pel w7 n126) fun e127 =>
 chk (ab bF e127 0) (
 nat (slLen w7) fun n128 =>
 nat (ae x2) fun n129 =>
 chk (Bool.and (slSize w7 1) (Nat.blt n129 n128)) (
 tvs (pel w7 n129) fun e130 =>
 chk (ab bF e130 0) (
 nat (slLen w7) fun n131 =>
 nat (ae x2) fun n132 =>
 chk (Bool.and (slSize w7 1) (Nat.blt n132 n131)) (
 tvs (pel w7 n132) fun e133 =>
 chk (ab bF e133 0) (
 tv (dN [] w7 n132 0 [nth hole e127 0]) fun v134 =>
 nat (slLen v134) fun n135 =>
 nat (ae x3) fun n136 =>
 chk (Bool.and (slSize v134 1) (Nat.blt n136 n135)) (
 tvs (pel v134 n136) fun e137 =>
 chk (ab bF e137 0) (
 tv (dN [] v134 n136 0 [nth hole e130 0]) fun v138 =>
 jmp [0,0,0,1,1,6,0,1,1,1,4,0,0,1,0,0,0,1,1,1,1,1,1,1] (f27_8_S x0 x1 x3 w4 w5 w6 v138 x8))))))))))))))
def f27_11  (x0:TV) (k1:Nat) (x2 x3 w4 w5 w6 w7:TV):Prg TV :=
 tv (pbin (.int .i64) .lss x3 x2) fun v139 =>
 Prg.ite (asBool v139) (
 tv (bD [(k1,0)] w4) fun v140 =>
 nat (slLen v140) fun n141 =>
 nat (ae x3) fun n142 =>
 chk (Bool.and (slSize v140 1) (Nat.blt n142 n141)) (
 tv (bD [(k1,0)] w4) fun v143 =>
 tvs (pel v143 n142) fun e144 =>
 chk (ab bF e144 0) (
 nat (slLen w5) fun n145 =>
 nat (ae (nth hole e144 0)) fun n146 =>
 chk (Bool.and (slSize w5 1) (Nat.blt n146 n145)) (
 tvs (pel w5 n146) fun e147 =>
 chk (ab bF e147 0) (
 tv (pbin (.int .i64) .sub (nth hole e147 0) (I 1)) fun v148 =>
 nat (slLen w5) fun n149 =>
 nat (ae (nth hole e144 0)) fun n150 =>
 chk (Bool.and (slSize w5 1) (Nat.blt n150 n149)) (
 tvs (pel w5 n150) fun e151 =>
 chk (ab bF e151 0) (
 tv (dN [] w5 n150 0 [v148]) fun v152 =>
 nat (slLen v152) fun n153 =>
 nat (ae (nth hole e144 0)) fun n154 =>
 chk (Bool.and (slSize v152 1) (Nat.blt n154 n153)) (
 tvs (pel v152 n154) fun e155 =>
 chk (ab bF e155 0) (
 tv (pbin (.int .i64) .eql (nth hole e155 0) (I 0)) fun v156 =>
 Prg.ite (asBool v156) (
 tv (pifc 3 (nth hole e144 0)) fun v157 =>
 tv (pasrt 3 v157) fun v158 =>
 rws (pelems 1 (TV.sl true 1 (chunks 1 1 [v158]))) fun r159 =>
 tv (papp 1 w7 (j4 r159)) fun v160 =>
 tv (plen (.slice 3) v160) fun v161 =>
 tv (pbin (.int .i64) .sub v161 (I 1)) fun v162 =>
 jmp [0,0,10,1,8,0,1,1,1,0,0,1,1,0,0,1,1,1,0,1,0,0,0,1,1,1,1,1,1,1] (f27_12_S v162 w4 v152 w6 v160 x0 k1 x2 x3)) (
 tv (pbin (.int .i64) .add x3 (I 1)) fun v163 =>
 jmp [0,0,1,1,1,0,1,0,0,0,1,1,1,1,1,1,1] (f27_11_S x0 k1 x2 v163 w4 v152 w6 w7))))))))))) (
 jmp [0,0,0,1,1,1,1,1,1,1] (f27_7_S x0 w4 w5 w6 w7))
def f27_12  (x0 w1 w2 w3 w4 x5:TV) (k6:Nat) (x7 x8:TV):Prg TV :=
 tv (pbin (.int .i64) .sub x0 (I 1)) fun v164 =>
 tv (pbin (.int .i64) .quo v164 (I 2)) fun v165 =>
 tv (pbin (.int .i64) .eql v165 x0) fun v166 =>
 Prg.ite (asBool v166) (
 tv (pbin (.int .i64) .add x8 (I 1)) fun v167 =>
 jmp [0,0,1,1,1,0,1,0,0,0,1,1,1,1,1,1,1] (f27_11_S x5 k6 x7 v167 w1 w2 w3 w4)) (
 nat (slLen w4) fun n168 =>
 nat (ae x0) fun n169 =>
 chk (Bool.and (slSize w4 1) (Nat.blt n169 n168)) (
 tvs (pel w4 n169) fun e170 =>
 chk (ab bF e170 0) (
 nat (slLen w4) fun n171 =>
 nat (ae v165) fun n172 =>
 chk (Bool.and (slSize w4 1) (Nat.blt n172 n171)) (
 tvs (pel w4 n172) fun e173 =>
 chk (ab bF e173 0) (
 tv (pbin (.int .i64) .lss (nth hole e170 0) (nth hole e173 0)) fun v174 =>
 tv (pun .not v174) fun v175 =>
 Prg.ite (asBool v175) (
 tv (pbin (.int .i64) .add x8 (I 1)) fun v176 =>
 jmp [0,0,1,1,1,0,1,0,0,0,1,1,1,1,1,1,1] (f27_11_S x5 k6 x7 v176 w1 w2 w3 w4)) (
 nat (slLen w4) fun n177 =>
 nat (ae x0) fun n178 =>
 chk (Bool.and (slSize w4 1) (Nat.blt n178 n177)) (
 tvs (pel w4 n178) fun e179 =>
 chk (ab bF e179 0) (
 nat (slLen w4) fun n180 =>
 nat (ae v165) fun n181 =>
 chk (Bool.and (slSize w4 1) (Nat.blt n181 n180)) (
 tvs (pel w4 n181) fun e182 =>
 chk (ab bF e182 0) (
 nat (slLen w4) fun n183 =>
 nat (ae v165) fun n184 =>
 chk (Bool.and (slSize w4 1) (Nat.blt n184 n183)) (
 tvs (pel w4 n184) fun e185 =>
 chk (ab bF e185 0) (
 tv (dN [] w4 n184 0 [nth hole e179 0]) fun v186 =>
 nat (slLen v186) fun n187 =>
 nat (ae x0) fun n188 =>
 chk (Bool.and (slSize v186 1) (Nat.blt n188 n187)) (
 tvs (pel v186 n188) fun e189 =>
 chk (ab bF e189 0) (
 tv (dN [] v186 n188 0 [nth hole e182 0]) fun v190 =>
 jmp [0,0,10,1,8,0,1,1,1,0,0,1,1,0,0,1,1,1,0,1,0,0,0,1,1,1,1,1,1,1] (f27_12_S v165 w1 w2 w3 v190 x5 k6 x7 x8)))))))))))))))
theorem f27_MR (x0 x1:TV):cb prog 27 [x0,x1]=f27_M x0 x1:=by kernel_rfl
theorem f27_0_J  {x0 x1 x2 w3 w4:TV} {r:TV} (h:aa prog 27 (f27_0 x0 x1 x2 w3 w4) r):aa prog 27 (.jmp [0,0,1,0,1,1,1] (f27_0_S x0 x1 x2 w3 w4)) r:=aa.jmp (by kernel_rfl) h
theorem f27_1_J  {x0 x1 x2:TV} {k3:Nat} {x4 x5 w6 w7:TV} {r:TV} (h:aa prog 27 (f27_1 x0 x1 x2 k3 x4 x5 w6 w7) r):aa prog 27 (.jmp [0,0,1,1,0,0,1,1,0,0,1,0,1,1,1] (f27_1_S x0 x1 x2 k3 x4 x5 w6 w7)) r:=aa.jmp (by kernel_rfl) h
theorem f27_2_J  {x0 w1 w2:TV} {r:TV} (h:aa prog 27 (f27_2 x0 w1 w2) r):aa prog 27 (.jmp [1,1,1,1] (f27_2_S x0 w1 w2)) r:=aa.jmp (by kernel_rfl) h
theorem f27_3_J  {x0 w1 w2 w3:TV} {r:TV} (h:aa prog 27 (f27_3 x0 w1 w2 w3) r):aa prog 27 (.jmp [1,1,1,1,1] (f27_3_S x0 w1 w2 w3)) r:=aa.jmp (by kernel_rfl) h
theorem f27_4_J  {x0 x1 x2 w3 w4 w5:TV} {r:TV} (h:aa prog 27 (f27_4 x0 x1 x2 w3 w4 w5) r):aa prog 27 (.jmp [0,0,1,0,1,1,1,1,1] (f27_4_S x0 x1 x2 w3 w4 w5)) r:=aa.jmp (by kernel_rfl) h
theorem f27_5_J  {x0 w1 w2 w3 x4 x5 x6:TV} {r:TV} (h:aa prog 27 (f27_5 x0 w1 w2 w3 x4 x5 x6) r):aa prog 27 (.jmp [0,0,10,1,8,0,1,1,0,0,1,1,0,0,1,0,1,1,1,1,1] (f27_5_S x0 w1 w2 w3 x4 x5 x6)) r:=aa.jmp (by kernel_rfl) h
theorem f27_6_J  {x0 w1 w2 w3:TV} {r:TV} (h:aa prog 27 (f27_6 x0 w1 w2 w3) r):aa prog 27 (.jmp [1,1,1,1,1,1] (f27_6_S x0 w1 w2 w3)) r:=aa.jmp (by kernel_rfl) h
theorem f27_7_J  {x0 w1 w2 w3 w4:TV} {r:TV} (h:aa prog 27 (f27_7 x0 w1 w2 w3 w4) r):aa prog 27 (.jmp [0,0,0,1,1,1,1,1,1,1] (f27_7_S x0 w1 w2 w3 w4)) r:=aa.jmp (by kernel_rfl) h
theorem f27_8_J  {x0 x1 x2 w3 w4 w5 w6 x7:TV} {r:TV} (h:aa prog 27 (f27_8 x0 x1 x2 w3 w4 w5 w6 x7) r):aa prog 27 (.jmp [0,0,0,1,1,6,0,1,1,1,4,0,0,1,0,0,0,1,1,1,1,1,1,1] (f27_8_S x0 x1 x2 w3 w4 w5 w6 x7)) r:=aa.jmp (by kernel_rfl) h
theorem f27_9_J  {x0 x1 w2 w3 w4 w5 x6:TV} {r:TV} (h:aa prog 27 (f27_9 x0 x1 w2 w3 w4 w5 x6) r):aa prog 27 (.jmp [1,1,1,6,0,1,1,1,4,0,0,1,0,0,0,1,1,1,1,1,1,1] (f27_9_S x0 x1 w2 w3 w4 w5 x6)) r:=aa.jmp (by kernel_rfl) h
theorem f27_10_J  {x0 x1 x2 x3 w4 w5 w6 w7 x8:TV} {r:TV} (h:aa prog 27 (f27_10 x0 x1 x2 x3 w4 w5 w6 w7 x8) r):aa prog 27 (.jmp [1,1,1,1,0,0,0,0,1,1,6,0,1,1,1,4,0,0,1,0,0,0,1,1,1,1,1,1,1] (f27_10_S x0 x1 x2 x3 w4 w5 w6 w7 x8)) r:=aa.jmp (by kernel_rfl) h
theorem f27_11_J  {x0:TV} {k1:Nat} {x2 x3 w4 w5 w6 w7:TV} {r:TV} (h:aa prog 27 (f27_11 x0 k1 x2 x3 w4 w5 w6 w7) r):aa prog 27 (.jmp [0,0,1,1,1,0,1,0,0,0,1,1,1,1,1,1,1] (f27_11_S x0 k1 x2 x3 w4 w5 w6 w7)) r:=aa.jmp (by kernel_rfl) h
theorem f27_12_J  {x0 w1 w2 w3 w4 x5:TV} {k6:Nat} {x7 x8:TV} {r:TV} (h:aa prog 27 (f27_12 x0 w1 w2 w3 w4 x5 k6 x7 x8) r):aa prog 27 (.jmp [0,0,10,1,8,0,1,1,1,0,0,1,1,0,0,1,1,1,0,1,0,0,0,1,1,1,1,1,1,1] (f27_12_S x0 w1 w2 w3 w4 x5 k6 x7 x8)) r:=aa.jmp (by kernel_rfl) h
end Go.Ab.C11

import Derived.Test.YtljcpjlpggnolaaQC11T
set_option linter.all false
set_option maxRecDepth 100000
namespace Go.Ab.C11
open Go Go.Ab Go.Proofs
open Go.Ab.TV (hole cell comp isSl isSc isTup cellsL tup agg)
open Go.Ab.Prg (tv tvs rws nat chk call jmp ret)
def f3_0_S  (x0 y1 w2:TV):ASt:=⟨[Jk,Jk,Jk,Pt 0,Jk,Jk,Jk,Sr 1,AV.tv x0] ++ Rj 80,[Ct y1,Tr w2] ++ Rz 111,[]⟩
def f3_1_S  (y0:TV):ASt:=⟨[Jk,Jk,Jk,Pt 0] ++ Rj 85,[Ct y0] ++ Rz 112,[]⟩
def f3_2_S  (x0 w1 w2:TV):ASt:=⟨Rj 9 ++ [Sr 0,Sr 1,AV.tv x0] ++ Rj 77,[Tr w1,Tr w2] ++ Rz 111,[]⟩
def f3_M (x0 x1 x2:TV):Prg TV :=
 chk (TV.isAgg x0 1) (
 call 6 [] fun v0 =>
 chk (ab cF [v0] 0) (
 tv (pun .not v0) fun v1 =>
 Prg.ite (asBool v1) (
 ret (B false)) (
 call 7 [agg [cell x0 0]] fun v2 =>
 chk (ab cF [v2] 0) (
 tv (pun .not v2) fun v3 =>
 Prg.ite (asBool v3) (
 ret (B true)) (
 call 9 [agg [cell x0 0],x1] fun v4 =>
 chk (ab zSl [v4] 0) (
 call 10 [agg [cell x0 0],x1] fun v5 =>
 chk (ab zSl [v5] 0) (
 call 8 [frz v4,frz v5] fun v6 =>
 chk (ab cF [v6] 0) (
 tv (pun .not v6) fun v7 =>
 Prg.ite (asBool v7) (
 ret (B false)) (
 call 11 [agg [cell x0 0],x1,x2] fun v8 =>
 chk (ab cF [v8] 0) (
 call 13 [agg [cell x0 0],x1] fun v9 =>
 chk (ab zSl [v9] 0) (
 call 12 [frz v9,x2] fun v10 =>
 chk (ab cF [v10] 0) (
 tv (pbin Kd.bool .neq v8 v10) fun v11 =>
 Prg.ite (asBool v11) (
 ret (B false)) (
 call 14 [agg [cell x0 0]] fun v12 =>
 chk (ab zSl [v12] 0) (
 tv (plen (.slice 4) v12) fun v13 =>
 tv (plen (.slice 38) (cell x0 0)) fun v14 =>
 tv (pbin (.int .i64) .neq v13 v14) fun v15 =>
 Prg.ite (asBool v15) (
 ret (B false)) (
 jmp [0,0,1,0,1,1,1,1,1,1] (f3_0_S (I 0) (cell x0 0) v12))))))))))))))))
def f3_0  (x0 y1 w2:TV):Prg TV :=
 tv (plen (.slice 4) w2) fun v16 =>
 tv (pbin (.int .i64) .lss x0 v16) fun v17 =>
 Prg.ite (asBool v17) (
 nat (slLen w2) fun n18 =>
 nat (ae x0) fun n19 =>
 chk (Bool.and (slSize w2 1) (Nat.blt n19 n18)) (
 tvs (pel w2 n19) fun e20 =>
 chk (ab cF e20 0) (
 tv (pbin (.int .i64) .eql x0 (I 0)) fun v21 =>
 Prg.ite (asBool v21) (
 tv (pbin Kd.bool .neq (nth hole e20 0) (B true)) fun v22 =>
 Prg.ite (asBool v22) (
 ret (B false)) (
 tv (pbin (.int .i64) .add x0 (I 1)) fun v23 =>
 jmp [0,0,1,0,1,1,1,1,1,1] (f3_0_S v23 y1 w2))) (
 call 13 [agg [y1],I 0] fun v24 =>
 chk (ab zSl [v24] 0) (
 call 12 [frz v24,x0] fun v25 =>
 chk (ab cF [v25] 0) (
 tv (pbin Kd.bool .neq (nth hole e20 0) v25) fun v26 =>
 Prg.ite (asBool v26) (
 ret (B false)) (
 tv (pbin (.int .i64) .add x0 (I 1)) fun v27 =>
 jmp [0,0,1,0,1,1,1,1,1,1] (f3_0_S v27 y1 w2)))))))) (
 jmp [1,1,1,1,1,1,1] (f3_1_S y1))
def f3_1  (y0:TV):Prg TV :=
 call 15 [agg [y0]] fun v28 =>
 chk (ab zSl [v28] 0) (
 call 16 [agg [y0]] fun v29 =>
 chk (ab zSl [v29] 0) (
 tv (plen (.slice 28) v28) fun v30 =>
 tv (plen (.slice 28) v29) fun v31 =>
 tv (pbin (.int .i64) .neq v30 v31) fun v32 =>
 Prg.ite (asBool v32) (
 ret (B false)) (
 jmp [0,0,1,0,1,1,1,1,1,1,1,1,1] (f3_2_S (I 0) v28 v29))))
def f3_2  (x0 w1 w2:TV):Prg TV :=
 tv (plen (.slice 28) w1) fun v33 =>
 tv (pbin (.int .i64) .lss x0 v33) fun v34 =>
 Prg.ite (asBool v34) (
 nat (slLen w1) fun n35 =>
 nat (ae x0) fun n36 =>
 chk (Bool.and (slSize w1 1) (Nat.blt n36 n35)) (
 tvs (pel w1 n36) fun e37 =>
 chk (ab zSl e37 0) (
 nat (slLen w2) fun n38 =>
 nat (ae x0) fun n39 =>
 chk (Bool.and (slSize w2 1) (Nat.blt n39 n38)) (
 tvs (pel w2 n39) fun e40 =>
 chk (ab zSl e40 0) (
 tv (bD [(n36,0)] w1) fun v41 =>
 tv (bD [(n39,0)] w2) fun v42 =>
 call 8 [frz v41,frz v42] fun v43 =>
 chk (ab cF [v43] 0) (
 tv (pun .not v43) fun v44 =>
 Prg.ite (asBool v44) (
 ret (B false)) (
 tv (pbin (.int .i64) .add x0 (I 1)) fun v45 =>
 jmp [0,0,1,0,1,1,1,1,1,1,1,1,1] (f3_2_S v45 w1 w2)))))))) (
 ret (B true))
theorem f3_MR (x0 x1 x2:TV):cb prog 3 [x0,x1,x2]=f3_M x0 x1 x2:=by kernel_rfl
theorem f3_0_J  {x0 y1 w2:TV} {r:TV} (h:aa prog 3 (f3_0 x0 y1 w2) r):aa prog 3 (.jmp [0,0,1,0,1,1,1,1,1,1] (f3_0_S x0 y1 w2)) r:=aa.jmp (by kernel_rfl) h
theorem f3_1_J  {y0:TV} {r:TV} (h:aa prog 3 (f3_1 y0) r):aa prog 3 (.jmp [1,1,1,1,1,1,1] (f3_1_S y0)) r:=aa.jmp (by kernel_rfl) h
theorem f3_2_J  {x0 w1 w2:TV} {r:TV} (h:aa prog 3 (f3_2 x0 w1 w2) r):aa prog 3 (.jmp [0,0,1,0,1,1,1,1,1,1,1,1,1] (f3_2_S x0 w1 w2)) r:=aa.jmp (by kernel_rfl) h
def f7_0_S  (x0 x1 y2:TV):ASt:=⟨[Jk,Pt 0,Jk,AV.tv x0,AV.tv x1] ++ Rj 82,[Ct y2] ++ Rz 110,[]⟩
def f7_1_S  (x0 x1 x2 y3:TV):ASt:=⟨[Jk,Pt 0,Jk,AV.tv x0,AV.tv x1,AV.tv x2] ++ Rj 81,[Ct y3] ++ Rz 110,[]⟩
def f7_2_S  (x0 x1 x2 x3 y4 y5 y6 y7 y8 y9 y10 y11 y12 y13 y14 y15 y16 y17 y18:TV):ASt:=⟨[Jk,Pt 0,Jk,AV.tv x0,AV.tv x1,AV.tv x2,Pt 1,AV.tv x3] ++ Rj 79,[Ct y4,some (BC.cells [CA.t y5,CA.t y6,CA.t y7,CA.t y8,CA.t y9,CA.t y10,CA.t y11,CA.t y12,CA.t y13,CA.t y14,CA.t y15,CA.t y16,CA.t y17,CA.t y18])] ++ Rz 109,[]⟩
def f7_M (x0:TV):Prg TV :=
 chk (TV.isAgg x0 1) (
 tv (plen (.slice 38) (cell x0 0)) fun v0 =>
 tv (pbin (.int .i64) .gtr v0 (I 20)) fun v1 =>
 Prg.ite (asBool v1) (
 ret (B false)) (
 jmp [0,0,1,0,1,1,1] (f7_0_S (I 0) (I 0) (cell x0 0))))
def f7_0  (x0 x1 y2:TV):Prg TV :=
 tv (plen (.slice 38) y2) fun v2 =>
 tv (pbin (.int .i64) .lss x1 v2) fun v3 =>
 Prg.ite (asBool v3) (
 tvs (pidx 3 y2 x1) fun e4 =>
 chk (Nat.blt 2 (List.length e4)) (
 tv (plen (.slice 49) (nth hole e4 2)) fun v5 =>
 tv (pbin (.int .i64) .gtr v5 (I 70)) fun v6 =>
 Prg.ite (asBool v6) (
 ret (B false)) (
 jmp [0,0,1,1,0,0,1,0,0,1,0,1,1,1] (f7_1_S x0 x1 (I 0) y2)))) (
 tv (pbin (.int .i64) .leq x0 (I 2000)) fun v7 =>
 ret v7)
def f7_1  (x0 x1 x2 y3:TV):Prg TV :=
 tvs (pidx 3 y3 x1) fun e8 =>
 chk (Nat.blt 2 (List.length e8)) (
 tv (plen (.slice 49) (nth hole e8 2)) fun v9 =>
 tv (pbin (.int .i64) .lss x2 v9) fun v10 =>
 Prg.ite (asBool v10) (
 tvs (pidx 3 y3 x1) fun e11 =>
 chk (Nat.blt 2 (List.length e11)) (
 tvs (pidx 14 (nth hole e11 2) x2) fun e12 =>
 chk (Nat.ble 14 (List.length e12)) (
 tv (plen (.slice 41) (nth hole e12 5)) fun v13 =>
 tv (pbin (.int .i64) .gtr v13 (I 70)) fun v14 =>
 Prg.ite (asBool v14) (
 ret (B false)) (
 tv (plen (.slice 39) (nth hole e12 2)) fun v15 =>
 tv (pbin (.int .i64) .gtr v15 (I 20)) fun v16 =>
 Prg.ite (asBool v16) (
 ret (B false)) (
 tv (plen (.slice 3) (nth hole e12 10)) fun v17 =>
 tv (pbin (.int .i64) .gtr v17 (I 20)) fun v18 =>
 Prg.ite (asBool v18) (
 ret (B false)) (
 tv (plen (.slice 41) (nth hole e12 5)) fun v19 =>
 tv (pbin (.int .i64) .add x0 v19) fun v20 =>
 jmp [0,0,1,1,1,1,0,0,1,0,0,1,1,0,0,1,0,0,1,0,1,1,1] (f7_2_S v20 x1 x2 (I 0) y3 (nth hole e12 0) (nth hole e12 1) (nth hole e12 2) (nth hole e12 3) (nth hole e12 4) (nth hole e12 5) (nth hole e12 6) (nth hole e12 7) (nth hole e12 8) (nth hole e12 9) (nth hole e12 10) (nth hole e12 11) (nth hole e12 12) (nth hole e12 13)))))))) (
 tv (pbin (.int .i64) .add x1 (I 1)) fun v21 =>
 jmp [0,0,1,0,1,1,1] (f7_0_S x0 v21 y3)))
def f7_2  (x0 x1 x2 x3 y4 y5 y6 y7 y8 y9 y10 y11 y12 y13 y14 y15 y16 y17 y18:TV):Prg TV :=
 tv (plen (.slice 41) y10) fun v22 =>
 tv (pbin (.int .i64) .lss x3 v22) fun v23 =>
 Prg.ite (asBool v23) (
 tvs (pidx 7 y10 x3) fun e24 =>
 chk (Nat.blt 6 (List.length e24)) (
 tv (plen (.slice 3) (nth hole e24 6)) fun v25 =>
 tv (pbin (.int .i64) .gtr v25 (I 20)) fun v26 =>
 Prg.ite (asBool v26) (
 ret (B false)) (
 tv (pbin (.int .i64) .add x3 (I 1)) fun v27 =>
 jmp [0,0,1,1,1,1,0,0,1,0,0,1,1,0,0,1,0,0,1,0,1,1,1] (f7_2_S x0 x1 x2 v27 y4 y5 y6 y7 y8 y9 y10 y11 y12 y13 y14 y15 y16 y17 y18)))) (
 tv (pbin (.int .i64) .add x2 (I 1)) fun v28 =>
 jmp [0,0,1,1,0,0,1,0,0,1,0,1,1,1] (f7_1_S x0 x1 v28 y4))
theorem f7_MR (x0:TV):cb prog 7 [x0]=f7_M x0:=by kernel_rfl
theorem f7_0_J  {x0 x1 y2:TV} {r:TV} (h:aa prog 7 (f7_0 x0 x1 y2) r):aa prog 7 (.jmp [0,0,1,0,1,1,1] (f7_0_S x0 x1 y2)) r:=aa.jmp (by kernel_rfl) h
theorem f7_1_J  {x0 x1 x2 y3:TV} {r:TV} (h:aa prog 7 (f7_1 x0 x1 x2 y3) r):aa prog 7 (.jmp [0,0,1,1,0,0,1,0,0,1,0,1,1,1] (f7_1_S x0 x1 x2 y3)) r:=aa.jmp (by kernel_rfl) h
theorem f7_2_J  {x0 x1 x2 x3 y4 y5 y6 y7 y8 y9 y10 y11 y12 y13 y14 y15 y16 y17 y18:TV} {r:TV} (h:aa prog 7 (f7_2 x0 x1 x2 x3 y4 y5 y6 y7 y8 y9 y10 y11 y12 y13 y14 y15 y16 y17 y18) r):aa prog 7 (.jmp [0,0,1,1,1,1,0,0,1,0,0,1,1,0,0,1,0,0,1,0,1,1,1] (f7_2_S x0 x1 x2 x3 y4 y5 y6 y7 y8 y9 y10 y11 y12 y13 y14 y15 y16 y17 y18)) r:=aa.jmp (by kernel_rfl) h
def f8_0_S  (x0 x1 x2:TV):ASt:=⟨[AV.tv x0,AV.tv x1,Jk,Jk,Jk,AV.tv x2] ++ Rj 20,Rz 50,[]⟩
def f8_M (x0 x1:TV):Prg TV :=
 tv (plen (.slice 3) x0) fun v0 =>
 tv (plen (.slice 3) x1) fun v1 =>
 tv (pbin (.int .i64) .neq v0 v1) fun v2 =>
 Prg.ite (asBool v2) (
 ret (B false)) (
 jmp [0,0,1,0,1,1] (f8_0_S x0 x1 (I 0)))
def f8_0  (x0 x1 x2:TV):Prg TV :=
 tv (plen (.slice 3) x0) fun v3 =>
 tv (pbin (.int .i64) .lss x2 v3) fun v4 =>
 Prg.ite (asBool v4) (
 tvs (pidx 1 x0 x2) fun e5 =>
 chk (Nat.blt 0 (List.length e5)) (
 tvs (pidx 1 x1 x2) fun e6 =>
 chk (Nat.blt 0 (List.length e6)) (
 tv (pbin (.int .i64) .neq (nth hole e5 0) (nth hole e6 0)) fun v7 =>
 Prg.ite (asBool v7) (
 ret (B false)) (
 tv (pbin (.int .i64) .add x2 (I 1)) fun v8 =>
 jmp [0,0,1,0,1,1] (f8_0_S x0 x1 v8))))) (
 ret (B true))
theorem f8_MR (x0 x1:TV):cb prog 8 [x0,x1]=f8_M x0 x1:=by kernel_rfl
theorem f8_0_J  {x0 x1 x2:TV} {r:TV} (h:aa prog 8 (f8_0 x0 x1 x2) r):aa prog 8 (.jmp [0,0,1,0,1,1] (f8_0_S x0 x1 x2)) r:=aa.jmp (by kernel_rfl) h
def f9_0_S  (x0 x1 w2 y3:TV):ASt:=⟨[Sr 0,AV.clo 21 [CA.ptr 1 0]] ++ Rj 5 ++ [AV.tv x0,AV.tv x1] ++ Rj 10,[Tr w2,Ct y3] ++ Rz 105,(Rj 22 ++ [Sr 0,AV.clo 21 [CA.ptr 1 0]] ++ Rj 40)⟩
def f9_1_S  (x0 w1:TV):ASt:=⟨[Sr 0,Jk,Jk,AV.tv x0] ++ Rj 57,[Tr w1] ++ Rz 106,Rj 22⟩
def f9_2_S  (x0 x1 w2 y3:TV):ASt:=⟨[Sr 0,AV.clo 21 [CA.ptr 1 0],Jk,Jk,Jk,AV.tv x0,AV.tv x1] ++ Rj 35,[Tr w2,Ct y3] ++ Rz 86,Rj 22⟩
def f9_3_S  (x0:TV) (lo1 len2:Nat) (x3 w4:TV):ASt:=⟨[Sr 0,Jk,Jk,AV.tv x0,AV.one (CA.swin 0 0 [] lo1 len2),AV.tv x3] ++ Rj 55,[Tr w4] ++ Rz 106,Rj 22⟩
def f9_4_S  (x0 w1:TV):ASt:=⟨[Sr 0] ++ Rj 4 ++ [AV.tv x0] ++ Rj 36,[Tr w1] ++ Rz 87,Rj 22⟩
def f9_5_S  (x0 w1:TV):ASt:=⟨[Sr 0,Jk,Jk,AV.tv x0] ++ Rj 57,[Tr w1] ++ Rz 106,Rj 22⟩
def f9_M (x0 x1:TV):Prg TV :=
 chk (TV.isAgg x0 1) (
 call 18 [agg [cell x0 0],x1] fun v0 =>
 chk (ab cF [v0] 0) (
 tv (pun .not v0) fun v1 =>
 Prg.ite (asBool v1) (
 chk true (
 ret (TV.lit aK))) (
 tvs (pidx 3 (cell x0 0) x1) fun e2 =>
 chk (Nat.ble 3 (List.length e2)) (
 call 20 [agg [nth hole e2 0,nth hole e2 1,nth hole e2 2]] fun v3 =>
 chk (ab zSl [v3] 0) (
 tv (plen (.slice 3) v3) fun v4 =>
 jmp [0,0,1,0,1,6,0,1,16,0,1,1] (f9_0_S v4 (I 0) v3 (cell x0 0)))))))
def f9_0  (x0 x1 w2 y3:TV):Prg TV :=
 tv (pbin (.int .i64) .lss x1 x0) fun v5 =>
 Prg.ite (asBool v5) (
 nat (slLen w2) fun n6 =>
 nat (ae x1) fun n7 =>
 chk (Bool.and (slSize w2 1) (Nat.blt n7 n6)) (
 tvs (pel w2 n7) fun e8 =>
 chk (ab bF e8 0) (
 call 18 [agg [y3],nth hole e8 0] fun v9 =>
 chk (ab cF [v9] 0) (
 tv (pun .not v9) fun v10 =>
 Prg.ite (asBool v10) (
 tv (pbin (.int .i64) .eql x1 (TV.lit (Value.int IntKind.i64 (-1)))) fun v11 =>
 Prg.ite (asBool v11) (
 call 22 [w2] fun v12 =>
 tv (pput 0 w2 v12) fun v13 =>
 tv (plen (.slice 3) v13) fun v14 =>
 tv (pbin (.int .i64) .lss v14 (I 2)) fun v15 =>
 Prg.ite (asBool v15) (
 chk (bY v13) (
 ret v13)) (
 jmp [0,0,1,0,1,1,4,0,1,1,1,1] (f9_1_S (I 1) v13))) (
 tv (pbin (.int .i64) .add x1 (I 1)) fun v16 =>
 jmp [0,0,1,0,1,1,1,16,0,1,1] (f9_2_S x1 v16 w2 y3))) (
 tv (pbin (.int .i64) .add x1 (I 1)) fun v17 =>
 jmp [0,0,1,0,1,6,0,1,16,0,1,1] (f9_0_S x0 v17 w2 y3)))))) (
 tv (pbin (.int .i64) .eql (TV.lit (Value.int IntKind.i64 (-1))) (TV.lit (Value.int IntKind.i64 (-1)))) fun v18 =>
 Prg.ite (asBool v18) (
 call 22 [w2] fun v19 =>
 tv (pput 0 w2 v19) fun v20 =>
 tv (plen (.slice 3) v20) fun v21 =>
 tv (pbin (.int .i64) .lss v21 (I 2)) fun v22 =>
 Prg.ite (asBool v22) (
 chk (bY v20) (
 ret v20)) (
 jmp [0,0,1,0,1,1,4,0,1,1,1,1] (f9_1_S (I 1) v20))) (
 tv (pbin (.int .i64) .add (TV.lit (Value.int IntKind.i64 (-1))) (I 1)) fun v23 =>
 jmp [0,0,1,0,1,1,1,16,0,1,1] (f9_2_S (TV.lit (Value.int IntKind.i64 (-1))) v23 w2 y3)))
def f9_1  (x0 w1:TV):Prg TV :=
 tv (plen (.slice 3) w1) fun v24 =>
 tv (pbin (.int .i64) .lss x0 v24) fun v25 =>
 Prg.ite (asBool v25) (
 nat (slLen w1) fun n26 =>
 nat (ae x0) fun n27 =>
 chk (Bool.and (slSize w1 1) (Nat.blt n27 n26)) (
 tvs (pel w1 n27) fun e28 =>
 chk (ab bF e28 0) (
 tv (pbin (.int .i64) .sub x0 (I 1)) fun v29 =>
 nat (slLen w1) fun n30 =>
 nat (ae v29) fun n31 =>
 chk (Bool.and (slSize w1 1) (Nat.blt n31 n30)) (
 tvs (pel w1 n31) fun e32 =>
 chk (ab bF e32 0) (
 tv (pbin (.int .i64) .eql (nth hole e28 0) (nth hole e32 0)) fun v33 =>
 Prg.ite (asBool v33) (
 nat (slLen w1) fun n34 =>
 nat (ae x0) fun n35 =>
 chk (Bool.and (Bool.and (slSize w1 1) (Nat.ble (Option.getD (some n35) 0) (Option.getD none n34))) (Nat.ble (Option.getD none n34) n34)) (
 jmp [0,0,1,0,1,0,1,0,0,1,0,0,1,0,1,1,4,0,1,1,1,1] (f9_3_S x0 (Option.getD (some n35) 0) ((Option.getD none n34) - (Option.getD (some n35) 0)) (I 1) w1))) (
 tv (pbin (.int .i64) .add x0 (I 1)) fun v36 =>
 jmp [0,0,1,0,1,1,4,0,1,1,1,1] (f9_1_S v36 w1))))))) (
 chk (bY w1) (
 ret w1))
def f9_2  (x0 x1 w2 y3:TV):Prg TV :=
 tv (plen (.slice 3) w2) fun v37 =>
 tv (pbin (.int .i64) .lss x1 v37) fun v38 =>
 Prg.ite (asBool v38) (
 nat (slLen w2) fun n39 =>
 nat (ae x1) fun n40 =>
 chk (Bool.and (slSize w2 1) (Nat.blt n40 n39)) (
 tvs (pel w2 n40) fun e41 =>
 chk (ab bF e41 0) (
 call 18 [agg [y3],nth hole e41 0] fun v42 =>
 chk (ab cF [v42] 0) (
 tv (pun .not v42) fun v43 =>
 tv (pun .not v43) fun v44 =>
 Prg.ite (asBool v44) (
 nat (slLen w2) fun n45 =>
 nat (ae x0) fun n46 =>
 chk (Bool.and (slSize w2 1) (Nat.blt n46 n45)) (
 tvs (pel w2 n46) fun e47 =>
 chk (ab bF e47 0) (
 tv (dN [] w2 n46 0 [nth hole e41 0]) fun v48 =>
 tv (pbin (.int .i64) .add x0 (I 1)) fun v49 =>
 tv (pbin (.int .i64) .add x1 (I 1)) fun v50 =>
 jmp [0,0,1,0,1,1,1,16,0,1,1] (f9_2_S v49 v50 v48 y3)))) (
 tv (pbin (.int .i64) .add x1 (I 1)) fun v51 =>
 jmp [0,0,1,0,1,1,1,16,0,1,1] (f9_2_S x0 v51 w2 y3)))))) (
 jmp [1,1,1,1,16,0,1,1] (f9_4_S x0 w2))
def f9_3  (x0:TV) (lo1 len2:Nat) (x3 w4:TV):Prg TV :=
 tv (cX lo1 len2 w4) fun v52 =>
 tv (plen (.slice 3) v52) fun v53 =>
 tv (pbin (.int .i64) .lss x3 v53) fun v54 =>
 Prg.ite (asBool v54) (
 nat (ae x3) fun n55 =>
 chk (Bool.and (slSize w4 1) (Nat.blt n55 len2)) (
 tvs (pel w4 (lo1 + n55)) fun e56 =>
 chk (ab bF e56 0) (
 tv (pbin (.int .i64) .sub x3 (I 1)) fun v57 =>
 nat (ae v57) fun n58 =>
 chk (Bool.and (slSize w4 1) (Nat.blt n58 len2)) (
 tvs (pel w4 (lo1 + n58)) fun e59 =>
 chk (ab bF e59 0) (
 tv (pbin (.int .i64) .neq (nth hole e56 0) (nth hole e59 0)) fun v60 =>
 Prg.ite (asBool v60) (
 nat (ae x3) fun n61 =>
 chk (Bool.and (slSize w4 1) (Nat.blt n61 len2)) (
 tvs (pel w4 (lo1 + n61)) fun e62 =>
 chk (ab bF e62 0) (
 nat (slLen w4) fun n63 =>
 nat (ae x0) fun n64 =>
 chk (Bool.and (slSize w4 1) (Nat.blt n64 n63)) (
 tvs (pel w4 n64) fun e65 =>
 chk (ab bF e65 0) (
 tv (dN [] w4 n64 0 [nth hole e62 0]) fun v66 =>
 tv (pbin (.int .i64) .add x0 (I 1)) fun v67 =>
 tv (pbin (.int .i64) .add x3 (I 1)) fun v68 =>
 jmp [0,0,1,0,1,0,1,0,0,1,0,0,1,0,1,1,4,0,1,1,1,1] (f9_3_S v67 lo1 len2 v68 v66)))))) (
 tv (pbin (.int .i64) .add x3 (I 1)) fun v69 =>
 jmp [0,0,1,0,1,0,1,0,0,1,0,0,1,0,1,1,4,0,1,1,1,1] (f9_3_S x0 lo1 len2 v69 w4))))))) (
 jmp [1,1,0,1,0,0,1,0,0,1,0,1,1,4,0,1,1,1,1] (f9_5_S x0 w4))
def f9_4  (x0 w1:TV):Prg TV :=
 nat (slLen w1) fun n70 =>
 nat (ae x0) fun n71 =>
 chk (Bool.and (Bool.and (slSize w1 1) (Nat.ble (Option.getD (some n71) 0) (Option.getD none n70))) (Nat.ble (Option.getD none n70) n70)) (
 tv (pclear 1 [I 0] (Option.getD (some n71) 0) ((Option.getD none n70) - (Option.getD (some n71) 0)) w1) fun v72 =>
 nat (slLen v72) fun n73 =>
 nat (ae x0) fun n74 =>
 chk (Bool.and (Bool.and (slSize v72 1) (Nat.ble 0 (Option.getD (some n74) n73))) (Nat.ble (Option.getD (some n74) n73) n73)) (
 tv (cX 0 ((Option.getD (some n74) n73) - 0) v72) fun v75 =>
 call 22 [v75] fun v76 =>
 tv (pput 0 v72 v76) fun v77 =>
 tv (cX 0 ((Option.getD (some n74) n73) - 0) v77) fun v78 =>
 tv (plen (.slice 3) v78) fun v79 =>
 tv (pbin (.int .i64) .lss v79 (I 2)) fun v80 =>
 Prg.ite (asBool v80) (
 tv (cX 0 ((Option.getD (some n74) n73) - 0) v77) fun v81 =>
 chk (bY v81) (
 ret v81)) (
 tv (cX 0 ((Option.getD (some n74) n73) - 0) v77) fun v82 =>
 jmp [0,0,1,0,1,1,4,0,1,1,1,1] (f9_1_S (I 1) v82))))
def f9_5  (x0 w1:TV):Prg TV :=
 nat (slLen w1) fun n83 =>
 nat (ae x0) fun n84 =>
 chk (Bool.and (Bool.and (slSize w1 1) (Nat.ble (Option.getD (some n84) 0) (Option.getD none n83))) (Nat.ble (Option.getD none n83) n83)) (
 tv (pclear 1 [I 0] (Option.getD (some n84) 0) ((Option.getD none n83) - (Option.getD (some n84) 0)) w1) fun v85 =>
 nat (slLen v85) fun n86 =>
 nat (ae x0) fun n87 =>
 chk (Bool.and (Bool.and (slSize v85 1) (Nat.ble 0 (Option.getD (some n87) n86))) (Nat.ble (Option.getD (some n87) n86) n86)) (
 tv (cX 0 ((Option.getD (some n87) n86) - 0) v85) fun v88 =>
 chk (bY v88) (
 ret v88)))
theorem f9_MR (x0 x1:TV):cb prog 9 [x0,x1]=f9_M x0 x1:=by kernel_rfl
theorem f9_0_J  {x0 x1 w2 y3:TV} {r:TV} (h:aa prog 9 (f9_0 x0 x1 w2 y3) r):aa prog 9 (.jmp [0,0,1,0,1,6,0,1,16,0,1,1] (f9_0_S x0 x1 w2 y3)) r:=aa.jmp (by kernel_rfl) h
theorem f9_1_J  {x0 w1:TV} {r:TV} (h:aa prog 9 (f9_1 x0 w1) r):aa prog 9 (.jmp [0,0,1,0,1,1,4,0,1,1,1,1] (f9_1_S x0 w1)) r:=aa.jmp (by kernel_rfl) h
theorem f9_2_J  {x0 x1 w2 y3:TV} {r:TV} (h:aa prog 9 (f9_2 x0 x1 w2 y3) r):aa prog 9 (.jmp [0,0,1,0,1,1,1,16,0,1,1] (f9_2_S x0 x1 w2 y3)) r:=aa.jmp (by kernel_rfl) h
theorem f9_3_J  {x0:TV} {lo1 len2:Nat} {x3 w4:TV} {r:TV} (h:aa prog 9 (f9_3 x0 lo1 len2 x3 w4) r):aa prog 9 (.jmp [0,0,1,0,1,0,1,0,0,1,0,0,1,0,1,1,4,0,1,1,1,1] (f9_3_S x0 lo1 len2 x3 w4)) r:=aa.jmp (by kernel_rfl) h
theorem f9_4_J  {x0 w1:TV} {r:TV} (h:aa prog 9 (f9_4 x0 w1) r):aa prog 9 (.jmp [1,1,1,1,16,0,1,1] (f9_4_S x0 w1)) r:=aa.jmp (by kernel_rfl) h
theorem f9_5_J  {x0 w1:TV} {r:TV} (h:aa prog 9 (f9_5 x0 w1) r):aa prog 9 (.jmp [1,1,0,1,0,0,1,0,0,1,0,1,1,4,0,1,1,1,1] (f9_5_S x0 w1)) r:=aa.jmp (by kernel_rfl) h
end Go.Ab.C11

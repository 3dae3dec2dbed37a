import Derived.Test.YtaokcbfenabbgaaGreatDoorGF1
set_option linter.all false
section
set_option maxRecDepth 100000
namespace Go.Ab.Z12
open Go Go.Ab Go.Proofs
open Go.Ab.TV (hole cell comp isSl isSc isTup cellsL tup agg)
open Go.Ab.Prg (tv tvs rws nat chk call jmp ret)
def f4_0_S  (x0:TV):ASt:=⟨[Jk,AV.tv x0] ++ Rj 72,Rz 98,[]⟩
def f4_M (x0 x1:TV):Prg TV :=
 chk (TV.isAgg x0 1) (
 call 5 [] fun v0 =>
 chk (ab aM [v0] 0) (
 tv (pun .not v0) fun v1 =>
 Prg.ite (asBool v1) (
 ret (B false)) (
 call 15 [agg [cell x0 0]] fun v2 =>
 chk (ab aM [v2] 0) (
 tv (pun .not v2) fun v3 =>
 Prg.ite (asBool v3) (
 ret (B true)) (
 tv (plen Kd.str x1) fun v4 =>
 tv (pbin (.int .i64) .gtr v4 (I 3000)) fun v5 =>
 Prg.ite (asBool v5) (
 ret (B true)) (
 call 16 [agg [cell x0 0]] fun v6 =>
 chk (isTup v6 2) (
 chk (ab cp [comp v6 0] 0) (
 chk (ab bF [comp v6 1] 0) (
 tv (pbin (.int .i64) .eql (comp v6 1) (I 0)) fun v7 =>
 Prg.ite (asBool v7) (
 call 17 [comp v6 0] fun v8 =>
 chk (isTup v8 3) (
 chk (Bool.and (TV.isAgg (comp v8 0) 1) (ab zSl (cellsL true (comp v8 0)) 0)) (
 chk (ab bF [comp v8 1] 0) (
 chk (ab bF [comp v8 2] 0) (
 tv (pbin (.int .i64) .neq (comp v8 1) (I 0)) fun v9 =>
 Prg.ite (asBool v9) (
 ret (B false)) (
 tv (pbin (.int .i64) .neq (comp v8 2) (I 0)) fun v10 =>
 Prg.ite (asBool v10) (
 ret (B false)) (
 call 18 [agg [frz (cell (comp v8 0) 0)],agg [cell x0 0]] fun v11 =>
 chk (ab aM [v11] 0) (
 tv (pun .not v11) fun v12 =>
 Prg.ite (asBool v12) (
 ret (B false)) (
 jmp [1,1,1,1] (f4_0_S x1)))))))))) (
 jmp [1,1,1,1] (f4_0_S x1)))))))))))
def f4_0  (x0:TV):Prg TV :=
 call 17 [x0] fun v13 =>
 chk (isTup v13 3) (
 chk (Bool.and (TV.isAgg (comp v13 0) 1) (ab zSl (cellsL true (comp v13 0)) 0)) (
 chk (ab bF [comp v13 1] 0) (
 chk (ab bF [comp v13 2] 0) (
 tv (pbin (.int .i64) .neq (comp v13 1) (I 0)) fun v14 =>
 Prg.ite (asBool v14) (
 tv (plen (.slice 55) (cell (comp v13 0) 0)) fun v15 =>
 tv (pbin (.int .i64) .eql v15 (I 0)) fun v16 =>
 ret v16) (
 call 16 [agg [frz (cell (comp v13 0) 0)]] fun v17 =>
 chk (isTup v17 2) (
 chk (ab cp [comp v17 0] 0) (
 chk (ab bF [comp v17 1] 0) (
 tv (pbin (.int .i64) .eql (comp v17 1) (I 0)) fun v18 =>
 Prg.ite (asBool v18) (
 tv (pbin Kd.str .eql (comp v17 0) x0) fun v19 =>
 ret v19) (
 ret (B false))))))))))
theorem f4_MR (x0 x1:TV):aB prog 4 [x0,x1]=f4_M x0 x1:=by kernel_rfl
theorem f4_0_J  {x0:TV} {r:TV} (h:aa prog 4 (f4_0 x0) r):aa prog 4 (.jmp [1,1,1,1] (f4_0_S x0)) r:=aa.jmp (by kernel_rfl) h
def f6_M (x0:TV):Prg TV :=
 call 19 [x0] fun v0 =>
 chk (ab zSl [v0] 0) (
 nat (slLen v0) fun n1 =>
 nat (aR (I 0)) fun n2 =>
 chk (Bool.and (slSize v0 1) (Nat.blt n2 n1)) (
 tvs (pel v0 n2) fun e3 =>
 chk (ab cp e3 0) (
 call 21 [nth hole e3 0] fun v4 =>
 chk (ab bF [v4] 0) (
 nat (slLen v0) fun n5 =>
 nat (aR (I 1)) fun n6 =>
 chk (Bool.and (Bool.and (slSize v0 1) (Nat.ble (Option.getD (some n6) 0) (Option.getD none n5))) (Nat.ble (Option.getD none n5) n5)) (
 tv (ib (Option.getD (some n6) 0) ((Option.getD none n5) - (Option.getD (some n6) 0)) v0) fun v7 =>
 call 20 [v4,frz v7] fun v8 =>
 chk (Bool.and (TV.isAgg v8 7) (ab ED (cellsL true v8) 0)) (
 tv (pbin (.int .i64) .eql (cell v8 0) (I 0)) fun v9 =>
 Prg.ite (asBool v9) (
 ret (tup [agg [I 0,I 0,I 0,I 0,W 0,I 0,TV.lit ah],B false])) (
 tv (plen (.slice 3) (cell v8 6)) fun v10 =>
 tv (pbin (.int .i64) .gtr v10 (I 8)) fun v11 =>
 Prg.ite (asBool v11) (
 ret (tup [agg [I 0,I 0,I 0,I 0,W 0,I 0,TV.lit ah],B false])) (
 call 22 [agg [cell v8 0,cell v8 1,cell v8 2,cell v8 3,cell v8 4,cell v8 5,frz (cell v8 6)]] fun v12 =>
 chk (ab cp [v12] 0) (
 tv (pbin Kd.str .neq v12 x0) fun v13 =>
 Prg.ite (asBool v13) (
 ret (tup [agg [I 0,I 0,I 0,I 0,W 0,I 0,TV.lit ah],B false])) (
 ret (tup [agg [cell v8 0,cell v8 1,cell v8 2,cell v8 3,cell v8 4,cell v8 5,cell v8 6],B true])))))))))))
theorem f6_MR (x0:TV):aB prog 6 [x0]=f6_M x0:=by kernel_rfl
def f8_M (x0:TV):Prg TV :=
 call 19 [x0] fun v0 =>
 chk (ab zSl [v0] 0) (
 nat (slLen v0) fun n1 =>
 nat (aR (I 0)) fun n2 =>
 chk (Bool.and (slSize v0 1) (Nat.blt n2 n1)) (
 tvs (pel v0 n2) fun e3 =>
 chk (ab cp e3 0) (
 call 27 [nth hole e3 0] fun v4 =>
 chk (ab bF [v4] 0) (
 nat (slLen v0) fun n5 =>
 nat (aR (I 1)) fun n6 =>
 chk (Bool.and (Bool.and (slSize v0 1) (Nat.ble (Option.getD (some n6) 0) (Option.getD none n5))) (Nat.ble (Option.getD none n5) n5)) (
 tv (ib (Option.getD (some n6) 0) ((Option.getD none n5) - (Option.getD (some n6) 0)) v0) fun v7 =>
 call 26 [v4,frz v7] fun v8 =>
 chk (Bool.and (TV.isAgg v8 8) (ab xG (cellsL true v8) 0)) (
 tv (pbin (.int .i64) .eql (cell v8 0) (I 0)) fun v9 =>
 Prg.ite (asBool v9) (
 ret (tup [agg [I 0,I 0,I 0,I 0,TV.lit ah,I 0,I 0,I 0],B false])) (
 tv (plen (.slice 3) (cell v8 4)) fun v10 =>
 tv (pbin (.int .i64) .gtr v10 (I 8)) fun v11 =>
 Prg.ite (asBool v11) (
 ret (tup [agg [I 0,I 0,I 0,I 0,TV.lit ah,I 0,I 0,I 0],B false])) (
 call 28 [agg [cell v8 0,cell v8 1,cell v8 2,cell v8 3,frz (cell v8 4),cell v8 5,cell v8 6,cell v8 7]] fun v12 =>
 chk (ab cp [v12] 0) (
 tv (pbin Kd.str .neq v12 x0) fun v13 =>
 Prg.ite (asBool v13) (
 ret (tup [agg [I 0,I 0,I 0,I 0,TV.lit ah,I 0,I 0,I 0],B false])) (
 ret (tup [agg [cell v8 0,cell v8 1,cell v8 2,cell v8 3,cell v8 4,cell v8 5,cell v8 6,cell v8 7],B true])))))))))))
theorem f8_MR (x0:TV):aB prog 8 [x0]=f8_M x0:=by kernel_rfl
def f10_M (x0:TV):Prg TV :=
 call 19 [x0] fun v0 =>
 chk (ab zSl [v0] 0) (
 nat (slLen v0) fun n1 =>
 nat (aR (I 1)) fun n2 =>
 chk (Bool.and (Bool.and (slSize v0 1) (Nat.ble (Option.getD (some n2) 0) (Option.getD none n1))) (Nat.ble (Option.getD none n1) n1)) (
 tv (ib (Option.getD (some n2) 0) ((Option.getD none n1) - (Option.getD (some n2) 0)) v0) fun v3 =>
 call 30 [frz v3] fun v4 =>
 chk (Bool.and (TV.isAgg v4 4) (ab EJ (cellsL true v4) 0)) (
 tv (plen (.slice 23) (cell v4 1)) fun v5 =>
 tv (pbin (.int .i64) .gtr v5 (I 8)) fun v6 =>
 Prg.ite (asBool v6) (
 ret (tup [agg [I 0,TV.lit ah,B false,B false],B false])) (
 call 31 [agg [cell v4 0,frz (cell v4 1),cell v4 2,cell v4 3]] fun v7 =>
 chk (ab cp [v7] 0) (
 tv (pbin Kd.str .neq v7 x0) fun v8 =>
 Prg.ite (asBool v8) (
 ret (tup [agg [I 0,TV.lit ah,B false,B false],B false])) (
 ret (tup [agg [cell v4 0,cell v4 1,cell v4 2,cell v4 3],B true])))))))
theorem f10_MR (x0:TV):aB prog 10 [x0]=f10_M x0:=by kernel_rfl
def f12_M (x0 x1:TV):Prg TV :=
 chk (TV.isAgg x0 7) (
 chk (TV.isAgg x1 7) (
 tv (pbin (.int .i64) .eql (cell x0 0) (cell x1 0)) fun v0 =>
 Prg.ite (asBool v0) (
 tv (pbin (.int .i64) .eql (cell x0 1) (cell x1 1)) fun v1 =>
 Prg.ite (asBool v1) (
 tv (pbin (.int .i64) .eql (cell x0 2) (cell x1 2)) fun v2 =>
 Prg.ite (asBool v2) (
 tv (pbin (.int .i64) .eql (cell x0 3) (cell x1 3)) fun v3 =>
 Prg.ite (asBool v3) (
 tv (pbin (.int .u16) .eql (cell x0 4) (cell x1 4)) fun v4 =>
 Prg.ite (asBool v4) (
 tv (pbin (.int .i64) .eql (cell x0 5) (cell x1 5)) fun v5 =>
 Prg.ite (asBool v5) (
 call 33 [cell x0 6,cell x1 6] fun v6 =>
 chk (ab aM [v6] 0) (
 ret v6)) (
 ret (B false))) (
 ret (B false))) (
 ret (B false))) (
 ret (B false))) (
 ret (B false))) (
 ret (B false))))
theorem f12_MR (x0 x1:TV):aB prog 12 [x0,x1]=f12_M x0 x1:=by kernel_rfl
def f13_M (x0 x1:TV):Prg TV :=
 chk (TV.isAgg x0 8) (
 chk (TV.isAgg x1 8) (
 tv (pbin (.int .i64) .eql (cell x0 0) (cell x1 0)) fun v0 =>
 Prg.ite (asBool v0) (
 tv (pbin (.int .i64) .eql (cell x0 1) (cell x1 1)) fun v1 =>
 Prg.ite (asBool v1) (
 tv (pbin (.int .i64) .eql (cell x0 2) (cell x1 2)) fun v2 =>
 Prg.ite (asBool v2) (
 tv (pbin (.int .i64) .eql (cell x0 3) (cell x1 3)) fun v3 =>
 Prg.ite (asBool v3) (
 call 33 [cell x0 4,cell x1 4] fun v4 =>
 chk (ab aM [v4] 0) (
 Prg.ite (asBool v4) (
 tv (pbin (.int .i64) .eql (cell x0 5) (cell x1 5)) fun v5 =>
 Prg.ite (asBool v5) (
 tv (pbin (.int .i64) .eql (cell x0 6) (cell x1 6)) fun v6 =>
 Prg.ite (asBool v6) (
 tv (pbin (.int .i64) .eql (cell x0 7) (cell x1 7)) fun v7 =>
 ret v7) (
 ret (B false))) (
 ret (B false))) (
 ret (B false)))) (
 ret (B false))) (
 ret (B false))) (
 ret (B false))) (
 ret (B false))))
theorem f13_MR (x0 x1:TV):aB prog 13 [x0,x1]=f13_M x0 x1:=by kernel_rfl
def f14_0_S  (x0 y1 y2 y3 y4 y5 y6 y7 y8:TV):ASt:=⟨[Jk,Jk,Pt 0,Pt 1,Jk,AV.tv x0] ++ Rj 46,[some (BC.cells [CA.t y1,CA.t y2,CA.t y3,CA.t y4]),some (BC.cells [CA.t y5,CA.t y6,CA.t y7,CA.t y8])] ++ Rz 74,[]⟩
def f14_M (x0 x1:TV):Prg TV :=
 chk (TV.isAgg x0 4) (
 chk (TV.isAgg x1 4) (
 tv (pbin (.int .i64) .neq (cell x0 0) (cell x1 0)) fun v0 =>
 Prg.ite (asBool v0) (
 ret (B false)) (
 tv (pbin Kd.bool .neq (cell x0 2) (cell x1 2)) fun v1 =>
 Prg.ite (asBool v1) (
 ret (B false)) (
 tv (pbin Kd.bool .neq (cell x0 3) (cell x1 3)) fun v2 =>
 Prg.ite (asBool v2) (
 ret (B false)) (
 tv (plen (.slice 23) (cell x0 1)) fun v3 =>
 tv (plen (.slice 23) (cell x1 1)) fun v4 =>
 tv (pbin (.int .i64) .neq v3 v4) fun v5 =>
 Prg.ite (asBool v5) (
 ret (B false)) (
 jmp [0,0,1,0,1,1] (f14_0_S (I 0) (cell x0 0) (cell x0 1) (cell x0 2) (cell x0 3) (cell x1 0) (cell x1 1) (cell x1 2) (cell x1 3))))))))
def f14_0  (x0 y1 y2 y3 y4 y5 y6 y7 y8:TV):Prg TV :=
 tv (plen (.slice 23) y2) fun v6 =>
 tv (pbin (.int .i64) .lss x0 v6) fun v7 =>
 Prg.ite (asBool v7) (
 tvs (pidx 1 y2 x0) fun e8 =>
 chk (Nat.blt 0 (List.length e8)) (
 tvs (pidx 1 y6 x0) fun e9 =>
 chk (Nat.blt 0 (List.length e9)) (
 tv (pbin (.int .u16) .neq (nth hole e8 0) (nth hole e9 0)) fun v10 =>
 Prg.ite (asBool v10) (
 ret (B false)) (
 tv (pbin (.int .i64) .add x0 (I 1)) fun v11 =>
 jmp [0,0,1,0,1,1] (f14_0_S v11 y1 y2 y3 y4 y5 y6 y7 y8))))) (
 ret (B true))
theorem f14_MR (x0 x1:TV):aB prog 14 [x0,x1]=f14_M x0 x1:=by kernel_rfl
theorem f14_0_J  {x0 y1 y2 y3 y4 y5 y6 y7 y8:TV} {r:TV} (h:aa prog 14 (f14_0 x0 y1 y2 y3 y4 y5 y6 y7 y8) r):aa prog 14 (.jmp [0,0,1,0,1,1] (f14_0_S x0 y1 y2 y3 y4 y5 y6 y7 y8)) r:=aa.jmp (by kernel_rfl) h
def f15_0_S  (x0 x1 y2:TV):ASt:=⟨[Jk,Pt 0,Jk,AV.tv x0,AV.tv x1] ++ Rj 82,[Ct y2] ++ Rz 110,[]⟩
def f15_1_S  (x0 x1 x2 y3:TV):ASt:=⟨[Jk,Pt 0,Jk,AV.tv x0,AV.tv x1,AV.tv x2] ++ Rj 81,[Ct y3] ++ Rz 110,[]⟩
def f15_2_S  (x0 x1 x2 x3 y4 y5 y6 y7 y8 y9 y10 y11 y12 y13 y14 y15 y16 y17 y18:TV):ASt:=⟨[Jk,Pt 0,Jk,AV.tv x0,AV.tv x1,AV.tv x2,Pt 1,AV.tv x3] ++ Rj 79,[Ct y4,some (BC.cells [CA.t y5,CA.t y6,CA.t y7,CA.t y8,CA.t y9,CA.t y10,CA.t y11,CA.t y12,CA.t y13,CA.t y14,CA.t y15,CA.t y16,CA.t y17,CA.t y18])] ++ Rz 109,[]⟩
def f15_M (x0:TV):Prg TV :=
 chk (TV.isAgg x0 1) (
 tv (plen (.slice 55) (cell x0 0)) fun v0 =>
 tv (pbin (.int .i64) .gtr v0 (I 20)) fun v1 =>
 Prg.ite (asBool v1) (
 ret (B false)) (
 jmp [0,0,1,0,1,1,1] (f15_0_S (I 0) (I 0) (cell x0 0))))
def f15_0  (x0 x1 y2:TV):Prg TV :=
 tv (plen (.slice 55) y2) fun v2 =>
 tv (pbin (.int .i64) .lss x1 v2) fun v3 =>
 Prg.ite (asBool v3) (
 tvs (pidx 3 y2 x1) fun e4 =>
 chk (Nat.blt 2 (List.length e4)) (
 tv (plen (.slice 58) (nth hole e4 2)) fun v5 =>
 tv (pbin (.int .i64) .gtr v5 (I 70)) fun v6 =>
 Prg.ite (asBool v6) (
 ret (B false)) (
 jmp [0,0,1,1,0,0,1,0,0,1,0,1,1,1] (f15_1_S x0 x1 (I 0) y2)))) (
 tv (pbin (.int .i64) .leq x0 (I 2000)) fun v7 =>
 ret v7)
def f15_1  (x0 x1 x2 y3:TV):Prg TV :=
 tvs (pidx 3 y3 x1) fun e8 =>
 chk (Nat.blt 2 (List.length e8)) (
 tv (plen (.slice 58) (nth hole e8 2)) fun v9 =>
 tv (pbin (.int .i64) .lss x2 v9) fun v10 =>
 Prg.ite (asBool v10) (
 tvs (pidx 3 y3 x1) fun e11 =>
 chk (Nat.blt 2 (List.length e11)) (
 tvs (pidx 14 (nth hole e11 2) x2) fun e12 =>
 chk (Nat.ble 14 (List.length e12)) (
 tv (plen (.slice 26) (nth hole e12 5)) fun v13 =>
 tv (pbin (.int .i64) .gtr v13 (I 70)) fun v14 =>
 Prg.ite (asBool v14) (
 ret (B false)) (
 tv (plen (.slice 23) (nth hole e12 2)) fun v15 =>
 tv (pbin (.int .i64) .gtr v15 (I 20)) fun v16 =>
 Prg.ite (asBool v16) (
 ret (B false)) (
 tv (plen (.slice 3) (nth hole e12 10)) fun v17 =>
 tv (pbin (.int .i64) .gtr v17 (I 20)) fun v18 =>
 Prg.ite (asBool v18) (
 ret (B false)) (
 tv (plen (.slice 26) (nth hole e12 5)) fun v19 =>
 tv (pbin (.int .i64) .add x0 v19) fun v20 =>
 jmp [0,0,1,1,1,1,0,0,1,0,0,1,1,0,0,1,0,0,1,0,1,1,1] (f15_2_S v20 x1 x2 (I 0) y3 (nth hole e12 0) (nth hole e12 1) (nth hole e12 2) (nth hole e12 3) (nth hole e12 4) (nth hole e12 5) (nth hole e12 6) (nth hole e12 7) (nth hole e12 8) (nth hole e12 9) (nth hole e12 10) (nth hole e12 11) (nth hole e12 12) (nth hole e12 13)))))))) (
 tv (pbin (.int .i64) .add x1 (I 1)) fun v21 =>
 jmp [0,0,1,0,1,1,1] (f15_0_S x0 v21 y3)))
def f15_2  (x0 x1 x2 x3 y4 y5 y6 y7 y8 y9 y10 y11 y12 y13 y14 y15 y16 y17 y18:TV):Prg TV :=
 tv (plen (.slice 26) y10) fun v22 =>
 tv (pbin (.int .i64) .lss x3 v22) fun v23 =>
 Prg.ite (asBool v23) (
 tvs (pidx 7 y10 x3) fun e24 =>
 chk (Nat.blt 6 (List.length e24)) (
 tv (plen (.slice 3) (nth hole e24 6)) fun v25 =>
 tv (pbin (.int .i64) .gtr v25 (I 20)) fun v26 =>
 Prg.ite (asBool v26) (
 ret (B false)) (
 tv (pbin (.int .i64) .add x3 (I 1)) fun v27 =>
 jmp [0,0,1,1,1,1,0,0,1,0,0,1,1,0,0,1,0,0,1,0,1,1,1] (f15_2_S x0 x1 x2 v27 y4 y5 y6 y7 y8 y9 y10 y11 y12 y13 y14 y15 y16 y17 y18)))) (
 tv (pbin (.int .i64) .add x2 (I 1)) fun v28 =>
 jmp [0,0,1,1,0,0,1,0,0,1,0,1,1,1] (f15_1_S x0 x1 v28 y4))
theorem f15_MR (x0:TV):aB prog 15 [x0]=f15_M x0:=by kernel_rfl
theorem f15_0_J  {x0 x1 y2:TV} {r:TV} (h:aa prog 15 (f15_0 x0 x1 y2) r):aa prog 15 (.jmp [0,0,1,0,1,1,1] (f15_0_S x0 x1 y2)) r:=aa.jmp (by kernel_rfl) h
theorem f15_1_J  {x0 x1 x2 y3:TV} {r:TV} (h:aa prog 15 (f15_1 x0 x1 x2 y3) r):aa prog 15 (.jmp [0,0,1,1,0,0,1,0,0,1,0,1,1,1] (f15_1_S x0 x1 x2 y3)) r:=aa.jmp (by kernel_rfl) h
theorem f15_2_J  {x0 x1 x2 x3 y4 y5 y6 y7 y8 y9 y10 y11 y12 y13 y14 y15 y16 y17 y18:TV} {r:TV} (h:aa prog 15 (f15_2 x0 x1 x2 x3 y4 y5 y6 y7 y8 y9 y10 y11 y12 y13 y14 y15 y16 y17 y18) r):aa prog 15 (.jmp [0,0,1,1,1,1,0,0,1,0,0,1,1,0,0,1,0,0,1,0,1,1,1] (f15_2_S x0 x1 x2 x3 y4 y5 y6 y7 y8 y9 y10 y11 y12 y13 y14 y15 y16 y17 y18)) r:=aa.jmp (by kernel_rfl) h
def f16_0_S  (x0 x1 x2 w3 w4:TV):ASt:=⟨Rj 4 ++ [Pt 0] ++ Rj 8 ++ [AV.tv x0,AV.tv x1,AV.tv x2] ++ Rj 24,[some (BC.cells [CA.may 0 77,CA.sref 1 1 []]),some (BC.tree [w3,w4])] ++ Rz 62,[]⟩
def f16_1_S  (x0 x1 x2 x3 x4 x5 w6 w7:TV):ASt:=⟨Rj 4 ++ [Pt 0] ++ Rj 8 ++ [AV.tv x0,AV.tv x1,AV.tv x2] ++ Rj 11 ++ [AV.tv x3,AV.tv x4,AV.tv x5] ++ Rj 10,[some (BC.cells [CA.may 0 77,CA.sref 1 1 []]),some (BC.tree [w6,w7])] ++ Rz 62,[]⟩
def f16_2_S  (w0 w1:TV):ASt:=⟨Rj 4 ++ [Pt 0] ++ Rj 35,[some (BC.cells [CA.may 0 77,CA.sref 1 1 []]),some (BC.tree [w0,w1])] ++ Rz 62,[]⟩
def f16_M (x0:TV):Prg TV :=
 chk (TV.isAgg x0 1) (
 call 34 [agg [cell x0 0]] fun v0 =>
 chk (ab aM [v0] 0) (
 tv (pun .not v0) fun v1 =>
 Prg.ite (asBool v1) (
 ret (tup [TV.lit (Value.string (ByteArray.mk (Array.mk []))),I 1])) (
 tv (plen (.slice 55) (cell x0 0)) fun v2 =>
 chk true (
 jmp [0,0,1,0,1,1,1] (f16_0_S (cell x0 0) v2 (I 0) hole (TV.lit ah))))))
def f16_0  (x0 x1 x2 w3 w4:TV):Prg TV :=
 tv (pbin (.int .i64) .lss x2 x1) fun v3 =>
 Prg.ite (asBool v3) (
 tvs (pidx 3 x0 x2) fun e4 =>
 chk (Nat.ble 3 (List.length e4)) (
 call 36 [TV.lit (Value.string (ByteArray.mk (Array.mk [(102:UInt8),(117:UInt8),(110:UInt8),(99:UInt8)]))),frz (TV.sl true 1 (chunks 1 2 [nth hole e4 0,nth hole e4 1]))] fun v5 =>
 chk (ab cp [v5] 0) (
 chk (Bool.and true (Bool.and (TV.bV (cn 5 w4) 5) true)) (
 call 35 [tup [tup [],cn 5 w4],v5] fun v6 =>
 chk (Bool.and (Bool.and (isTup v6 2) (isTup (comp v6 1) 2)) (Bool.and (TV.aW (comp (comp v6 1) 0)) (Bool.and (TV.bV (comp (comp v6 1) 1) 5) true))) (
 chk (isTup (comp v6 0) 0) (
 tv (plen (.slice 58) (nth hole e4 2)) fun v7 =>
 jmp [0,0,1,1,1,0,0,1,1,0,0,1,0,1,1,1] (f16_1_S x0 x1 x2 (nth hole e4 2) v7 (I 0) hole (comp (comp v6 1) 1)))))))) (
 jmp [1,1,1,1] (f16_2_S w3 w4))
def f16_1  (x0 x1 x2 x3 x4 x5 w6 w7:TV):Prg TV :=
 tv (pbin (.int .i64) .lss x5 x4) fun v8 =>
 Prg.ite (asBool v8) (
 tvs (pidx 14 x3 x5) fun e9 =>
 chk (Nat.ble 14 (List.length e9)) (
 chk (Bool.and true (Bool.and (TV.bV (cn 5 w7) 5) true)) (
 call 37 [tup [tup [],cn 5 w7],agg [nth hole e9 0,nth hole e9 1,nth hole e9 2,nth hole e9 3,nth hole e9 4,nth hole e9 5,nth hole e9 6,nth hole e9 7,nth hole e9 8,nth hole e9 9,nth hole e9 10,nth hole e9 11,nth hole e9 12,nth hole e9 13]] fun v10 =>
 chk (Bool.and (Bool.and (isTup v10 2) (isTup (comp v10 1) 2)) (Bool.and (TV.aW (comp (comp v10 1) 0)) (Bool.and (TV.bV (comp (comp v10 1) 1) 5) true))) (
 chk (isTup (comp v10 0) 0) (
 tv (pbin (.int .i64) .add x5 (I 1)) fun v11 =>
 jmp [0,0,1,1,1,0,0,1,1,0,0,1,0,1,1,1] (f16_1_S x0 x1 x2 x3 x4 v11 hole (comp (comp v10 1) 1))))))) (
 tv (pbin (.int .i64) .add x2 (I 1)) fun v12 =>
 jmp [0,0,1,0,1,1,1] (f16_0_S x0 x1 v12 w6 w7))
def f16_2  (w0 w1:TV):Prg TV :=
 chk (Bool.and true (Bool.and (TV.bV (cn 5 w1) 5) true)) (
 call 38 [tup [tup [],cn 5 w1]] fun v13 =>
 chk (Bool.and (Bool.and (isTup v13 2) (isTup (comp v13 1) 2)) (Bool.and (TV.aW (comp (comp v13 1) 0)) (Bool.and (TV.bV (comp (comp v13 1) 1) 5) true))) (
 chk (ab bF [comp v13 0] 0) (
 tv (pbin (.int .i64) .gtr (comp v13 0) (I 65536)) fun v14 =>
 Prg.ite (asBool v14) (
 ret (tup [TV.lit (Value.string (ByteArray.mk (Array.mk []))),I 3])) (
 chk (Bool.and true (Bool.and (TV.bV (cn 5 (comp (comp v13 1) 1)) 5) true)) (
 call 39 [tup [tup [],cn 5 (comp (comp v13 1) 1)]] fun v15 =>
 chk (Bool.and (Bool.and (isTup v15 2) (isTup (comp v15 1) 2)) (Bool.and (TV.aW (comp (comp v15 1) 0)) (Bool.and (TV.bV (comp (comp v15 1) 1) 5) true))) (
 chk (ab cp [comp v15 0] 0) (
 ret (tup [comp v15 0,I 0]))))))))
theorem f16_MR (x0:TV):aB prog 16 [x0]=f16_M x0:=by kernel_rfl
theorem f16_0_J  {x0 x1 x2 w3 w4:TV} {r:TV} (h:aa prog 16 (f16_0 x0 x1 x2 w3 w4) r):aa prog 16 (.jmp [0,0,1,0,1,1,1] (f16_0_S x0 x1 x2 w3 w4)) r:=aa.jmp (by kernel_rfl) h
theorem f16_1_J  {x0 x1 x2 x3 x4 x5 w6 w7:TV} {r:TV} (h:aa prog 16 (f16_1 x0 x1 x2 x3 x4 x5 w6 w7) r):aa prog 16 (.jmp [0,0,1,1,1,0,0,1,1,0,0,1,0,1,1,1] (f16_1_S x0 x1 x2 x3 x4 x5 w6 w7)) r:=aa.jmp (by kernel_rfl) h
theorem f16_2_J  {w0 w1:TV} {r:TV} (h:aa prog 16 (f16_2 w0 w1) r):aa prog 16 (.jmp [1,1,1,1] (f16_2_S w0 w1)) r:=aa.jmp (by kernel_rfl) h
def f17_0_S  (x0 x1 x2 x3 y4 w5:TV):ASt:=⟨[Jk,Jk,Pt 0,Jk,Jk,Pt 1,AV.tv x0,AV.tv x1,AV.tv x2,AV.tv x3] ++ Rj 46,[some (BC.cells [CA.junk]),some (BC.cells [CA.sref 2 0 [],CA.t y4]),Tr w5] ++ Rz 77,[]⟩
def f17_1_S  (x0 x1 y2 w3:TV):ASt:=⟨[Jk,Jk,Pt 0,Jk,Jk,Pt 1,AV.tv x0,AV.tv x1] ++ Rj 48,[some (BC.cells [CA.junk]),some (BC.cells [CA.sref 2 0 [],CA.t y2]),Tr w3] ++ Rz 77,[]⟩
def f17_2_S  (x0 x1 y2 w3:TV):ASt:=⟨[Jk,Jk,Pt 0,Jk,Jk,Pt 1,AV.tv x0] ++ Rj 38 ++ [AV.tv x1] ++ Rj 10,[some (BC.cells [CA.junk]),some (BC.cells [CA.sref 2 0 [],CA.t y2]),Tr w3] ++ Rz 77,[]⟩
def f17_M (x0:TV):Prg TV :=
 tv (plen Kd.str x0) fun v0 =>
 tv (pbin (.int .i64) .gtr v0 (I 65536)) fun v1 =>
 Prg.ite (asBool v1) (
 ret (tup [agg [TV.lit ah],I 3,I 0])) (
 call 40 [x0,TV.lit (Value.string (ByteArray.mk (Array.mk [(10:UInt8)])))] fun v2 =>
 chk (isTup v2 3) (
 chk (ab cp [comp v2 0] 0) (
 chk (ab cp [comp v2 1] 0) (
 chk (ab aM [comp v2 2] 0) (
 chk true (
 jmp [0,0,0,1,1,1,1,1] (f17_0_S (I 1) (comp v2 0) (comp v2 1) (comp v2 2) (I 0) (TV.lit ah))))))))
def f17_0  (x0 x1 x2 x3 y4 w5:TV):Prg TV :=
 Prg.ite (asBool x3) (
 chk (Bool.and (isSl w5) (Bool.and (isSc y4) true)) (
 call 41 [tup [w5,y4],x1] fun v3 =>
 chk (Bool.and (Bool.and (isTup v3 2) (isTup (comp v3 1) 2)) (Bool.and (isSl (comp (comp v3 1) 0)) (Bool.and (isSc (comp (comp v3 1) 1)) true))) (
 chk (ab bF [comp v3 0] 0) (
 tv (pbin (.int .i64) .neq (comp v3 0) (I 0)) fun v4 =>
 Prg.ite (asBool v4) (
 ret (tup [agg [TV.lit ah],comp v3 0,x0])) (
 tv (pbin (.int .i64) .add x0 (I 1)) fun v5 =>
 call 40 [x2,TV.lit (Value.string (ByteArray.mk (Array.mk [(10:UInt8)])))] fun v6 =>
 chk (isTup v6 3) (
 chk (ab cp [comp v6 0] 0) (
 chk (ab cp [comp v6 1] 0) (
 chk (ab aM [comp v6 2] 0) (
 jmp [0,0,0,1,1,1,1,1] (f17_0_S v5 (comp v6 0) (comp v6 1) (comp v6 2) (comp (comp v3 1) 1) (comp (comp v3 1) 0))))))))))) (
 jmp [1,1,1,1,1,1] (f17_1_S x0 x1 y4 w5))
def f17_1  (x0 x1 y2 w3:TV):Prg TV :=
 tv (pbin Kd.str .neq x1 (TV.lit (Value.string (ByteArray.mk (Array.mk []))))) fun v7 =>
 Prg.ite (asBool v7) (
 jmp [1,0,1,1,1,1,1,1] (f17_2_S x0 (B true) y2 w3)) (
 call 42 [y2] fun v8 =>
 chk (ab aM [v8] 0) (
 tv (pun .not v8) fun v9 =>
 jmp [1,0,1,1,1,1,1,1] (f17_2_S x0 v9 y2 w3)))
def f17_2  (x0 x1 y2 w3:TV):Prg TV :=
 Prg.ite (asBool x1) (
 ret (tup [agg [TV.lit ah],I 2,x0])) (
 call 34 [agg [frz w3]] fun v10 =>
 chk (ab aM [v10] 0) (
 tv (pun .not v10) fun v11 =>
 Prg.ite (asBool v11) (
 ret (tup [agg [TV.lit ah],I 1,I 0])) (
 ret (tup [agg [w3],I 0,I 0]))))
theorem f17_MR (x0:TV):aB prog 17 [x0]=f17_M x0:=by kernel_rfl
theorem f17_0_J  {x0 x1 x2 x3 y4 w5:TV} {r:TV} (h:aa prog 17 (f17_0 x0 x1 x2 x3 y4 w5) r):aa prog 17 (.jmp [0,0,0,1,1,1,1,1] (f17_0_S x0 x1 x2 x3 y4 w5)) r:=aa.jmp (by kernel_rfl) h
theorem f17_1_J  {x0 x1 y2 w3:TV} {r:TV} (h:aa prog 17 (f17_1 x0 x1 y2 w3) r):aa prog 17 (.jmp [1,1,1,1,1,1] (f17_1_S x0 x1 y2 w3)) r:=aa.jmp (by kernel_rfl) h
theorem f17_2_J  {x0 x1 y2 w3:TV} {r:TV} (h:aa prog 17 (f17_2 x0 x1 y2 w3) r):aa prog 17 (.jmp [1,0,1,1,1,1,1,1] (f17_2_S x0 x1 y2 w3)) r:=aa.jmp (by kernel_rfl) h
def f18_0_S  (x0 y1 y2:TV):ASt:=⟨[Jk,Jk,Pt 0,Pt 1,Jk,AV.tv x0] ++ Rj 26,[Ct y1,Ct y2] ++ Rz 54,[]⟩
def f18_M (x0 x1:TV):Prg TV :=
 chk (TV.isAgg x0 1) (
 chk (TV.isAgg x1 1) (
 tv (plen (.slice 55) (cell x0 0)) fun v0 =>
 tv (plen (.slice 55) (cell x1 0)) fun v1 =>
 tv (pbin (.int .i64) .neq v0 v1) fun v2 =>
 Prg.ite (asBool v2) (
 ret (B false)) (
 jmp [0,0,1,0,1,1] (f18_0_S (I 0) (cell x0 0) (cell x1 0)))))
def f18_0  (x0 y1 y2:TV):Prg TV :=
 tv (plen (.slice 55) y1) fun v3 =>
 tv (pbin (.int .i64) .lss x0 v3) fun v4 =>
 Prg.ite (asBool v4) (
 tvs (pidx 3 y1 x0) fun e5 =>
 chk (Nat.ble 3 (List.length e5)) (
 tvs (pidx 3 y2 x0) fun e6 =>
 chk (Nat.ble 3 (List.length e6)) (
 call 43 [agg [nth hole e5 0,nth hole e5 1,nth hole e5 2],agg [nth hole e6 0,nth hole e6 1,nth hole e6 2]] fun v7 =>
 chk (ab aM [v7] 0) (
 tv (pun .not v7) fun v8 =>
 Prg.ite (asBool v8) (
 ret (B false)) (
 tv (pbin (.int .i64) .add x0 (I 1)) fun v9 =>
 jmp [0,0,1,0,1,1] (f18_0_S v9 y1 y2)))))) (
 ret (B true))
theorem f18_MR (x0 x1:TV):aB prog 18 [x0,x1]=f18_M x0 x1:=by kernel_rfl
theorem f18_0_J  {x0 y1 y2:TV} {r:TV} (h:aa prog 18 (f18_0 x0 y1 y2) r):aa prog 18 (.jmp [0,0,1,0,1,1] (f18_0_S x0 y1 y2)) r:=aa.jmp (by kernel_rfl) h
def f19_M (x0:TV):Prg TV :=
 call 44 [x0,TV.lit (Value.string (ByteArray.mk (Array.mk [(32:UInt8)]))),I 14] fun v0 =>
 chk (ab zSl [v0] 0) (
 ret v0)
theorem f19_MR (x0:TV):aB prog 19 [x0]=f19_M x0:=by kernel_rfl
def f20_0_S  (x0 x1 x2 w3 y4 y5 y6 y7 y8 y9 y10 y11 y12 y13 y14 y15 y16 y17 y18:TV):ASt:=⟨[Jk,AV.one (CA.psl 0 2),Jk,Jk,Jk,Sr 1,Jk,Jk,AV.tv x0,AV.tv x1,AV.tv x2] ++ Rj 22,[some (BC.cells [CA.ptr 3 1,CA.ptr 4 0]),Tr w3,some (BC.cells [CA.t y4,CA.t y5,CA.t y6,CA.t y7,CA.t y8,CA.t y9,CA.t y10]),some (BC.cells [CA.t y11,CA.t y12,CA.t y13,CA.t y14,CA.t y15,CA.t y16,CA.t y17]),Ct y18] ++ Rz 120,(Rj 4 ++ [Pt 2,Pt 3,Pt 4] ++ Rj 61)⟩
def f20_1_S  (x0 x1 x2 y3 y4 y5 y6 y7 y8 y9:TV):ASt:=⟨[Jk,AV.tv x0,Jk,Jk,Pt 0,Pt 1,Jk,Jk,Jk,AV.tv x1] ++ Rj 9 ++ [AV.tv x2] ++ Rj 48,[some (BC.cells [CA.junk,CA.junk,CA.junk,CA.junk,CA.junk,CA.junk,CA.junk]),some (BC.cells [CA.t y3,CA.t y4,CA.t y5,CA.t y6,CA.t y7,CA.t y8,CA.t y9])] ++ Rz 90,[]⟩
def f20_2_S  (x0 x1 x2 w3 y4 y5 y6 y7 y8 y9 y10:TV):ASt:=⟨[Jk,AV.one (CA.psl 0 2),Jk,Jk,Jk,Sr 1,Jk,Jk,AV.tv x0,AV.tv x1,AV.tv x2] ++ Rj 22,[some (BC.cells [CA.ptr 3 1,CA.ptr 3 2]),Tr w3,some (BC.cells [CA.junk,CA.junk,CA.junk,CA.junk,CA.junk,CA.junk,CA.junk]),some (BC.cells [CA.t y4,CA.t y5,CA.t y6,CA.t y7,CA.t y8,CA.t y9,CA.t y10])] ++ Rz 121,(Rj 4 ++ [Pt 2,Pt 3] ++ Rj 62)⟩
def f20_3_S  (x0 x1 x2 y3 y4 y5 y6 y7 y8 y9:TV):ASt:=⟨[Jk,AV.tv x0,Jk,Jk,Pt 0,Pt 1,Jk,Jk,Jk,AV.tv x1] ++ Rj 17 ++ [AV.tv x2] ++ Rj 40,[some (BC.cells [CA.junk,CA.junk,CA.junk,CA.junk,CA.junk,CA.junk,CA.junk]),some (BC.cells [CA.t y3,CA.t y4,CA.t y5,CA.t y6,CA.t y7,CA.t y8,CA.t y9])] ++ Rz 90,[]⟩
def f20_4_S  (x0 x1 x2 w3 y4 y5 y6 y7 y8 y9 y10:TV):ASt:=⟨[Jk,AV.one (CA.psl 0 3),Jk,Jk,Jk,Sr 1,Jk,Jk,AV.tv x0,AV.tv x1,AV.tv x2] ++ Rj 22,[some (BC.cells [CA.ptr 3 1,CA.ptr 3 2,CA.ptr 3 3]),Tr w3,some (BC.cells [CA.junk,CA.junk,CA.junk,CA.junk,CA.junk,CA.junk,CA.junk]),some (BC.cells [CA.t y4,CA.t y5,CA.t y6,CA.t y7,CA.t y8,CA.t y9,CA.t y10])] ++ Rz 121,(Rj 4 ++ [Pt 2,Pt 3] ++ Rj 62)⟩
def f20_5_S  (x0 x1 x2 w3 y4 y5 y6 y7 y8 y9 y10:TV):ASt:=⟨[Jk,AV.one (CA.psl 0 2),Jk,Jk,Jk,Sr 1,Jk,Jk,AV.tv x0,AV.tv x1,AV.tv x2] ++ Rj 22,[some (BC.cells [CA.ptr 3 2,CA.ptr 3 3]),Tr w3,some (BC.cells [CA.junk,CA.junk,CA.junk,CA.junk,CA.junk,CA.junk,CA.junk]),some (BC.cells [CA.t y4,CA.t y5,CA.t y6,CA.t y7,CA.t y8,CA.t y9,CA.t y10])] ++ Rz 121,(Rj 4 ++ [Pt 2,Pt 3] ++ Rj 62)⟩
def f20_6_S  (x0 x1 x2 w3 y4 y5 y6 y7 y8 y9 y10:TV):ASt:=⟨[Jk,AV.one (CA.psl 0 2),Jk,Jk,Jk,Sr 1,Jk,Jk,AV.tv x0,AV.tv x1,AV.tv x2] ++ Rj 22,[some (BC.cells [CA.ptr 3 1,CA.ptr 3 5]),Tr w3,some (BC.cells [CA.junk,CA.junk,CA.junk,CA.junk,CA.junk,CA.junk,CA.junk]),some (BC.cells [CA.t y4,CA.t y5,CA.t y6,CA.t y7,CA.t y8,CA.t y9,CA.t y10])] ++ Rz 121,(Rj 4 ++ [Pt 2,Pt 3] ++ Rj 62)⟩
def f20_7_S  (x0 x1 x2 w3 y4 y5 y6 y7 y8 y9 y10:TV):ASt:=⟨[Jk,AV.one (CA.psl 0 1),Jk,Jk,Jk,Sr 1,Jk,Jk,AV.tv x0,AV.tv x1,AV.tv x2] ++ Rj 22,[some (BC.cells [CA.ptr 3 2]),Tr w3,some (BC.cells [CA.junk,CA.junk,CA.junk,CA.junk,CA.junk,CA.junk,CA.junk]),some (BC.cells [CA.t y4,CA.t y5,CA.t y6,CA.t y7,CA.t y8,CA.t y9,CA.t y10])] ++ Rz 121,(Rj 4 ++ [Pt 2,Pt 3] ++ Rj 62)⟩
def f20_8_S  (x0 x1 x2 w3 y4 y5 y6 y7 y8 y9 y10:TV):ASt:=⟨[Jk,AV.one (CA.psl 0 1),Jk,Jk,Jk,Sr 1,Jk,Jk,AV.tv x0,AV.tv x1,AV.tv x2] ++ Rj 22,[some (BC.cells [CA.ptr 3 1]),Tr w3,some (BC.cells [CA.junk,CA.junk,CA.junk,CA.junk,CA.junk,CA.junk,CA.junk]),some (BC.cells [CA.t y4,CA.t y5,CA.t y6,CA.t y7,CA.t y8,CA.t y9,CA.t y10])] ++ Rz 121,(Rj 4 ++ [Pt 2,Pt 3] ++ Rj 62)⟩
def f20_M (x0 x1:TV):Prg TV :=
 chk (TV.iP x0) (
 tv (pbin (.int .i64) .eql x0 (I 1)) fun v0 =>
 Prg.ite (asBool v0) (
 tv (plen (.slice 9) x1) fun v1 =>
 chk true (
 jmp [0,0,1,0,1,1,8,0,1,0,1,0,1,0,1,1] (f20_0_S x1 v1 (I 0) (TV.lit ah) (I 0) (I 0) (I 0) (I 0) (W 0) (I 0) (TV.lit ah) x0 (I 0) (I 0) (I 0) (W 0) (I 0) (TV.lit ah) (I 0)))) (
 tv (pbin (.int .i64) .eql x0 (I 2)) fun v2 =>
 Prg.ite (asBool v2) (
 jmp [1,1,1,0,1,0,1,1] (f20_1_S x1 x0 v2 x0 (I 0) (I 0) (I 0) (W 0) (I 0) (TV.lit ah))) (
 tv (pbin (.int .i64) .eql x0 (I 9)) fun v3 =>
 jmp [1,1,1,0,1,0,1,1] (f20_1_S x1 x0 v3 x0 (I 0) (I 0) (I 0) (W 0) (I 0) (TV.lit ah)))))
def f20_0  (x0 x1 x2 w3 y4 y5 y6 y7 y8 y9 y10 y11 y12 y13 y14 y15 y16 y17 y18:TV):Prg TV :=
 tv (pbin (.int .i64) .lss x2 x1) fun v4 =>
 Prg.ite (asBool v4) (
 tvs (pidx 1 x0 x2) fun e5 =>
 chk (Nat.blt 0 (List.length e5)) (
 tv (pbin (.int .i64) .lss x2 (I 2)) fun v6 =>
 Prg.ite (asBool v6) (
 nat (aR x2) fun n7 =>
 Prg.ite (some (Nat.beq n7 1)) (
 call 48 [nth hole e5 0] fun v8 =>
 chk (ab bF [v8] 0) (
 tv (pbin (.int .i64) .add x2 (I 1)) fun v9 =>
 jmp [0,0,1,0,1,1,8,0,1,0,1,0,1,0,1,1] (f20_0_S x0 x1 v9 w3 y4 y5 y6 y7 y8 y9 y10 y11 y12 y13 y14 y15 y16 y17 v8))) (
 Prg.ite (some (Nat.beq n7 0)) (
 call 48 [nth hole e5 0] fun v10 =>
 chk (ab bF [v10] 0) (
 tv (pbin (.int .i64) .add x2 (I 1)) fun v11 =>
 jmp [0,0,1,0,1,1,8,0,1,0,1,0,1,0,1,1] (f20_0_S x0 x1 v11 w3 y4 y5 y6 y7 y8 y9 y10 y11 v10 y13 y14 y15 y16 y17 y18))) (
 Prg.fail))) (
 call 48 [nth hole e5 0] fun v12 =>
 chk (ab bF [v12] 0) (
 rws (pelems 1 (TV.sl true 1 (chunks 1 1 [v12]))) fun r13 =>
 tv (papp 1 w3 (lg r13)) fun v14 =>
 tv (pbin (.int .i64) .add x2 (I 1)) fun v15 =>
 jmp [0,0,1,0,1,1,8,0,1,0,1,0,1,0,1,1] (f20_0_S x0 x1 v15 v14 y4 y5 y6 y7 y8 y9 y10 y11 y12 y13 y14 y15 y16 y17 y18))))) (
 tv (pconv (.int .u16) y18) fun v16 =>
 chk (aI (agg [y11,y12,y13,y14,v16,y16,y17])) (
 ret (agg [y11,y12,y13,y14,v16,y16,y17])))
def f20_1  (x0 x1 x2 y3 y4 y5 y6 y7 y8 y9:TV):Prg TV :=
 Prg.ite (asBool x2) (
 tv (plen (.slice 9) x0) fun v17 =>
 chk true (
 jmp [0,0,1,0,1,1,10,0,1,1,1,0,1,0,1,1] (f20_2_S x0 v17 (I 0) (TV.lit ah) y3 y4 y5 y6 y7 y8 y9))) (
 tv (pbin (.int .i64) .eql x1 (I 3)) fun v18 =>
 Prg.ite (asBool v18) (
 jmp [1,1,1,1,1,0,1,0,1,1] (f20_3_S x0 x1 v18 y3 y4 y5 y6 y7 y8 y9)) (
 tv (pbin (.int .i64) .eql x1 (I 4)) fun v19 =>
 Prg.ite (asBool v19) (
 jmp [1,1,1,1,1,0,1,0,1,1] (f20_3_S x0 x1 v19 y3 y4 y5 y6 y7 y8 y9)) (
 tv (pbin (.int .i64) .eql x1 (I 5)) fun v20 =>
 Prg.ite (asBool v20) (
 jmp [1,1,1,1,1,0,1,0,1,1] (f20_3_S x0 x1 v20 y3 y4 y5 y6 y7 y8 y9)) (
 tv (pbin (.int .i64) .eql x1 (I 6)) fun v21 =>
 Prg.ite (asBool v21) (
 jmp [1,1,1,1,1,0,1,0,1,1] (f20_3_S x0 x1 v21 y3 y4 y5 y6 y7 y8 y9)) (
 tv (pbin (.int .i64) .eql x1 (I 7)) fun v22 =>
 Prg.ite (asBool v22) (
 jmp [1,1,1,1,1,0,1,0,1,1] (f20_3_S x0 x1 v22 y3 y4 y5 y6 y7 y8 y9)) (
 tv (pbin (.int .i64) .eql x1 (I 8)) fun v23 =>
 jmp [1,1,1,1,1,0,1,0,1,1] (f20_3_S x0 x1 v23 y3 y4 y5 y6 y7 y8 y9)))))))
def f20_2  (x0 x1 x2 w3 y4 y5 y6 y7 y8 y9 y10:TV):Prg TV :=
 tv (pbin (.int .i64) .lss x2 x1) fun v24 =>
 Prg.ite (asBool v24) (
 tvs (pidx 1 x0 x2) fun e25 =>
 chk (Nat.blt 0 (List.length e25)) (
 tv (pbin (.int .i64) .lss x2 (I 2)) fun v26 =>
 Prg.ite (asBool v26) (
 nat (aR x2) fun n27 =>
 Prg.ite (some (Nat.beq n27 1)) (
 call 48 [nth hole e25 0] fun v28 =>
 chk (ab bF [v28] 0) (
 tv (pbin (.int .i64) .add x2 (I 1)) fun v29 =>
 jmp [0,0,1,0,1,1,10,0,1,1,1,0,1,0,1,1] (f20_2_S x0 x1 v29 w3 y4 y5 v28 y7 y8 y9 y10))) (
 Prg.ite (some (Nat.beq n27 0)) (
 call 48 [nth hole e25 0] fun v30 =>
 chk (ab bF [v30] 0) (
 tv (pbin (.int .i64) .add x2 (I 1)) fun v31 =>
 jmp [0,0,1,0,1,1,10,0,1,1,1,0,1,0,1,1] (f20_2_S x0 x1 v31 w3 y4 v30 y6 y7 y8 y9 y10))) (
 Prg.fail))) (
 call 48 [nth hole e25 0] fun v32 =>
 chk (ab bF [v32] 0) (
 rws (pelems 1 (TV.sl true 1 (chunks 1 1 [v32]))) fun r33 =>
 tv (papp 1 w3 (lg r33)) fun v34 =>
 tv (pbin (.int .i64) .add x2 (I 1)) fun v35 =>
 jmp [0,0,1,0,1,1,10,0,1,1,1,0,1,0,1,1] (f20_2_S x0 x1 v35 v34 y4 y5 y6 y7 y8 y9 y10))))) (
 chk (aI (agg [y4,y5,y6,y7,y8,y9,y10])) (
 ret (agg [y4,y5,y6,y7,y8,y9,y10])))
def f20_3  (x0 x1 x2 y3 y4 y5 y6 y7 y8 y9:TV):Prg TV :=
 Prg.ite (asBool x2) (
 tv (plen (.slice 9) x0) fun v36 =>
 chk true (
 jmp [0,0,1,0,1,1,12,0,1,1,1,1,1,0,1,0,1,1] (f20_4_S x0 v36 (I 0) (TV.lit ah) y3 y4 y5 y6 y7 y8 y9))) (
 tv (pbin (.int .i64) .eql x1 (I 10)) fun v37 =>
 Prg.ite (asBool v37) (
 tv (plen (.slice 9) x0) fun v38 =>
 chk true (
 jmp [0,0,1,0,1,1,10,0,1,1,1,1,1,1,1,0,1,0,1,1] (f20_5_S x0 v38 (I 0) (TV.lit ah) y3 y4 y5 y6 y7 y8 y9))) (
 tv (pbin (.int .i64) .eql x1 (I 11)) fun v39 =>
 Prg.ite (asBool v39) (
 tv (plen (.slice 9) x0) fun v40 =>
 chk true (
 jmp [0,0,1,0,1,1,10,0,1,1,1,1,1,1,1,1,1,0,1,0,1,1] (f20_6_S x0 v40 (I 0) (TV.lit ah) y3 y4 y5 y6 y7 y8 y9))) (
 tv (pbin (.int .i64) .eql x1 (I 12)) fun v41 =>
 Prg.ite (asBool v41) (
 tv (plen (.slice 9) x0) fun v42 =>
 chk true (
 jmp [0,0,1,0,1,1,8,0,1,1,1,1,1,1,1,1,1,1,1,0,1,0,1,1] (f20_7_S x0 v42 (I 0) (TV.lit ah) y3 y4 y5 y6 y7 y8 y9))) (
 tv (pbin (.int .i64) .eql x1 (I 13)) fun v43 =>
 Prg.ite (asBool v43) (
 tv (plen (.slice 9) x0) fun v44 =>
 chk true (
 jmp [0,0,1,0,1,1,8,0,1,1,1,1,1,1,1,1,1,1,1,1,1,0,1,0,1,1] (f20_8_S x0 v44 (I 0) (TV.lit ah) y3 y4 y5 y6 y7 y8 y9))) (
 chk (aI (agg [y3,y4,y5,y6,y7,y8,y9])) (
 ret (agg [y3,y4,y5,y6,y7,y8,y9])))))))
def f20_4  (x0 x1 x2 w3 y4 y5 y6 y7 y8 y9 y10:TV):Prg TV :=
 tv (pbin (.int .i64) .lss x2 x1) fun v45 =>
 Prg.ite (asBool v45) (
 tvs (pidx 1 x0 x2) fun e46 =>
 chk (Nat.blt 0 (List.length e46)) (
 tv (pbin (.int .i64) .lss x2 (I 3)) fun v47 =>
 Prg.ite (asBool v47) (
 nat (aR x2) fun n48 =>
 Prg.ite (some (Nat.beq n48 2)) (
 call 48 [nth hole e46 0] fun v49 =>
 chk (ab bF [v49] 0) (
 tv (pbin (.int .i64) .add x2 (I 1)) fun v50 =>
 jmp [0,0,1,0,1,1,12,0,1,1,1,1,1,0,1,0,1,1] (f20_4_S x0 x1 v50 w3 y4 y5 y6 v49 y8 y9 y10))) (
 Prg.ite (some (Nat.beq n48 1)) (
 call 48 [nth hole e46 0] fun v51 =>
 chk (ab bF [v51] 0) (
 tv (pbin (.int .i64) .add x2 (I 1)) fun v52 =>
 jmp [0,0,1,0,1,1,12,0,1,1,1,1,1,0,1,0,1,1] (f20_4_S x0 x1 v52 w3 y4 y5 v51 y7 y8 y9 y10))) (
 Prg.ite (some (Nat.beq n48 0)) (
 call 48 [nth hole e46 0] fun v53 =>
 chk (ab bF [v53] 0) (
 tv (pbin (.int .i64) .add x2 (I 1)) fun v54 =>
 jmp [0,0,1,0,1,1,12,0,1,1,1,1,1,0,1,0,1,1] (f20_4_S x0 x1 v54 w3 y4 v53 y6 y7 y8 y9 y10))) (
 Prg.fail)))) (
 call 48 [nth hole e46 0] fun v55 =>
 chk (ab bF [v55] 0) (
 rws (pelems 1 (TV.sl true 1 (chunks 1 1 [v55]))) fun r56 =>
 tv (papp 1 w3 (lg r56)) fun v57 =>
 tv (pbin (.int .i64) .add x2 (I 1)) fun v58 =>
 jmp [0,0,1,0,1,1,12,0,1,1,1,1,1,0,1,0,1,1] (f20_4_S x0 x1 v58 v57 y4 y5 y6 y7 y8 y9 y10))))) (
 chk (aI (agg [y4,y5,y6,y7,y8,y9,y10])) (
 ret (agg [y4,y5,y6,y7,y8,y9,y10])))
def f20_5  (x0 x1 x2 w3 y4 y5 y6 y7 y8 y9 y10:TV):Prg TV :=
 tv (pbin (.int .i64) .lss x2 x1) fun v59 =>
 Prg.ite (asBool v59) (
 tvs (pidx 1 x0 x2) fun e60 =>
 chk (Nat.blt 0 (List.length e60)) (
 tv (pbin (.int .i64) .lss x2 (I 2)) fun v61 =>
 Prg.ite (asBool v61) (
 nat (aR x2) fun n62 =>
 Prg.ite (some (Nat.beq n62 1)) (
 call 48 [nth hole e60 0] fun v63 =>
 chk (ab bF [v63] 0) (
 tv (pbin (.int .i64) .add x2 (I 1)) fun v64 =>
 jmp [0,0,1,0,1,1,10,0,1,1,1,1,1,1,1,0,1,0,1,1] (f20_5_S x0 x1 v64 w3 y4 y5 y6 v63 y8 y9 y10))) (
 Prg.ite (some (Nat.beq n62 0)) (
 call 48 [nth hole e60 0] fun v65 =>
 chk (ab bF [v65] 0) (
 tv (pbin (.int .i64) .add x2 (I 1)) fun v66 =>
 jmp [0,0,1,0,1,1,10,0,1,1,1,1,1,1,1,0,1,0,1,1] (f20_5_S x0 x1 v66 w3 y4 y5 v65 y7 y8 y9 y10))) (
 Prg.fail))) (
 call 48 [nth hole e60 0] fun v67 =>
 chk (ab bF [v67] 0) (
 rws (pelems 1 (TV.sl true 1 (chunks 1 1 [v67]))) fun r68 =>
 tv (papp 1 w3 (lg r68)) fun v69 =>
 tv (pbin (.int .i64) .add x2 (I 1)) fun v70 =>
 jmp [0,0,1,0,1,1,10,0,1,1,1,1,1,1,1,0,1,0,1,1] (f20_5_S x0 x1 v70 v69 y4 y5 y6 y7 y8 y9 y10))))) (
 chk (aI (agg [y4,y5,y6,y7,y8,y9,y10])) (
 ret (agg [y4,y5,y6,y7,y8,y9,y10])))
def f20_6  (x0 x1 x2 w3 y4 y5 y6 y7 y8 y9 y10:TV):Prg TV :=
 tv (pbin (.int .i64) .lss x2 x1) fun v71 =>
 Prg.ite (asBool v71) (
 tvs (pidx 1 x0 x2) fun e72 =>
 chk (Nat.blt 0 (List.length e72)) (
 tv (pbin (.int .i64) .lss x2 (I 2)) fun v73 =>
 Prg.ite (asBool v73) (
 nat (aR x2) fun n74 =>
 Prg.ite (some (Nat.beq n74 1)) (
 call 48 [nth hole e72 0] fun v75 =>
 chk (ab bF [v75] 0) (
 tv (pbin (.int .i64) .add x2 (I 1)) fun v76 =>
 jmp [0,0,1,0,1,1,10,0,1,1,1,1,1,1,1,1,1,0,1,0,1,1] (f20_6_S x0 x1 v76 w3 y4 y5 y6 y7 y8 v75 y10))) (
 Prg.ite (some (Nat.beq n74 0)) (
 call 48 [nth hole e72 0] fun v77 =>
 chk (ab bF [v77] 0) (
 tv (pbin (.int .i64) .add x2 (I 1)) fun v78 =>
 jmp [0,0,1,0,1,1,10,0,1,1,1,1,1,1,1,1,1,0,1,0,1,1] (f20_6_S x0 x1 v78 w3 y4 v77 y6 y7 y8 y9 y10))) (
 Prg.fail))) (
 call 48 [nth hole e72 0] fun v79 =>
 chk (ab bF [v79] 0) (
 rws (pelems 1 (TV.sl true 1 (chunks 1 1 [v79]))) fun r80 =>
 tv (papp 1 w3 (lg r80)) fun v81 =>
 tv (pbin (.int .i64) .add x2 (I 1)) fun v82 =>
 jmp [0,0,1,0,1,1,10,0,1,1,1,1,1,1,1,1,1,0,1,0,1,1] (f20_6_S x0 x1 v82 v81 y4 y5 y6 y7 y8 y9 y10))))) (
 chk (aI (agg [y4,y5,y6,y7,y8,y9,w3])) (
 ret (agg [y4,y5,y6,y7,y8,y9,w3])))
def f20_7  (x0 x1 x2 w3 y4 y5 y6 y7 y8 y9 y10:TV):Prg TV :=
 tv (pbin (.int .i64) .lss x2 x1) fun v83 =>
 Prg.ite (asBool v83) (
 tvs (pidx 1 x0 x2) fun e84 =>
 chk (Nat.blt 0 (List.length e84)) (
 tv (pbin (.int .i64) .lss x2 (I 1)) fun v85 =>
 Prg.ite (asBool v85) (
 nat (aR x2) fun n86 =>
 Prg.ite (some (Nat.beq n86 0)) (
 call 48 [nth hole e84 0] fun v87 =>
 chk (ab bF [v87] 0) (
 tv (pbin (.int .i64) .add x2 (I 1)) fun v88 =>
 jmp [0,0,1,0,1,1,8,0,1,1,1,1,1,1,1,1,1,1,1,0,1,0,1,1] (f20_7_S x0 x1 v88 w3 y4 y5 v87 y7 y8 y9 y10))) (
 Prg.fail)) (
 call 48 [nth hole e84 0] fun v89 =>
 chk (ab bF [v89] 0) (
 rws (pelems 1 (TV.sl true 1 (chunks 1 1 [v89]))) fun r90 =>
 tv (papp 1 w3 (lg r90)) fun v91 =>
 tv (pbin (.int .i64) .add x2 (I 1)) fun v92 =>
 jmp [0,0,1,0,1,1,8,0,1,1,1,1,1,1,1,1,1,1,1,0,1,0,1,1] (f20_7_S x0 x1 v92 v91 y4 y5 y6 y7 y8 y9 y10))))) (
 chk (aI (agg [y4,y5,y6,y7,y8,y9,y10])) (
 ret (agg [y4,y5,y6,y7,y8,y9,y10])))
def f20_8  (x0 x1 x2 w3 y4 y5 y6 y7 y8 y9 y10:TV):Prg TV :=
 tv (pbin (.int .i64) .lss x2 x1) fun v93 =>
 Prg.ite (asBool v93) (
 tvs (pidx 1 x0 x2) fun e94 =>
 chk (Nat.blt 0 (List.length e94)) (
 tv (pbin (.int .i64) .lss x2 (I 1)) fun v95 =>
 Prg.ite (asBool v95) (
 nat (aR x2) fun n96 =>
 Prg.ite (some (Nat.beq n96 0)) (
 call 48 [nth hole e94 0] fun v97 =>
 chk (ab bF [v97] 0) (
 tv (pbin (.int .i64) .add x2 (I 1)) fun v98 =>
 jmp [0,0,1,0,1,1,8,0,1,1,1,1,1,1,1,1,1,1,1,1,1,0,1,0,1,1] (f20_8_S x0 x1 v98 w3 y4 v97 y6 y7 y8 y9 y10))) (
 Prg.fail)) (
 call 48 [nth hole e94 0] fun v99 =>
 chk (ab bF [v99] 0) (
 rws (pelems 1 (TV.sl true 1 (chunks 1 1 [v99]))) fun r100 =>
 tv (papp 1 w3 (lg r100)) fun v101 =>
 tv (pbin (.int .i64) .add x2 (I 1)) fun v102 =>
 jmp [0,0,1,0,1,1,8,0,1,1,1,1,1,1,1,1,1,1,1,1,1,0,1,0,1,1] (f20_8_S x0 x1 v102 v101 y4 y5 y6 y7 y8 y9 y10))))) (
 chk (aI (agg [y4,y5,y6,y7,y8,y9,y10])) (
 ret (agg [y4,y5,y6,y7,y8,y9,y10])))
theorem f20_MR (x0 x1:TV):aB prog 20 [x0,x1]=f20_M x0 x1:=by kernel_rfl
theorem f20_0_J  {x0 x1 x2 w3 y4 y5 y6 y7 y8 y9 y10 y11 y12 y13 y14 y15 y16 y17 y18:TV} {r:TV} (h:aa prog 20 (f20_0 x0 x1 x2 w3 y4 y5 y6 y7 y8 y9 y10 y11 y12 y13 y14 y15 y16 y17 y18) r):aa prog 20 (.jmp [0,0,1,0,1,1,8,0,1,0,1,0,1,0,1,1] (f20_0_S x0 x1 x2 w3 y4 y5 y6 y7 y8 y9 y10 y11 y12 y13 y14 y15 y16 y17 y18)) r:=aa.jmp (by kernel_rfl) h
theorem f20_1_J  {x0 x1 x2 y3 y4 y5 y6 y7 y8 y9:TV} {r:TV} (h:aa prog 20 (f20_1 x0 x1 x2 y3 y4 y5 y6 y7 y8 y9) r):aa prog 20 (.jmp [1,1,1,0,1,0,1,1] (f20_1_S x0 x1 x2 y3 y4 y5 y6 y7 y8 y9)) r:=aa.jmp (by kernel_rfl) h
theorem f20_2_J  {x0 x1 x2 w3 y4 y5 y6 y7 y8 y9 y10:TV} {r:TV} (h:aa prog 20 (f20_2 x0 x1 x2 w3 y4 y5 y6 y7 y8 y9 y10) r):aa prog 20 (.jmp [0,0,1,0,1,1,10,0,1,1,1,0,1,0,1,1] (f20_2_S x0 x1 x2 w3 y4 y5 y6 y7 y8 y9 y10)) r:=aa.jmp (by kernel_rfl) h
theorem f20_3_J  {x0 x1 x2 y3 y4 y5 y6 y7 y8 y9:TV} {r:TV} (h:aa prog 20 (f20_3 x0 x1 x2 y3 y4 y5 y6 y7 y8 y9) r):aa prog 20 (.jmp [1,1,1,1,1,0,1,0,1,1] (f20_3_S x0 x1 x2 y3 y4 y5 y6 y7 y8 y9)) r:=aa.jmp (by kernel_rfl) h
theorem f20_4_J  {x0 x1 x2 w3 y4 y5 y6 y7 y8 y9 y10:TV} {r:TV} (h:aa prog 20 (f20_4 x0 x1 x2 w3 y4 y5 y6 y7 y8 y9 y10) r):aa prog 20 (.jmp [0,0,1,0,1,1,12,0,1,1,1,1,1,0,1,0,1,1] (f20_4_S x0 x1 x2 w3 y4 y5 y6 y7 y8 y9 y10)) r:=aa.jmp (by kernel_rfl) h
theorem f20_5_J  {x0 x1 x2 w3 y4 y5 y6 y7 y8 y9 y10:TV} {r:TV} (h:aa prog 20 (f20_5 x0 x1 x2 w3 y4 y5 y6 y7 y8 y9 y10) r):aa prog 20 (.jmp [0,0,1,0,1,1,10,0,1,1,1,1,1,1,1,0,1,0,1,1] (f20_5_S x0 x1 x2 w3 y4 y5 y6 y7 y8 y9 y10)) r:=aa.jmp (by kernel_rfl) h
theorem f20_6_J  {x0 x1 x2 w3 y4 y5 y6 y7 y8 y9 y10:TV} {r:TV} (h:aa prog 20 (f20_6 x0 x1 x2 w3 y4 y5 y6 y7 y8 y9 y10) r):aa prog 20 (.jmp [0,0,1,0,1,1,10,0,1,1,1,1,1,1,1,1,1,0,1,0,1,1] (f20_6_S x0 x1 x2 w3 y4 y5 y6 y7 y8 y9 y10)) r:=aa.jmp (by kernel_rfl) h
theorem f20_7_J  {x0 x1 x2 w3 y4 y5 y6 y7 y8 y9 y10:TV} {r:TV} (h:aa prog 20 (f20_7 x0 x1 x2 w3 y4 y5 y6 y7 y8 y9 y10) r):aa prog 20 (.jmp [0,0,1,0,1,1,8,0,1,1,1,1,1,1,1,1,1,1,1,0,1,0,1,1] (f20_7_S x0 x1 x2 w3 y4 y5 y6 y7 y8 y9 y10)) r:=aa.jmp (by kernel_rfl) h
theorem f20_8_J  {x0 x1 x2 w3 y4 y5 y6 y7 y8 y9 y10:TV} {r:TV} (h:aa prog 20 (f20_8 x0 x1 x2 w3 y4 y5 y6 y7 y8 y9 y10) r):aa prog 20 (.jmp [0,0,1,0,1,1,8,0,1,1,1,1,1,1,1,1,1,1,1,1,1,0,1,0,1,1] (f20_8_S x0 x1 x2 w3 y4 y5 y6 y7 y8 y9 y10)) r:=aa.jmp (by kernel_rfl) h
end Go.Ab.Z12
end
section
set_option maxRecDepth 100000
namespace Go.Ab.Z12
open Go Go.Ab Go.Proofs
open Go.Ab.TV (hole cell comp isSl isSc isTup cellsL tup agg)
open Go.Ab.Prg (tv tvs rws nat chk call jmp ret)
def f21_M (x0:TV):Prg TV :=
 tv (pbin Kd.str .eql x0 (TV.lit (Value.string (ByteArray.mk (Array.mk [(99:UInt8),(111:UInt8),(110:UInt8),(115:UInt8),(116:UInt8)]))))) fun v0 =>
 Prg.ite (asBool v0) (
 ret (I 1)) (
 tv (pbin Kd.str .eql x0 (TV.lit (Value.string (ByteArray.mk (Array.mk [(99:UInt8),(111:UInt8),(112:UInt8),(121:UInt8)]))))) fun v1 =>
 Prg.ite (asBool v1) (
 ret (I 2)) (
 tv (pbin Kd.str .eql x0 (TV.lit (Value.string (ByteArray.mk (Array.mk [(97:UInt8),(100:UInt8),(100:UInt8)]))))) fun v2 =>
 Prg.ite (asBool v2) (
 ret (I 3)) (
 tv (pbin Kd.str .eql x0 (TV.lit (Value.string (ByteArray.mk (Array.mk [(115:UInt8),(117:UInt8),(98:UInt8)]))))) fun v3 =>
 Prg.ite (asBool v3) (
 ret (I 4)) (
 tv (pbin Kd.str .eql x0 (TV.lit (Value.string (ByteArray.mk (Array.mk [(109:UInt8),(117:UInt8),(108:UInt8)]))))) fun v4 =>
 Prg.ite (asBool v4) (
 ret (I 5)) (
 tv (pbin Kd.str .eql x0 (TV.lit (Value.string (ByteArray.mk (Array.mk [(100:UInt8),(105:UInt8),(118:UInt8)]))))) fun v5 =>
 Prg.ite (asBool v5) (
 ret (I 6)) (
 tv (pbin Kd.str .eql x0 (TV.lit (Value.string (ByteArray.mk (Array.mk [(101:UInt8),(113:UInt8)]))))) fun v6 =>
 Prg.ite (asBool v6) (
 ret (I 7)) (
 tv (pbin Kd.str .eql x0 (TV.lit (Value.string (ByteArray.mk (Array.mk [(108:UInt8),(116:UInt8)]))))) fun v7 =>
 Prg.ite (asBool v7) (
 ret (I 8)) (
 tv (pbin Kd.str .eql x0 (TV.lit (Value.string (ByteArray.mk (Array.mk [(108:UInt8),(111:UInt8),(97:UInt8),(100:UInt8)]))))) fun v8 =>
 Prg.ite (asBool v8) (
 ret (I 9)) (
 tv (pbin Kd.str .eql x0 (TV.lit (Value.string (ByteArray.mk (Array.mk [(115:UInt8),(116:UInt8),(111:UInt8),(114:UInt8),(101:UInt8)]))))) fun v9 =>
 Prg.ite (asBool v9) (
 ret (I 10)) (
 tv (pbin Kd.str .eql x0 (TV.lit (Value.string (ByteArray.mk (Array.mk [(99:UInt8),(97:UInt8),(108:UInt8),(108:UInt8)]))))) fun v10 =>
 Prg.ite (asBool v10) (
 ret (I 11)) (
 tv (pbin Kd.str .eql x0 (TV.lit (Value.string (ByteArray.mk (Array.mk [(111:UInt8),(117:UInt8),(116:UInt8)]))))) fun v11 =>
 Prg.ite (asBool v11) (
 ret (I 12)) (
 tv (pbin Kd.str .eql x0 (TV.lit (Value.string (ByteArray.mk (Array.mk [(105:UInt8),(110:UInt8)]))))) fun v12 =>
 Prg.ite (asBool v12) (
 ret (I 13)) (
 ret (I 0))))))))))))))
theorem f21_MR (x0:TV):aB prog 21 [x0]=f21_M x0:=by kernel_rfl
def f22_M (x0:TV):Prg TV :=
 chk (TV.isAgg x0 7) (
 tv (pbin (.int .i64) .eql (cell x0 0) (I 1)) fun v0 =>
 Prg.ite (asBool v0) (
 tv (pconv (.int .i64) (cell x0 4)) fun v1 =>
 call 36 [TV.lit (Value.string (ByteArray.mk (Array.mk [(99:UInt8),(111:UInt8),(110:UInt8),(115:UInt8),(116:UInt8)]))),frz (TV.sl true 1 (chunks 1 2 [cell x0 1,v1]))] fun v2 =>
 chk (ab cp [v2] 0) (
 ret v2)) (
 tv (pbin (.int .i64) .eql (cell x0 0) (I 2)) fun v3 =>
 Prg.ite (asBool v3) (
 call 36 [TV.lit (Value.string (ByteArray.mk (Array.mk [(99:UInt8),(111:UInt8),(112:UInt8),(121:UInt8)]))),frz (TV.sl true 1 (chunks 1 2 [cell x0 1,cell x0 2]))] fun v4 =>
 chk (ab cp [v4] 0) (
 ret v4)) (
 tv (pbin (.int .i64) .eql (cell x0 0) (I 3)) fun v5 =>
 Prg.ite (asBool v5) (
 call 36 [TV.lit (Value.string (ByteArray.mk (Array.mk [(97:UInt8),(100:UInt8),(100:UInt8)]))),frz (TV.sl true 1 (chunks 1 3 [cell x0 1,cell x0 2,cell x0 3]))] fun v6 =>
 chk (ab cp [v6] 0) (
 ret v6)) (
 tv (pbin (.int .i64) .eql (cell x0 0) (I 4)) fun v7 =>
 Prg.ite (asBool v7) (
 call 36 [TV.lit (Value.string (ByteArray.mk (Array.mk [(115:UInt8),(117:UInt8),(98:UInt8)]))),frz (TV.sl true 1 (chunks 1 3 [cell x0 1,cell x0 2,cell x0 3]))] fun v8 =>
 chk (ab cp [v8] 0) (
 ret v8)) (
 tv (pbin (.int .i64) .eql (cell x0 0) (I 5)) fun v9 =>
 Prg.ite (asBool v9) (
 call 36 [TV.lit (Value.string (ByteArray.mk (Array.mk [(109:UInt8),(117:UInt8),(108:UInt8)]))),frz (TV.sl true 1 (chunks 1 3 [cell x0 1,cell x0 2,cell x0 3]))] fun v10 =>
 chk (ab cp [v10] 0) (
 ret v10)) (
 tv (pbin (.int .i64) .eql (cell x0 0) (I 6)) fun v11 =>
 Prg.ite (asBool v11) (
 call 36 [TV.lit (Value.string (ByteArray.mk (Array.mk [(100:UInt8),(105:UInt8),(118:UInt8)]))),frz (TV.sl true 1 (chunks 1 3 [cell x0 1,cell x0 2,cell x0 3]))] fun v12 =>
 chk (ab cp [v12] 0) (
 ret v12)) (
 tv (pbin (.int .i64) .eql (cell x0 0) (I 7)) fun v13 =>
 Prg.ite (asBool v13) (
 call 36 [TV.lit (Value.string (ByteArray.mk (Array.mk [(101:UInt8),(113:UInt8)]))),frz (TV.sl true 1 (chunks 1 3 [cell x0 1,cell x0 2,cell x0 3]))] fun v14 =>
 chk (ab cp [v14] 0) (
 ret v14)) (
 tv (pbin (.int .i64) .eql (cell x0 0) (I 8)) fun v15 =>
 Prg.ite (asBool v15) (
 call 36 [TV.lit (Value.string (ByteArray.mk (Array.mk [(108:UInt8),(116:UInt8)]))),frz (TV.sl true 1 (chunks 1 3 [cell x0 1,cell x0 2,cell x0 3]))] fun v16 =>
 chk (ab cp [v16] 0) (
 ret v16)) (
 tv (pbin (.int .i64) .eql (cell x0 0) (I 9)) fun v17 =>
 Prg.ite (asBool v17) (
 call 36 [TV.lit (Value.string (ByteArray.mk (Array.mk [(108:UInt8),(111:UInt8),(97:UInt8),(100:UInt8)]))),frz (TV.sl true 1 (chunks 1 2 [cell x0 1,cell x0 2]))] fun v18 =>
 chk (ab cp [v18] 0) (
 ret v18)) (
 tv (pbin (.int .i64) .eql (cell x0 0) (I 10)) fun v19 =>
 Prg.ite (asBool v19) (
 call 36 [TV.lit (Value.string (ByteArray.mk (Array.mk [(115:UInt8),(116:UInt8),(111:UInt8),(114:UInt8),(101:UInt8)]))),frz (TV.sl true 1 (chunks 1 2 [cell x0 2,cell x0 3]))] fun v20 =>
 chk (ab cp [v20] 0) (
 ret v20)) (
 tv (pbin (.int .i64) .eql (cell x0 0) (I 11)) fun v21 =>
 Prg.ite (asBool v21) (
 call 46 [cell x0 6,frz (TV.sl true 1 (chunks 1 2 [cell x0 1,cell x0 5]))] fun v22 =>
 chk (ab zSl [v22] 0) (
 call 36 [TV.lit (Value.string (ByteArray.mk (Array.mk [(99:UInt8),(97:UInt8),(108:UInt8),(108:UInt8)]))),frz v22] fun v23 =>
 chk (ab cp [v23] 0) (
 ret v23))) (
 tv (pbin (.int .i64) .eql (cell x0 0) (I 12)) fun v24 =>
 Prg.ite (asBool v24) (
 call 36 [TV.lit (Value.string (ByteArray.mk (Array.mk [(111:UInt8),(117:UInt8),(116:UInt8)]))),frz (TV.sl true 1 (chunks 1 1 [cell x0 2]))] fun v25 =>
 chk (ab cp [v25] 0) (
 ret v25)) (
 tv (pbin (.int .i64) .eql (cell x0 0) (I 13)) fun v26 =>
 Prg.ite (asBool v26) (
 call 36 [TV.lit (Value.string (ByteArray.mk (Array.mk [(105:UInt8),(110:UInt8)]))),frz (TV.sl true 1 (chunks 1 1 [cell x0 1]))] fun v27 =>
 chk (ab cp [v27] 0) (
 ret v27)) (
 ret (TV.lit (Value.string (ByteArray.mk (Array.mk []))))))))))))))))))
theorem f22_MR (x0:TV):aB prog 22 [x0]=f22_M x0:=by kernel_rfl
def f26_0_S  (x0 x1 x2 y3 y4 y5 y6 y7 y8 y9 y10:TV):ASt:=⟨[Jk,AV.tv x0,Jk,Jk,Pt 0,Pt 1,Jk,Jk,AV.tv x1,AV.tv x2] ++ Rj 31,[some (BC.cells [CA.junk,CA.junk,CA.junk,CA.junk,CA.junk,CA.junk,CA.junk,CA.junk]),some (BC.cells [CA.t y3,CA.t y4,CA.t y5,CA.t y6,CA.t y7,CA.t y8,CA.t y9,CA.t y10])] ++ Rz 63,[]⟩
def f26_1_S  (x0 x1 x2 w3 y4 y5 y6 y7 y8 y9 y10 y11:TV):ASt:=⟨[Jk,AV.one (CA.psl 0 1),Jk,Jk,Jk,Sr 1,Jk,Jk,AV.tv x0,AV.tv x1,AV.tv x2] ++ Rj 22,[some (BC.cells [CA.ptr 3 1]),Tr w3,some (BC.cells [CA.junk,CA.junk,CA.junk,CA.junk,CA.junk,CA.junk,CA.junk,CA.junk]),some (BC.cells [CA.t y4,CA.t y5,CA.t y6,CA.t y7,CA.t y8,CA.t y9,CA.t y10,CA.t y11])] ++ Rz 94,(Rj 4 ++ [Pt 2,Pt 3] ++ Rj 35)⟩
def f26_2_S  (x0 x1 x2 w3 y4 y5 y6 y7 y8 y9 y10 y11:TV):ASt:=⟨[Jk,AV.one (CA.psl 0 1),Jk,Jk,Jk,Sr 1,Jk,Jk,AV.tv x0,AV.tv x1,AV.tv x2] ++ Rj 22,[some (BC.cells [CA.ptr 3 5]),Tr w3,some (BC.cells [CA.junk,CA.junk,CA.junk,CA.junk,CA.junk,CA.junk,CA.junk,CA.junk]),some (BC.cells [CA.t y4,CA.t y5,CA.t y6,CA.t y7,CA.t y8,CA.t y9,CA.t y10,CA.t y11])] ++ Rz 94,(Rj 4 ++ [Pt 2,Pt 3] ++ Rj 35)⟩
def f26_3_S  (x0 x1 x2 w3 y4 y5 y6 y7 y8 y9 y10 y11:TV):ASt:=⟨[Jk,AV.one (CA.psl 0 3),Jk,Jk,Jk,Sr 1,Jk,Jk,AV.tv x0,AV.tv x1,AV.tv x2] ++ Rj 22,[some (BC.cells [CA.ptr 3 1,CA.ptr 3 5,CA.ptr 3 6]),Tr w3,some (BC.cells [CA.junk,CA.junk,CA.junk,CA.junk,CA.junk,CA.junk,CA.junk,CA.junk]),some (BC.cells [CA.t y4,CA.t y5,CA.t y6,CA.t y7,CA.t y8,CA.t y9,CA.t y10,CA.t y11])] ++ Rz 94,(Rj 4 ++ [Pt 2,Pt 3] ++ Rj 35)⟩
def f26_4_S  (x0 x1 x2 w3 y4 y5 y6 y7 y8 y9 y10 y11:TV):ASt:=⟨[Jk,AV.one (CA.psl 0 4),Jk,Jk,Jk,Sr 1,Jk,Jk,AV.tv x0,AV.tv x1,AV.tv x2] ++ Rj 22,[some (BC.cells [CA.ptr 3 2,CA.ptr 3 3,CA.ptr 3 5,CA.ptr 3 7]),Tr w3,some (BC.cells [CA.junk,CA.junk,CA.junk,CA.junk,CA.junk,CA.junk,CA.junk,CA.junk]),some (BC.cells [CA.t y4,CA.t y5,CA.t y6,CA.t y7,CA.t y8,CA.t y9,CA.t y10,CA.t y11])] ++ Rz 94,(Rj 4 ++ [Pt 2,Pt 3] ++ Rj 35)⟩
def f26_M (x0 x1:TV):Prg TV :=
 chk (TV.iP x0) (
 tv (pbin (.int .i64) .eql x0 (I 1)) fun v0 =>
 Prg.ite (asBool v0) (
 jmp [1,0,1,0,1,1] (f26_0_S x1 x0 v0 x0 (I 0) (I 0) (I 0) (TV.lit ah) (I 0) (I 0) (I 0))) (
 tv (pbin (.int .i64) .eql x0 (I 5)) fun v1 =>
 jmp [1,0,1,0,1,1] (f26_0_S x1 x0 v1 x0 (I 0) (I 0) (I 0) (TV.lit ah) (I 0) (I 0) (I 0))))
def f26_0  (x0 x1 x2 y3 y4 y5 y6 y7 y8 y9 y10:TV):Prg TV :=
 Prg.ite (asBool x2) (
 tv (plen (.slice 9) x0) fun v2 =>
 chk true (
 jmp [0,0,1,0,1,1,8,0,1,0,1,0,1,1] (f26_1_S x0 v2 (I 0) (TV.lit ah) y3 y4 y5 y6 y7 y8 y9 y10))) (
 tv (pbin (.int .i64) .eql x1 (I 2)) fun v3 =>
 Prg.ite (asBool v3) (
 tv (plen (.slice 9) x0) fun v4 =>
 chk true (
 jmp [0,0,1,0,1,1,8,0,1,1,1,0,1,0,1,1] (f26_2_S x0 v4 (I 0) (TV.lit ah) y3 y4 y5 y6 y7 y8 y9 y10))) (
 tv (pbin (.int .i64) .eql x1 (I 3)) fun v5 =>
 Prg.ite (asBool v5) (
 tv (plen (.slice 9) x0) fun v6 =>
 chk true (
 jmp [0,0,1,0,1,1,12,0,1,1,1,1,1,0,1,0,1,1] (f26_3_S x0 v6 (I 0) (TV.lit ah) y3 y4 y5 y6 y7 y8 y9 y10))) (
 tv (pbin (.int .i64) .eql x1 (I 4)) fun v7 =>
 Prg.ite (asBool v7) (
 tv (plen (.slice 9) x0) fun v8 =>
 chk true (
 jmp [0,0,1,0,1,1,14,0,1,1,1,1,1,1,1,0,1,0,1,1] (f26_4_S x0 v8 (I 0) (TV.lit ah) y3 y4 y5 y6 y7 y8 y9 y10))) (
 chk (aI (agg [y3,y4,y5,y6,y7,y8,y9,y10])) (
 ret (agg [y3,y4,y5,y6,y7,y8,y9,y10]))))))
def f26_1  (x0 x1 x2 w3 y4 y5 y6 y7 y8 y9 y10 y11:TV):Prg TV :=
 tv (pbin (.int .i64) .lss x2 x1) fun v9 =>
 Prg.ite (asBool v9) (
 tvs (pidx 1 x0 x2) fun e10 =>
 chk (Nat.blt 0 (List.length e10)) (
 tv (pbin (.int .i64) .lss x2 (I 1)) fun v11 =>
 Prg.ite (asBool v11) (
 nat (aR x2) fun n12 =>
 Prg.ite (some (Nat.beq n12 0)) (
 call 48 [nth hole e10 0] fun v13 =>
 chk (ab bF [v13] 0) (
 tv (pbin (.int .i64) .add x2 (I 1)) fun v14 =>
 jmp [0,0,1,0,1,1,8,0,1,0,1,0,1,1] (f26_1_S x0 x1 v14 w3 y4 v13 y6 y7 y8 y9 y10 y11))) (
 Prg.fail)) (
 call 48 [nth hole e10 0] fun v15 =>
 chk (ab bF [v15] 0) (
 rws (pelems 1 (TV.sl true 1 (chunks 1 1 [v15]))) fun r16 =>
 tv (papp 1 w3 (lg r16)) fun v17 =>
 tv (pbin (.int .i64) .add x2 (I 1)) fun v18 =>
 jmp [0,0,1,0,1,1,8,0,1,0,1,0,1,1] (f26_1_S x0 x1 v18 v17 y4 y5 y6 y7 y8 y9 y10 y11))))) (
 chk (aI (agg [y4,y5,y6,y7,y8,y9,y10,y11])) (
 ret (agg [y4,y5,y6,y7,y8,y9,y10,y11])))
def f26_2  (x0 x1 x2 w3 y4 y5 y6 y7 y8 y9 y10 y11:TV):Prg TV :=
 tv (pbin (.int .i64) .lss x2 x1) fun v19 =>
 Prg.ite (asBool v19) (
 tvs (pidx 1 x0 x2) fun e20 =>
 chk (Nat.blt 0 (List.length e20)) (
 tv (pbin (.int .i64) .lss x2 (I 1)) fun v21 =>
 Prg.ite (asBool v21) (
 nat (aR x2) fun n22 =>
 Prg.ite (some (Nat.beq n22 0)) (
 call 48 [nth hole e20 0] fun v23 =>
 chk (ab bF [v23] 0) (
 tv (pbin (.int .i64) .add x2 (I 1)) fun v24 =>
 jmp [0,0,1,0,1,1,8,0,1,1,1,0,1,0,1,1] (f26_2_S x0 x1 v24 w3 y4 y5 y6 y7 y8 v23 y10 y11))) (
 Prg.fail)) (
 call 48 [nth hole e20 0] fun v25 =>
 chk (ab bF [v25] 0) (
 rws (pelems 1 (TV.sl true 1 (chunks 1 1 [v25]))) fun r26 =>
 tv (papp 1 w3 (lg r26)) fun v27 =>
 tv (pbin (.int .i64) .add x2 (I 1)) fun v28 =>
 jmp [0,0,1,0,1,1,8,0,1,1,1,0,1,0,1,1] (f26_2_S x0 x1 v28 v27 y4 y5 y6 y7 y8 y9 y10 y11))))) (
 chk (aI (agg [y4,y5,y6,y7,y8,y9,y10,y11])) (
 ret (agg [y4,y5,y6,y7,y8,y9,y10,y11])))
def f26_3  (x0 x1 x2 w3 y4 y5 y6 y7 y8 y9 y10 y11:TV):Prg TV :=
 tv (pbin (.int .i64) .lss x2 x1) fun v29 =>
 Prg.ite (asBool v29) (
 tvs (pidx 1 x0 x2) fun e30 =>
 chk (Nat.blt 0 (List.length e30)) (
 tv (pbin (.int .i64) .lss x2 (I 3)) fun v31 =>
 Prg.ite (asBool v31) (
 nat (aR x2) fun n32 =>
 Prg.ite (some (Nat.beq n32 2)) (
 call 48 [nth hole e30 0] fun v33 =>
 chk (ab bF [v33] 0) (
 tv (pbin (.int .i64) .add x2 (I 1)) fun v34 =>
 jmp [0,0,1,0,1,1,12,0,1,1,1,1,1,0,1,0,1,1] (f26_3_S x0 x1 v34 w3 y4 y5 y6 y7 y8 y9 v33 y11))) (
 Prg.ite (some (Nat.beq n32 1)) (
 call 48 [nth hole e30 0] fun v35 =>
 chk (ab bF [v35] 0) (
 tv (pbin (.int .i64) .add x2 (I 1)) fun v36 =>
 jmp [0,0,1,0,1,1,12,0,1,1,1,1,1,0,1,0,1,1] (f26_3_S x0 x1 v36 w3 y4 y5 y6 y7 y8 v35 y10 y11))) (
 Prg.ite (some (Nat.beq n32 0)) (
 call 48 [nth hole e30 0] fun v37 =>
 chk (ab bF [v37] 0) (
 tv (pbin (.int .i64) .add x2 (I 1)) fun v38 =>
 jmp [0,0,1,0,1,1,12,0,1,1,1,1,1,0,1,0,1,1] (f26_3_S x0 x1 v38 w3 y4 v37 y6 y7 y8 y9 y10 y11))) (
 Prg.fail)))) (
 call 48 [nth hole e30 0] fun v39 =>
 chk (ab bF [v39] 0) (
 rws (pelems 1 (TV.sl true 1 (chunks 1 1 [v39]))) fun r40 =>
 tv (papp 1 w3 (lg r40)) fun v41 =>
 tv (pbin (.int .i64) .add x2 (I 1)) fun v42 =>
 jmp [0,0,1,0,1,1,12,0,1,1,1,1,1,0,1,0,1,1] (f26_3_S x0 x1 v42 v41 y4 y5 y6 y7 y8 y9 y10 y11))))) (
 chk (aI (agg [y4,y5,y6,y7,y8,y9,y10,y11])) (
 ret (agg [y4,y5,y6,y7,y8,y9,y10,y11])))
def f26_4  (x0 x1 x2 w3 y4 y5 y6 y7 y8 y9 y10 y11:TV):Prg TV :=
 tv (pbin (.int .i64) .lss x2 x1) fun v43 =>
 Prg.ite (asBool v43) (
 tvs (pidx 1 x0 x2) fun e44 =>
 chk (Nat.blt 0 (List.length e44)) (
 tv (pbin (.int .i64) .lss x2 (I 4)) fun v45 =>
 Prg.ite (asBool v45) (
 nat (aR x2) fun n46 =>
 Prg.ite (some (Nat.beq n46 3)) (
 call 48 [nth hole e44 0] fun v47 =>
 chk (ab bF [v47] 0) (
 tv (pbin (.int .i64) .add x2 (I 1)) fun v48 =>
 jmp [0,0,1,0,1,1,14,0,1,1,1,1,1,1,1,0,1,0,1,1] (f26_4_S x0 x1 v48 w3 y4 y5 y6 y7 y8 y9 y10 v47))) (
 Prg.ite (some (Nat.beq n46 2)) (
 call 48 [nth hole e44 0] fun v49 =>
 chk (ab bF [v49] 0) (
 tv (pbin (.int .i64) .add x2 (I 1)) fun v50 =>
 jmp [0,0,1,0,1,1,14,0,1,1,1,1,1,1,1,0,1,0,1,1] (f26_4_S x0 x1 v50 w3 y4 y5 y6 y7 y8 v49 y10 y11))) (
 Prg.ite (some (Nat.beq n46 1)) (
 call 48 [nth hole e44 0] fun v51 =>
 chk (ab bF [v51] 0) (
 tv (pbin (.int .i64) .add x2 (I 1)) fun v52 =>
 jmp [0,0,1,0,1,1,14,0,1,1,1,1,1,1,1,0,1,0,1,1] (f26_4_S x0 x1 v52 w3 y4 y5 y6 v51 y8 y9 y10 y11))) (
 Prg.ite (some (Nat.beq n46 0)) (
 call 48 [nth hole e44 0] fun v53 =>
 chk (ab bF [v53] 0) (
 tv (pbin (.int .i64) .add x2 (I 1)) fun v54 =>
 jmp [0,0,1,0,1,1,14,0,1,1,1,1,1,1,1,0,1,0,1,1] (f26_4_S x0 x1 v54 w3 y4 y5 v53 y7 y8 y9 y10 y11))) (
 Prg.fail))))) (
 call 48 [nth hole e44 0] fun v55 =>
 chk (ab bF [v55] 0) (
 rws (pelems 1 (TV.sl true 1 (chunks 1 1 [v55]))) fun r56 =>
 tv (papp 1 w3 (lg r56)) fun v57 =>
 tv (pbin (.int .i64) .add x2 (I 1)) fun v58 =>
 jmp [0,0,1,0,1,1,14,0,1,1,1,1,1,1,1,0,1,0,1,1] (f26_4_S x0 x1 v58 v57 y4 y5 y6 y7 y8 y9 y10 y11))))) (
 chk (aI (agg [y4,y5,y6,y7,w3,y9,y10,y11])) (
 ret (agg [y4,y5,y6,y7,w3,y9,y10,y11])))
theorem f26_MR (x0 x1:TV):aB prog 26 [x0,x1]=f26_M x0 x1:=by kernel_rfl
theorem f26_0_J  {x0 x1 x2 y3 y4 y5 y6 y7 y8 y9 y10:TV} {r:TV} (h:aa prog 26 (f26_0 x0 x1 x2 y3 y4 y5 y6 y7 y8 y9 y10) r):aa prog 26 (.jmp [1,0,1,0,1,1] (f26_0_S x0 x1 x2 y3 y4 y5 y6 y7 y8 y9 y10)) r:=aa.jmp (by kernel_rfl) h
theorem f26_1_J  {x0 x1 x2 w3 y4 y5 y6 y7 y8 y9 y10 y11:TV} {r:TV} (h:aa prog 26 (f26_1 x0 x1 x2 w3 y4 y5 y6 y7 y8 y9 y10 y11) r):aa prog 26 (.jmp [0,0,1,0,1,1,8,0,1,0,1,0,1,1] (f26_1_S x0 x1 x2 w3 y4 y5 y6 y7 y8 y9 y10 y11)) r:=aa.jmp (by kernel_rfl) h
theorem f26_2_J  {x0 x1 x2 w3 y4 y5 y6 y7 y8 y9 y10 y11:TV} {r:TV} (h:aa prog 26 (f26_2 x0 x1 x2 w3 y4 y5 y6 y7 y8 y9 y10 y11) r):aa prog 26 (.jmp [0,0,1,0,1,1,8,0,1,1,1,0,1,0,1,1] (f26_2_S x0 x1 x2 w3 y4 y5 y6 y7 y8 y9 y10 y11)) r:=aa.jmp (by kernel_rfl) h
theorem f26_3_J  {x0 x1 x2 w3 y4 y5 y6 y7 y8 y9 y10 y11:TV} {r:TV} (h:aa prog 26 (f26_3 x0 x1 x2 w3 y4 y5 y6 y7 y8 y9 y10 y11) r):aa prog 26 (.jmp [0,0,1,0,1,1,12,0,1,1,1,1,1,0,1,0,1,1] (f26_3_S x0 x1 x2 w3 y4 y5 y6 y7 y8 y9 y10 y11)) r:=aa.jmp (by kernel_rfl) h
theorem f26_4_J  {x0 x1 x2 w3 y4 y5 y6 y7 y8 y9 y10 y11:TV} {r:TV} (h:aa prog 26 (f26_4 x0 x1 x2 w3 y4 y5 y6 y7 y8 y9 y10 y11) r):aa prog 26 (.jmp [0,0,1,0,1,1,14,0,1,1,1,1,1,1,1,0,1,0,1,1] (f26_4_S x0 x1 x2 w3 y4 y5 y6 y7 y8 y9 y10 y11)) r:=aa.jmp (by kernel_rfl) h
def f27_M (x0:TV):Prg TV :=
 tv (pbin Kd.str .eql x0 (TV.lit (Value.string (ByteArray.mk (Array.mk [(114:UInt8),(101:UInt8),(116:UInt8)]))))) fun v0 =>
 Prg.ite (asBool v0) (
 ret (I 1)) (
 tv (pbin Kd.str .eql x0 (TV.lit (Value.string (ByteArray.mk (Array.mk [(106:UInt8),(117:UInt8),(109:UInt8),(112:UInt8)]))))) fun v1 =>
 Prg.ite (asBool v1) (
 ret (I 2)) (
 tv (pbin Kd.str .eql x0 (TV.lit (Value.string (ByteArray.mk (Array.mk [(98:UInt8),(114:UInt8),(97:UInt8),(110:UInt8),(99:UInt8),(104:UInt8)]))))) fun v2 =>
 Prg.ite (asBool v2) (
 ret (I 3)) (
 tv (pbin Kd.str .eql x0 (TV.lit (Value.string (ByteArray.mk (Array.mk [(105:UInt8),(110:UInt8),(118:UInt8),(111:UInt8),(107:UInt8),(101:UInt8)]))))) fun v3 =>
 Prg.ite (asBool v3) (
 ret (I 4)) (
 tv (pbin Kd.str .eql x0 (TV.lit (Value.string (ByteArray.mk (Array.mk [(116:UInt8),(104:UInt8),(114:UInt8),(111:UInt8),(119:UInt8)]))))) fun v4 =>
 Prg.ite (asBool v4) (
 ret (I 5)) (
 tv (pbin Kd.str .eql x0 (TV.lit (Value.string (ByteArray.mk (Array.mk [(114:UInt8),(101:UInt8),(115:UInt8),(117:UInt8),(109:UInt8),(101:UInt8)]))))) fun v5 =>
 Prg.ite (asBool v5) (
 ret (I 6)) (
 ret (I 0)))))))
theorem f27_MR (x0:TV):aB prog 27 [x0]=f27_M x0:=by kernel_rfl
def f28_M (x0:TV):Prg TV :=
 chk (TV.isAgg x0 8) (
 tv (pbin (.int .i64) .eql (cell x0 0) (I 1)) fun v0 =>
 Prg.ite (asBool v0) (
 call 36 [TV.lit (Value.string (ByteArray.mk (Array.mk [(114:UInt8),(101:UInt8),(116:UInt8)]))),frz (TV.sl true 1 (chunks 1 1 [cell x0 1]))] fun v1 =>
 chk (ab cp [v1] 0) (
 ret v1)) (
 tv (pbin (.int .i64) .eql (cell x0 0) (I 2)) fun v2 =>
 Prg.ite (asBool v2) (
 call 36 [TV.lit (Value.string (ByteArray.mk (Array.mk [(106:UInt8),(117:UInt8),(109:UInt8),(112:UInt8)]))),frz (TV.sl true 1 (chunks 1 1 [cell x0 5]))] fun v3 =>
 chk (ab cp [v3] 0) (
 ret v3)) (
 tv (pbin (.int .i64) .eql (cell x0 0) (I 3)) fun v4 =>
 Prg.ite (asBool v4) (
 call 36 [TV.lit (Value.string (ByteArray.mk (Array.mk [(98:UInt8),(114:UInt8),(97:UInt8),(110:UInt8),(99:UInt8),(104:UInt8)]))),frz (TV.sl true 1 (chunks 1 3 [cell x0 1,cell x0 5,cell x0 6]))] fun v5 =>
 chk (ab cp [v5] 0) (
 ret v5)) (
 tv (pbin (.int .i64) .eql (cell x0 0) (I 4)) fun v6 =>
 Prg.ite (asBool v6) (
 call 46 [cell x0 4,frz (TV.sl true 1 (chunks 1 4 [cell x0 2,cell x0 3,cell x0 5,cell x0 7]))] fun v7 =>
 chk (ab zSl [v7] 0) (
 call 36 [TV.lit (Value.string (ByteArray.mk (Array.mk [(105:UInt8),(110:UInt8),(118:UInt8),(111:UInt8),(107:UInt8),(101:UInt8)]))),frz v7] fun v8 =>
 chk (ab cp [v8] 0) (
 ret v8))) (
 tv (pbin (.int .i64) .eql (cell x0 0) (I 5)) fun v9 =>
 Prg.ite (asBool v9) (
 call 36 [TV.lit (Value.string (ByteArray.mk (Array.mk [(116:UInt8),(104:UInt8),(114:UInt8),(111:UInt8),(119:UInt8)]))),frz (TV.sl true 1 (chunks 1 1 [cell x0 1]))] fun v10 =>
 chk (ab cp [v10] 0) (
 ret v10)) (
 tv (pbin (.int .i64) .eql (cell x0 0) (I 6)) fun v11 =>
 Prg.ite (asBool v11) (
 call 36 [TV.lit (Value.string (ByteArray.mk (Array.mk [(114:UInt8),(101:UInt8),(115:UInt8),(117:UInt8),(109:UInt8),(101:UInt8)]))),TV.lit ah] fun v12 =>
 chk (ab cp [v12] 0) (
 ret v12)) (
 ret (TV.lit (Value.string (ByteArray.mk (Array.mk [])))))))))))
theorem f28_MR (x0:TV):aB prog 28 [x0]=f28_M x0:=by kernel_rfl
def f30_0_S  (x0 x1 x2 y3 y4 y5 w6:TV):ASt:=⟨[Jk,Jk,Pt 0,Pt 1,Jk,Jk,AV.tv x0,AV.tv x1,AV.tv x2] ++ Rj 31,[some (BC.cells [CA.junk,CA.junk,CA.junk,CA.junk]),some (BC.cells [CA.t y3,CA.sref 2 0 [],CA.t y4,CA.t y5]),Tr w6] ++ Rz 61,[]⟩
def f30_M (x0:TV):Prg TV :=
 tv (plen (.slice 9) x0) fun v0 =>
 chk true (
 jmp [0,0,1,0,1,1] (f30_0_S x0 v0 (I 0) (I 0) (B false) (B false) (TV.lit ah)))
def f30_0  (x0 x1 x2 y3 y4 y5 w6:TV):Prg TV :=
 tv (pbin (.int .i64) .lss x2 x1) fun v1 =>
 Prg.ite (asBool v1) (
 tvs (pidx 1 x0 x2) fun e2 =>
 chk (Nat.blt 0 (List.length e2)) (
 tv (pbin (.int .i64) .eql x2 (I 0)) fun v3 =>
 Prg.ite (asBool v3) (
 call 48 [nth hole e2 0] fun v4 =>
 chk (ab bF [v4] 0) (
 tv (pbin (.int .i64) .add x2 (I 1)) fun v5 =>
 jmp [0,0,1,0,1,1] (f30_0_S x0 x1 v5 v4 y4 y5 w6))) (
 tv (pbin Kd.str .eql (nth hole e2 0) (TV.lit (Value.string (ByteArray.mk (Array.mk [(99:UInt8),(97:UInt8),(116:UInt8),(99:UInt8),(104:UInt8)]))))) fun v6 =>
 Prg.ite (asBool v6) (
 tv (pbin (.int .i64) .add x2 (I 1)) fun v7 =>
 jmp [0,0,1,0,1,1] (f30_0_S x0 x1 v7 y3 y4 y5 w6)) (
 tv (pbin Kd.str .eql (nth hole e2 0) (TV.lit (Value.string (ByteArray.mk (Array.mk [(97:UInt8),(108:UInt8),(108:UInt8)]))))) fun v8 =>
 Prg.ite (asBool v8) (
 tv (pbin (.int .i64) .add x2 (I 1)) fun v9 =>
 jmp [0,0,1,0,1,1] (f30_0_S x0 x1 v9 y3 (B true) y5 w6)) (
 tv (pbin Kd.str .eql (nth hole e2 0) (TV.lit (Value.string (ByteArray.mk (Array.mk [(99:UInt8),(108:UInt8),(101:UInt8),(97:UInt8),(110:UInt8),(117:UInt8),(112:UInt8)]))))) fun v10 =>
 Prg.ite (asBool v10) (
 tv (pbin (.int .i64) .add x2 (I 1)) fun v11 =>
 jmp [0,0,1,0,1,1] (f30_0_S x0 x1 v11 y3 y4 (B true) w6)) (
 call 48 [nth hole e2 0] fun v12 =>
 chk (ab bF [v12] 0) (
 tv (pconv (.int .u16) v12) fun v13 =>
 rws (pelems 1 (TV.sl true 1 (chunks 1 1 [v13]))) fun r14 =>
 tv (papp 1 w6 (lg r14)) fun v15 =>
 tv (pbin (.int .i64) .add x2 (I 1)) fun v16 =>
 jmp [0,0,1,0,1,1] (f30_0_S x0 x1 v16 y3 y4 y5 v15)))))))) (
 chk (aI (agg [y3,w6,y4,y5])) (
 ret (agg [y3,w6,y4,y5])))
theorem f30_MR (x0:TV):aB prog 30 [x0]=f30_M x0:=by kernel_rfl
theorem f30_0_J  {x0 x1 x2 y3 y4 y5 w6:TV} {r:TV} (h:aa prog 30 (f30_0 x0 x1 x2 y3 y4 y5 w6) r):aa prog 30 (.jmp [0,0,1,0,1,1] (f30_0_S x0 x1 x2 y3 y4 y5 w6)) r:=aa.jmp (by kernel_rfl) h
def f31_M (x0:TV):Prg TV :=
 chk (TV.isAgg x0 4) (
 call 36 [TV.lit (Value.string (ByteArray.mk (Array.mk [(112:UInt8),(97:UInt8),(100:UInt8)]))),frz (TV.sl true 1 (chunks 1 1 [cell x0 0]))] fun v0 =>
 chk (ab cp [v0] 0) (
 tv (plen (.slice 23) (cell x0 1)) fun v1 =>
 tv (pbin (.int .i64) .gtr v1 (I 0)) fun v2 =>
 Prg.ite (asBool v2) (
 call 49 [cell x0 1] fun v3 =>
 chk (ab zSl [v3] 0) (
 call 36 [TV.lit (Value.string (ByteArray.mk (Array.mk [(99:UInt8),(97:UInt8),(116:UInt8),(99:UInt8),(104:UInt8)]))),frz v3] fun v4 =>
 chk (ab cp [v4] 0) (
 tv (pbin Kd.str .add (TV.lit (Value.string (ByteArray.mk (Array.mk [(32:UInt8)])))) v4) fun v5 =>
 tv (pbin Kd.str .add v0 v5) fun v6 =>
 Prg.ite (asBool (cell x0 2)) (
 tv (pbin Kd.str .add v6 (TV.lit (Value.string (ByteArray.mk (Array.mk [(32:UInt8),(97:UInt8),(108:UInt8),(108:UInt8)]))))) fun v7 =>
 Prg.ite (asBool (cell x0 3)) (
 tv (pbin Kd.str .add v7 (TV.lit (Value.string (ByteArray.mk (Array.mk [(32:UInt8),(99:UInt8),(108:UInt8),(101:UInt8),(97:UInt8),(110:UInt8),(117:UInt8),(112:UInt8)]))))) fun v8 =>
 ret v8) (
 ret v7)) (
 Prg.ite (asBool (cell x0 3)) (
 tv (pbin Kd.str .add v6 (TV.lit (Value.string (ByteArray.mk (Array.mk [(32:UInt8),(99:UInt8),(108:UInt8),(101:UInt8),(97:UInt8),(110:UInt8),(117:UInt8),(112:UInt8)]))))) fun v9 =>
 ret v9) (
 ret v6))))) (
 Prg.ite (asBool (cell x0 2)) (
 tv (pbin Kd.str .add v0 (TV.lit (Value.string (ByteArray.mk (Array.mk [(32:UInt8),(97:UInt8),(108:UInt8),(108:UInt8)]))))) fun v10 =>
 Prg.ite (asBool (cell x0 3)) (
 tv (pbin Kd.str .add v10 (TV.lit (Value.string (ByteArray.mk (Array.mk [(32:UInt8),(99:UInt8),(108:UInt8),(101:UInt8),(97:UInt8),(110:UInt8),(117:UInt8),(112:UInt8)]))))) fun v11 =>
 ret v11) (
 ret v10)) (
 Prg.ite (asBool (cell x0 3)) (
 tv (pbin Kd.str .add v0 (TV.lit (Value.string (ByteArray.mk (Array.mk [(32:UInt8),(99:UInt8),(108:UInt8),(101:UInt8),(97:UInt8),(110:UInt8),(117:UInt8),(112:UInt8)]))))) fun v12 =>
 ret v12) (
 ret v0)))))
theorem f31_MR (x0:TV):aB prog 31 [x0]=f31_M x0:=by kernel_rfl
def f33_0_S  (x0 x1 x2:TV):ASt:=⟨[AV.tv x0,AV.tv x1,Jk,Jk,Jk,AV.tv x2] ++ Rj 20,Rz 50,[]⟩
def f33_M (x0 x1:TV):Prg TV :=
 tv (plen (.slice 3) x0) fun v0 =>
 tv (plen (.slice 3) x1) fun v1 =>
 tv (pbin (.int .i64) .neq v0 v1) fun v2 =>
 Prg.ite (asBool v2) (
 ret (B false)) (
 jmp [0,0,1,0,1,1] (f33_0_S x0 x1 (I 0)))
def f33_0  (x0 x1 x2:TV):Prg TV :=
 tv (plen (.slice 3) x0) fun v3 =>
 tv (pbin (.int .i64) .lss x2 v3) fun v4 =>
 Prg.ite (asBool v4) (
 tvs (pidx 1 x0 x2) fun e5 =>
 chk (Nat.blt 0 (List.length e5)) (
 tvs (pidx 1 x1 x2) fun e6 =>
 chk (Nat.blt 0 (List.length e6)) (
 tv (pbin (.int .i64) .neq (nth hole e5 0) (nth hole e6 0)) fun v7 =>
 Prg.ite (asBool v7) (
 ret (B false)) (
 tv (pbin (.int .i64) .add x2 (I 1)) fun v8 =>
 jmp [0,0,1,0,1,1] (f33_0_S x0 x1 v8))))) (
 ret (B true))
theorem f33_MR (x0 x1:TV):aB prog 33 [x0,x1]=f33_M x0 x1:=by kernel_rfl
theorem f33_0_J  {x0 x1 x2:TV} {r:TV} (h:aa prog 33 (f33_0 x0 x1 x2) r):aa prog 33 (.jmp [0,0,1,0,1,1] (f33_0_S x0 x1 x2)) r:=aa.jmp (by kernel_rfl) h
def f34_0_S  (x0 x1 x2 y3:TV):ASt:=⟨[Jk,Pt 0] ++ Rj 22 ++ [AV.tv x0,AV.tv x1,AV.tv x2] ++ Rj 8,[Ct y3] ++ Rz 58,[]⟩
def f34_M (x0:TV):Prg TV :=
 chk (TV.isAgg x0 1) (
 tv (plen (.slice 55) (cell x0 0)) fun v0 =>
 tv (pbin (.int .i64) .lss v0 (I 1)) fun v1 =>
 Prg.ite (asBool v1) (
 ret (B false)) (
 tv (plen (.slice 55) (cell x0 0)) fun v2 =>
 tv (pbin (.int .i64) .gtr v2 (I 16)) fun v3 =>
 Prg.ite (asBool v3) (
 ret (B false)) (
 tvs (pidx 3 (cell x0 0) (I 0)) fun e4 =>
 chk (Nat.blt 0 (List.length e4)) (
 tv (pbin (.int .i64) .neq (nth hole e4 0) (I 0)) fun v5 =>
 Prg.ite (asBool v5) (
 ret (B false)) (
 tv (plen (.slice 55) (cell x0 0)) fun v6 =>
 jmp [0,0,1,0,1,1] (f34_0_S (cell x0 0) v6 (I 0) (cell x0 0)))))))
def f34_0  (x0 x1 x2 y3:TV):Prg TV :=
 tv (pbin (.int .i64) .lss x2 x1) fun v7 =>
 Prg.ite (asBool v7) (
 tvs (pidx 3 x0 x2) fun e8 =>
 chk (Nat.ble 3 (List.length e8)) (
 call 50 [agg [y3],agg [nth hole e8 0,nth hole e8 1,nth hole e8 2]] fun v9 =>
 chk (ab aM [v9] 0) (
 tv (pun .not v9) fun v10 =>
 Prg.ite (asBool v10) (
 ret (B false)) (
 tv (pbin (.int .i64) .add x2 (I 1)) fun v11 =>
 jmp [0,0,1,0,1,1] (f34_0_S x0 x1 v11 y3))))) (
 ret (B true))
theorem f34_MR (x0:TV):aB prog 34 [x0]=f34_M x0:=by kernel_rfl
theorem f34_0_J  {x0 x1 x2 y3:TV} {r:TV} (h:aa prog 34 (f34_0 x0 x1 x2 y3) r):aa prog 34 (.jmp [0,0,1,0,1,1] (f34_0_S x0 x1 x2 y3)) r:=aa.jmp (by kernel_rfl) h
def f35_M (c1 x1:TV):Prg TV :=
 chk (Bool.and true (Bool.and (TV.bV c1 5) true)) (
 chk (Bool.and true (Bool.and (TV.bV (cn 5 c1) 5) true)) (
 call 51 [tup [tup [],cn 5 c1],x1] fun v0 =>
 chk (Bool.and (Bool.and (isTup v0 2) (isTup (comp v0 1) 2)) (Bool.and (TV.aW (comp (comp v0 1) 0)) (Bool.and (TV.bV (comp (comp v0 1) 1) 5) true))) (
 chk (isTup (comp v0 0) 2) (
 chk (ab bF [comp (comp v0 0) 0] 0) (
 chk (ab z20 [comp (comp v0 0) 1] 0) (
 chk (Bool.and true (Bool.and (TV.bV (cn 5 (comp (comp v0 1) 1)) 5) true)) (
 call 52 [tup [tup [],cn 5 (comp (comp v0 1) 1)],TV.lit (Value.int IntKind.u8 (10:Int))] fun v1 =>
 chk (Bool.and (Bool.and (isTup v1 2) (isTup (comp v1 1) 2)) (Bool.and (TV.aW (comp (comp v1 1) 0)) (Bool.and (TV.bV (comp (comp v1 1) 1) 5) true))) (
 chk (ab z20 [comp v1 0] 0) (
 ret (tup [tup [],tup [tup [],comp (comp v1 1) 1]]))))))))))
theorem f35_MR (c1 x1:TV):aB prog 35 [tup [tup [],c1],x1]=f35_M c1 x1:=by kernel_rfl
def f36_0_S  (x0 x1 x2 w3 w4:TV):ASt:=⟨Rj 5 ++ [Pt 0] ++ Rj 4 ++ [AV.tv x0,AV.tv x1,AV.tv x2] ++ Rj 9,[some (BC.cells [CA.may 0 77,CA.sref 1 1 []]),some (BC.tree [w3,w4])] ++ Rz 44,[]⟩
def f36_M (x0 x1:TV):Prg TV :=
 chk true (
 call 51 [tup [tup [],TV.buf (ByteArray.mk (Array.mk [])) 5],x0] fun v0 =>
 chk (Bool.and (Bool.and (isTup v0 2) (isTup (comp v0 1) 2)) (Bool.and (TV.aW (comp (comp v0 1) 0)) (Bool.and (TV.bV (comp (comp v0 1) 1) 5) true))) (
 chk (isTup (comp v0 0) 2) (
 chk (ab bF [comp (comp v0 0) 0] 0) (
 chk (ab z20 [comp (comp v0 0) 1] 0) (
 tv (plen (.slice 3) x1) fun v1 =>
 jmp [0,0,1,0,1,1,1] (f36_0_S x1 v1 (I 0) hole (comp (comp v0 1) 1)))))))
def f36_0  (x0 x1 x2 w3 w4:TV):Prg TV :=
 tv (pbin (.int .i64) .lss x2 x1) fun v2 =>
 Prg.ite (asBool v2) (
 tvs (pidx 1 x0 x2) fun e3 =>
 chk (Nat.blt 0 (List.length e3)) (
 chk (Bool.and true (Bool.and (TV.bV (cn 5 w4) 5) true)) (
 call 52 [tup [tup [],cn 5 w4],TV.lit (Value.int IntKind.u8 (32:Int))] fun v4 =>
 chk (Bool.and (Bool.and (isTup v4 2) (isTup (comp v4 1) 2)) (Bool.and (TV.aW (comp (comp v4 1) 0)) (Bool.and (TV.bV (comp (comp v4 1) 1) 5) true))) (
 chk (ab z20 [comp v4 0] 0) (
 call 53 [nth hole e3 0] fun v5 =>
 chk (ab cp [v5] 0) (
 chk (Bool.and true (Bool.and (TV.bV (cn 5 (comp (comp v4 1) 1)) 5) true)) (
 call 51 [tup [tup [],cn 5 (comp (comp v4 1) 1)],v5] fun v6 =>
 chk (Bool.and (Bool.and (isTup v6 2) (isTup (comp v6 1) 2)) (Bool.and (TV.aW (comp (comp v6 1) 0)) (Bool.and (TV.bV (comp (comp v6 1) 1) 5) true))) (
 chk (isTup (comp v6 0) 2) (
 chk (ab bF [comp (comp v6 0) 0] 0) (
 chk (ab z20 [comp (comp v6 0) 1] 0) (
 tv (pbin (.int .i64) .add x2 (I 1)) fun v7 =>
 jmp [0,0,1,0,1,1,1] (f36_0_S x0 x1 v7 hole (comp (comp v6 1) 1))))))))))))) (
 chk (Bool.and true (Bool.and (TV.bV (cn 5 w4) 5) true)) (
 call 39 [tup [tup [],cn 5 w4]] fun v8 =>
 chk (Bool.and (Bool.and (isTup v8 2) (isTup (comp v8 1) 2)) (Bool.and (TV.aW (comp (comp v8 1) 0)) (Bool.and (TV.bV (comp (comp v8 1) 1) 5) true))) (
 chk (ab cp [comp v8 0] 0) (
 ret (comp v8 0)))))
theorem f36_MR (x0 x1:TV):aB prog 36 [x0,x1]=f36_M x0 x1:=by kernel_rfl
theorem f36_0_J  {x0 x1 x2 w3 w4:TV} {r:TV} (h:aa prog 36 (f36_0 x0 x1 x2 w3 w4) r):aa prog 36 (.jmp [0,0,1,0,1,1,1] (f36_0_S x0 x1 x2 w3 w4)) r:=aa.jmp (by kernel_rfl) h
def f37_0_S  (y0 y1 y2 y3 y4 y5 y6 y7 y8 y9 y10 y11 y12 y13 w14 w15:TV):ASt:=⟨[Pt 0,Jk,Jk,Pt 1] ++ Rj 29,[some (BC.cells [CA.may 0 77,CA.sref 2 1 []]),some (BC.cells [CA.t y0,CA.t y1,CA.t y2,CA.t y3,CA.t y4,CA.t y5,CA.t y6,CA.t y7,CA.t y8,CA.t y9,CA.t y10,CA.t y11,CA.t y12,CA.t y13]),some (BC.tree [w14,w15])] ++ Rz 56,[Pt 0]⟩
def f37_1_S  (x0 x1 x2 y3 y4 y5 y6 y7 y8 y9 y10 y11 y12 y13 y14 y15 y16 w17 w18:TV):ASt:=⟨[Pt 0,Jk,Jk,Pt 1] ++ Rj 13 ++ [AV.tv x0,AV.tv x1,AV.tv x2] ++ Rj 13,[some (BC.cells [CA.may 0 77,CA.sref 2 1 []]),some (BC.cells [CA.t y3,CA.t y4,CA.t y5,CA.t y6,CA.t y7,CA.t y8,CA.t y9,CA.t y10,CA.t y11,CA.t y12,CA.t y13,CA.t y14,CA.t y15,CA.t y16]),some (BC.tree [w17,w18])] ++ Rz 56,[Pt 0]⟩
def f37_2_S  (y0 y1 y2 y3 y4 y5 y6 y7 y8 y9 y10 y11 y12 y13 w14 w15:TV):ASt:=⟨[Pt 0,Jk,Jk,Pt 1] ++ Rj 29,[some (BC.cells [CA.may 0 77,CA.sref 2 1 []]),some (BC.cells [CA.t y0,CA.t y1,CA.t y2,CA.t y3,CA.t y4,CA.t y5,CA.t y6,CA.t y7,CA.t y8,CA.t y9,CA.t y10,CA.t y11,CA.t y12,CA.t y13]),some (BC.tree [w14,w15])] ++ Rz 56,[Pt 0]⟩
def f37_M (c1 x1:TV):Prg TV :=
 chk (Bool.and true (Bool.and (TV.bV c1 5) true)) (
 chk (TV.isAgg x1 14) (
 Prg.ite (asBool (cell x1 0)) (
 call 31 [agg [cell x1 1,cell x1 2,cell x1 3,cell x1 4]] fun v0 =>
 chk (ab cp [v0] 0) (
 chk (Bool.and true (Bool.and (TV.bV (cn 5 c1) 5) true)) (
 call 35 [tup [tup [],cn 5 c1],v0] fun v1 =>
 chk (Bool.and (Bool.and (isTup v1 2) (isTup (comp v1 1) 2)) (Bool.and (TV.aW (comp (comp v1 1) 0)) (Bool.and (TV.bV (comp (comp v1 1) 1) 5) true))) (
 chk (isTup (comp v1 0) 0) (
 jmp [1,1] (f37_0_S (cell x1 0) (cell x1 1) (cell x1 2) (cell x1 3) (cell x1 4) (cell x1 5) (cell x1 6) (cell x1 7) (cell x1 8) (cell x1 9) (cell x1 10) (cell x1 11) (cell x1 12) (cell x1 13) hole (comp (comp v1 1) 1))))))) (
 call 36 [TV.lit (Value.string (ByteArray.mk (Array.mk [(98:UInt8),(108:UInt8),(111:UInt8),(99:UInt8),(107:UInt8)]))),TV.lit ah] fun v2 =>
 chk (ab cp [v2] 0) (
 chk (Bool.and true (Bool.and (TV.bV (cn 5 c1) 5) true)) (
 call 35 [tup [tup [],cn 5 c1],v2] fun v3 =>
 chk (Bool.and (Bool.and (isTup v3 2) (isTup (comp v3 1) 2)) (Bool.and (TV.aW (comp (comp v3 1) 0)) (Bool.and (TV.bV (comp (comp v3 1) 1) 5) true))) (
 chk (isTup (comp v3 0) 0) (
 jmp [1,1] (f37_0_S (cell x1 0) (cell x1 1) (cell x1 2) (cell x1 3) (cell x1 4) (cell x1 5) (cell x1 6) (cell x1 7) (cell x1 8) (cell x1 9) (cell x1 10) (cell x1 11) (cell x1 12) (cell x1 13) hole (comp (comp v3 1) 1)))))))))
def f37_0  (y0 y1 y2 y3 y4 y5 y6 y7 y8 y9 y10 y11 y12 y13 w14 w15:TV):Prg TV :=
 tv (plen (.slice 26) y5) fun v4 =>
 jmp [0,0,1,0,1,1] (f37_1_S y5 v4 (I 0) y0 y1 y2 y3 y4 y5 y6 y7 y8 y9 y10 y11 y12 y13 w14 w15)
def f37_1  (x0 x1 x2 y3 y4 y5 y6 y7 y8 y9 y10 y11 y12 y13 y14 y15 y16 w17 w18:TV):Prg TV :=
 tv (pbin (.int .i64) .lss x2 x1) fun v5 =>
 Prg.ite (asBool v5) (
 tvs (pidx 7 x0 x2) fun e6 =>
 chk (Nat.ble 7 (List.length e6)) (
 call 22 [agg [nth hole e6 0,nth hole e6 1,nth hole e6 2,nth hole e6 3,nth hole e6 4,nth hole e6 5,nth hole e6 6]] fun v7 =>
 chk (ab cp [v7] 0) (
 chk (Bool.and true (Bool.and (TV.bV (cn 5 w18) 5) true)) (
 call 35 [tup [tup [],cn 5 w18],v7] fun v8 =>
 chk (Bool.and (Bool.and (isTup v8 2) (isTup (comp v8 1) 2)) (Bool.and (TV.aW (comp (comp v8 1) 0)) (Bool.and (TV.bV (comp (comp v8 1) 1) 5) true))) (
 chk (isTup (comp v8 0) 0) (
 tv (pbin (.int .i64) .add x2 (I 1)) fun v9 =>
 jmp [0,0,1,0,1,1] (f37_1_S x0 x1 v9 y3 y4 y5 y6 y7 y8 y9 y10 y11 y12 y13 y14 y15 y16 hole (comp (comp v8 1) 1)))))))) (
 jmp [1,1,1] (f37_2_S y3 y4 y5 y6 y7 y8 y9 y10 y11 y12 y13 y14 y15 y16 w17 w18))
def f37_2  (y0 y1 y2 y3 y4 y5 y6 y7 y8 y9 y10 y11 y12 y13 w14 w15:TV):Prg TV :=
 call 28 [agg [y6,y7,y8,y9,y10,y11,y12,y13]] fun v10 =>
 chk (ab cp [v10] 0) (
 chk (Bool.and true (Bool.and (TV.bV (cn 5 w15) 5) true)) (
 call 35 [tup [tup [],cn 5 w15],v10] fun v11 =>
 chk (Bool.and (Bool.and (isTup v11 2) (isTup (comp v11 1) 2)) (Bool.and (TV.aW (comp (comp v11 1) 0)) (Bool.and (TV.bV (comp (comp v11 1) 1) 5) true))) (
 chk (isTup (comp v11 0) 0) (
 ret (tup [tup [],tup [tup [],comp (comp v11 1) 1]])))))
theorem f37_MR (c1 x1:TV):aB prog 37 [tup [tup [],c1],x1]=f37_M c1 x1:=by kernel_rfl
theorem f37_0_J  {y0 y1 y2 y3 y4 y5 y6 y7 y8 y9 y10 y11 y12 y13 w14 w15:TV} {r:TV} (h:aa prog 37 (f37_0 y0 y1 y2 y3 y4 y5 y6 y7 y8 y9 y10 y11 y12 y13 w14 w15) r):aa prog 37 (.jmp [1,1] (f37_0_S y0 y1 y2 y3 y4 y5 y6 y7 y8 y9 y10 y11 y12 y13 w14 w15)) r:=aa.jmp (by kernel_rfl) h
theorem f37_1_J  {x0 x1 x2 y3 y4 y5 y6 y7 y8 y9 y10 y11 y12 y13 y14 y15 y16 w17 w18:TV} {r:TV} (h:aa prog 37 (f37_1 x0 x1 x2 y3 y4 y5 y6 y7 y8 y9 y10 y11 y12 y13 y14 y15 y16 w17 w18) r):aa prog 37 (.jmp [0,0,1,0,1,1] (f37_1_S x0 x1 x2 y3 y4 y5 y6 y7 y8 y9 y10 y11 y12 y13 y14 y15 y16 w17 w18)) r:=aa.jmp (by kernel_rfl) h
theorem f37_2_J  {y0 y1 y2 y3 y4 y5 y6 y7 y8 y9 y10 y11 y12 y13 w14 w15:TV} {r:TV} (h:aa prog 37 (f37_2 y0 y1 y2 y3 y4 y5 y6 y7 y8 y9 y10 y11 y12 y13 w14 w15) r):aa prog 37 (.jmp [1,1,1] (f37_2_S y0 y1 y2 y3 y4 y5 y6 y7 y8 y9 y10 y11 y12 y13 w14 w15)) r:=aa.jmp (by kernel_rfl) h
end Go.Ab.Z12
end

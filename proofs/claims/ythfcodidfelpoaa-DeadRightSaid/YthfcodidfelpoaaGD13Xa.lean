import Derived.Test.YthfcodidfelpoaaGD13T
set_option linter.all false
set_option maxRecDepth 100000
namespace Go.Ab.D13
open Go Go.Ab Go.Proofs
open Go.Ab.TV (hole cell comp isSl isSc isTup cellsL tup agg)
open Go.Ab.Prg (tv tvs rws nat chk call jmp ret)
def f3_M (x0 x1:TV):Prg TV :=
 chk (TV.isAgg x0 1) (
 chk (TV.isAgg x1 3) (
 call 5 [] fun v0 =>
 chk (ab ao [v0] 0) (
 tv (pun .not v0) fun v1 =>
 Prg.ite (asBool v1) (
 ret (B false)) (
 call 6 [agg [cell x0 0]] fun v2 =>
 chk (ab ao [v2] 0) (
 tv (pun .not v2) fun v3 =>
 Prg.ite (asBool v3) (
 ret (B true)) (
 call 6 [agg [frz (TV.sl true 3 (chunks 3 1 [cell x1 0,cell x1 1,cell x1 2]))]] fun v4 =>
 chk (ab ao [v4] 0) (
 tv (pun .not v4) fun v5 =>
 Prg.ite (asBool v5) (
 ret (B true)) (
 call 7 [agg [cell x0 0]] fun v6 =>
 chk (Bool.and (TV.isAgg v6 1) (ab zSl (cellsL true v6) 0)) (
 call 8 [agg [cell x0 0]] fun v7 =>
 chk (isTup v7 2) (
 chk (Bool.and (TV.isAgg (comp v7 0) 1) (ab zSl (cellsL true (comp v7 0)) 0)) (
 chk (ab ct [comp v7 1] 0) (
 call 9 [agg [frz (cell v6 0)],agg [cell x0 0]] fun v8 =>
 chk (ab ao [v8] 0) (
 tv (pun .not v8) fun v9 =>
 Prg.ite (asBool v9) (
 ret (B false)) (
 call 11 [agg [cell x1 0,cell x1 1,cell x1 2]] fun v10 =>
 chk (Bool.and (TV.isAgg v10 3) (ab ez (cellsL true v10) 0)) (
 call 12 [agg [cell x1 0,cell x1 1,cell x1 2]] fun v11 =>
 chk (Bool.and (TV.isAgg v11 3) (ab ez (cellsL true v11) 0)) (
 call 10 [agg [cell v10 0,cell v10 1,frz (cell v10 2)],agg [cell v11 0,cell v11 1,frz (cell v11 2)]] fun v12 =>
 chk (ab ao [v12] 0) (
 tv (pun .not v12) fun v13 =>
 Prg.ite (asBool v13) (
 ret (B false)) (
 call 13 [agg [cell x0 0]] fun v14 =>
 chk (ab ao [v14] 0) (
 tv (pun .not v14) fun v15 =>
 Prg.ite (asBool v15) (
 tv (pbin (.int .i64) .eql (comp v7 1) (I 1)) fun v16 =>
 Prg.ite (asBool v16) (
 call 9 [agg [frz (cell (comp v7 0) 0)],agg [cell x0 0]] fun v17 =>
 chk (ab ao [v17] 0) (
 ret v17)) (
 ret (B false))) (
 tv (pbin (.int .i64) .eql (comp v7 1) (I 0)) fun v18 =>
 Prg.ite (asBool v18) (
 call 14 [agg [cell x0 0]] fun v19 =>
 chk (Bool.and (TV.isAgg v19 1) (ab zSl (cellsL true v19) 0)) (
 call 9 [agg [frz (cell (comp v7 0) 0)],agg [frz (cell v19 0)]] fun v20 =>
 chk (ab ao [v20] 0) (
 ret v20))) (
 ret (B false))))))))))))))))))))))
theorem f3_MR (x0 x1:TV):au prog 3 [x0,x1]=f3_M x0 x1:=by kernel_rfl
def f5_0_S  (y0 y1 y2:TV):ASt:=⟨[Jk,Jk,Pt 0] ++ Rj 46,[some (BC.cells [CA.t y0,CA.t y1,CA.t y2])] ++ Rz 72,[]⟩
def f5_M:Prg TV :=
 call 11 [agg [I 0,I 1,frz (TV.sl true 14 (chunks 14 3 [B false,I 0,TV.lit aB,B false,B false,TV.lit aB,I 2,I 0,I 0,I 0,TV.lit aB,I 2,I 0,I 0,B false,I 0,TV.lit aB,B false,B false,TV.lit aB,I 1,I 0,I 0,I 0,TV.lit aB,I 0,I 0,I 0,B false,I 0,TV.lit aB,B false,B false,TV.lit aB,I 1,I 0,I 0,I 0,TV.lit aB,I 0,I 0,I 0]))]] fun v0 =>
 chk (Bool.and (TV.isAgg v0 3) (ab ez (cellsL true v0) 0)) (
 tv (plen (.slice 46) (cell v0 2)) fun v1 =>
 tv (pbin (.int .i64) .neq v1 (I 2)) fun v2 =>
 Prg.ite (asBool v2) (
 ret (B false)) (
 jmp [1,1,1,1] (f5_0_S (cell v0 0) (cell v0 1) (frz (cell v0 2)))))
def f5_0  (y0 y1 y2:TV):Prg TV :=
 call 8 [agg [frz (TV.sl true 3 (chunks 3 2 [y0,y1,y2,y0,y1,y2]))]] fun v3 =>
 chk (isTup v3 2) (
 chk (Bool.and (TV.isAgg (comp v3 0) 1) (ab zSl (cellsL true (comp v3 0)) 0)) (
 chk (ab ct [comp v3 1] 0) (
 tv (plen (.slice 46) y2) fun v4 =>
 tv (pbin (.int .i64) .eql v4 (I 2)) fun v5 =>
 Prg.ite (asBool v5) (
 tvs (pidx 14 y2 (I 0)) fun e6 =>
 chk (Nat.blt 11 (List.length e6)) (
 tv (pbin (.int .i64) .eql (nth hole e6 11) (I 1)) fun v7 =>
 Prg.ite (asBool v7) (
 tv (pbin (.int .i64) .eql (comp v3 1) (I 0)) fun v8 =>
 Prg.ite (asBool v8) (
 tv (plen (.slice 27) (cell (comp v3 0) 0)) fun v9 =>
 tv (pbin (.int .i64) .eql v9 (I 1)) fun v10 =>
 ret v10) (
 ret (B false))) (
 ret (B false)))) (
 ret (B false)))))
theorem f5_MR:au prog 5 []=f5_M  := by kernel_rfl
theorem f5_0_J  {y0 y1 y2:TV} {r:TV} (h:aa prog 5 (f5_0 y0 y1 y2) r):aa prog 5 (.jmp [1,1,1,1] (f5_0_S y0 y1 y2)) r:=aa.jmp (by kernel_rfl) h
def f6_0_S  (x0 x1 y2:TV):ASt:=⟨[Jk,Pt 0,Jk,AV.tv x0,AV.tv x1] ++ Rj 82,[Ct y2] ++ Rz 110,[]⟩
def f6_1_S  (x0 x1 x2 y3:TV):ASt:=⟨[Jk,Pt 0,Jk,AV.tv x0,AV.tv x1,AV.tv x2] ++ Rj 81,[Ct y3] ++ Rz 110,[]⟩
def f6_2_S  (x0 x1 x2 x3 y4 y5 y6 y7 y8 y9 y10 y11 y12 y13 y14 y15 y16 y17 y18:TV):ASt:=⟨[Jk,Pt 0,Jk,AV.tv x0,AV.tv x1,AV.tv x2,Pt 1,AV.tv x3] ++ Rj 79,[Ct y4,some (BC.cells [CA.t y5,CA.t y6,CA.t y7,CA.t y8,CA.t y9,CA.t y10,CA.t y11,CA.t y12,CA.t y13,CA.t y14,CA.t y15,CA.t y16,CA.t y17,CA.t y18])] ++ Rz 109,[]⟩
def f6_M (x0:TV):Prg TV :=
 chk (TV.isAgg x0 1) (
 tv (plen (.slice 27) (cell x0 0)) fun v0 =>
 tv (pbin (.int .i64) .gtr v0 (I 20)) fun v1 =>
 Prg.ite (asBool v1) (
 ret (B false)) (
 jmp [0,0,1,0,1,1,1] (f6_0_S (I 0) (I 0) (cell x0 0))))
def f6_0  (x0 x1 y2:TV):Prg TV :=
 tv (plen (.slice 27) y2) fun v2 =>
 tv (pbin (.int .i64) .lss x1 v2) fun v3 =>
 Prg.ite (asBool v3) (
 tvs (pidx 3 y2 x1) fun e4 =>
 chk (Nat.blt 2 (List.length e4)) (
 tv (plen (.slice 46) (nth hole e4 2)) fun v5 =>
 tv (pbin (.int .i64) .gtr v5 (I 70)) fun v6 =>
 Prg.ite (asBool v6) (
 ret (B false)) (
 jmp [0,0,1,1,0,0,1,0,0,1,0,1,1,1] (f6_1_S x0 x1 (I 0) y2)))) (
 tv (pbin (.int .i64) .leq x0 (I 2000)) fun v7 =>
 ret v7)
def f6_1  (x0 x1 x2 y3:TV):Prg TV :=
 tvs (pidx 3 y3 x1) fun e8 =>
 chk (Nat.blt 2 (List.length e8)) (
 tv (plen (.slice 46) (nth hole e8 2)) fun v9 =>
 tv (pbin (.int .i64) .lss x2 v9) fun v10 =>
 Prg.ite (asBool v10) (
 tvs (pidx 3 y3 x1) fun e11 =>
 chk (Nat.blt 2 (List.length e11)) (
 tvs (pidx 14 (nth hole e11 2) x2) fun e12 =>
 chk (Nat.ble 14 (List.length e12)) (
 tv (plen (.slice 50) (nth hole e12 5)) fun v13 =>
 tv (pbin (.int .i64) .gtr v13 (I 70)) fun v14 =>
 Prg.ite (asBool v14) (
 ret (B false)) (
 tv (plen (.slice 48) (nth hole e12 2)) fun v15 =>
 tv (pbin (.int .i64) .gtr v15 (I 20)) fun v16 =>
 Prg.ite (asBool v16) (
 ret (B false)) (
 tv (plen (.slice 3) (nth hole e12 10)) fun v17 =>
 tv (pbin (.int .i64) .gtr v17 (I 20)) fun v18 =>
 Prg.ite (asBool v18) (
 ret (B false)) (
 tv (plen (.slice 50) (nth hole e12 5)) fun v19 =>
 tv (pbin (.int .i64) .add x0 v19) fun v20 =>
 jmp [0,0,1,1,1,1,0,0,1,0,0,1,1,0,0,1,0,0,1,0,1,1,1] (f6_2_S v20 x1 x2 (I 0) y3 (nth hole e12 0) (nth hole e12 1) (nth hole e12 2) (nth hole e12 3) (nth hole e12 4) (nth hole e12 5) (nth hole e12 6) (nth hole e12 7) (nth hole e12 8) (nth hole e12 9) (nth hole e12 10) (nth hole e12 11) (nth hole e12 12) (nth hole e12 13)))))))) (
 tv (pbin (.int .i64) .add x1 (I 1)) fun v21 =>
 jmp [0,0,1,0,1,1,1] (f6_0_S x0 v21 y3)))
def f6_2  (x0 x1 x2 x3 y4 y5 y6 y7 y8 y9 y10 y11 y12 y13 y14 y15 y16 y17 y18:TV):Prg TV :=
 tv (plen (.slice 50) y10) fun v22 =>
 tv (pbin (.int .i64) .lss x3 v22) fun v23 =>
 Prg.ite (asBool v23) (
 tvs (pidx 7 y10 x3) fun e24 =>
 chk (Nat.blt 6 (List.length e24)) (
 tv (plen (.slice 3) (nth hole e24 6)) fun v25 =>
 tv (pbin (.int .i64) .gtr v25 (I 20)) fun v26 =>
 Prg.ite (asBool v26) (
 ret (B false)) (
 tv (pbin (.int .i64) .add x3 (I 1)) fun v27 =>
 jmp [0,0,1,1,1,1,0,0,1,0,0,1,1,0,0,1,0,0,1,0,1,1,1] (f6_2_S x0 x1 x2 v27 y4 y5 y6 y7 y8 y9 y10 y11 y12 y13 y14 y15 y16 y17 y18)))) (
 tv (pbin (.int .i64) .add x2 (I 1)) fun v28 =>
 jmp [0,0,1,1,0,0,1,0,0,1,0,1,1,1] (f6_1_S x0 x1 v28 y4))
theorem f6_MR (x0:TV):au prog 6 [x0]=f6_M x0:=by kernel_rfl
theorem f6_0_J  {x0 x1 y2:TV} {r:TV} (h:aa prog 6 (f6_0 x0 x1 y2) r):aa prog 6 (.jmp [0,0,1,0,1,1,1] (f6_0_S x0 x1 y2)) r:=aa.jmp (by kernel_rfl) h
theorem f6_1_J  {x0 x1 x2 y3:TV} {r:TV} (h:aa prog 6 (f6_1 x0 x1 x2 y3) r):aa prog 6 (.jmp [0,0,1,1,0,0,1,0,0,1,0,1,1,1] (f6_1_S x0 x1 x2 y3)) r:=aa.jmp (by kernel_rfl) h
theorem f6_2_J  {x0 x1 x2 x3 y4 y5 y6 y7 y8 y9 y10 y11 y12 y13 y14 y15 y16 y17 y18:TV} {r:TV} (h:aa prog 6 (f6_2 x0 x1 x2 x3 y4 y5 y6 y7 y8 y9 y10 y11 y12 y13 y14 y15 y16 y17 y18) r):aa prog 6 (.jmp [0,0,1,1,1,1,0,0,1,0,0,1,1,0,0,1,0,0,1,0,1,1,1] (f6_2_S x0 x1 x2 x3 y4 y5 y6 y7 y8 y9 y10 y11 y12 y13 y14 y15 y16 y17 y18)) r:=aa.jmp (by kernel_rfl) h
def f7_0_S  (x0 x1 w2:TV):ASt:=⟨[Jk,Jk,Pt 0,Sr 1] ++ Rj 8 ++ [AV.tv x0,AV.tv x1] ++ Rj 29,[some (BC.cells [CA.junk]),Tr w2] ++ Rz 65,[]⟩
def f7_1_S  (x0 x1 x2 x3 x4 w5 w6:TV):ASt:=⟨[Jk,Jk,Pt 0,Sr 1,AV.tv x0,Sr 2] ++ Rj 6 ++ [AV.tv x1,AV.tv x2] ++ Rj 8 ++ [Sr 2,AV.tv x3,AV.tv x4] ++ Rj 18,[some (BC.cells [CA.junk]),Tr w5,Tr w6] ++ Rz 64,[]⟩
def f7_2_S  (x0 x1 x2 w3 w4:TV):ASt:=⟨[Jk,Jk,Pt 0,Sr 1,AV.tv x0,Sr 2] ++ Rj 6 ++ [AV.tv x1,AV.tv x2] ++ Rj 29,[some (BC.cells [CA.junk]),Tr w3,Tr w4] ++ Rz 64,[]⟩
def f7_M (x0:TV):Prg TV :=
 chk (TV.isAgg x0 1) (
 call 16 [cell x0 0] fun v0 =>
 chk (ab zSl [v0] 0) (
 tv (plen (.slice 27) v0) fun v1 =>
 jmp [0,0,1,0,1,1] (f7_0_S v1 (I 0) v0)))
def f7_0  (x0 x1 w2:TV):Prg TV :=
 tv (pbin (.int .i64) .lss x1 x0) fun v2 =>
 Prg.ite (asBool v2) (
 nat (slLen w2) fun n3 =>
 nat (af x1) fun n4 =>
 chk (Bool.and (slSize w2 3) (Nat.blt n4 n3)) (
 tvs (pel w2 n4) fun e5 =>
 chk (ab zSl e5 2) (
 tv (aR [(n4,2)] w2) fun v6 =>
 chk (TV.gS v6) (
 call 17 [v6] fun v7 =>
 chk (ab zSl [v7] 0) (
 tv (plen (.slice 46) v7) fun v8 =>
 jmp [0,0,1,0,1,1,0,0,1,1,0,0,1,0,1,1] (f7_1_S x1 x0 x1 v8 (I 0) w2 v7)))))) (
 chk (bj (agg [w2])) (
 ret (agg [w2])))
def f7_1  (x0 x1 x2 x3 x4 w5 w6:TV):Prg TV :=
 tv (pbin (.int .i64) .lss x4 x3) fun v9 =>
 Prg.ite (asBool v9) (
 nat (slLen w6) fun n10 =>
 nat (af x4) fun n11 =>
 chk (Bool.and (slSize w6 14) (Nat.blt n11 n10)) (
 tvs (pel w6 n11) fun e12 =>
 chk (ab iP e12 0) (
 tv (aR [(n11,2)] w6) fun v13 =>
 tv (aR [(n11,5)] w6) fun v14 =>
 tv (aR [(n11,10)] w6) fun v15 =>
 call 18 [agg [nth hole e12 0,nth hole e12 1,frz v13,nth hole e12 3,nth hole e12 4,frz v14,nth hole e12 6,nth hole e12 7,nth hole e12 8,nth hole e12 9,frz v15,nth hole e12 11,nth hole e12 12,nth hole e12 13]] fun v16 =>
 chk (Bool.and (TV.isAgg v16 14) (ab iP (cellsL true v16) 0)) (
 nat (slLen w6) fun n17 =>
 nat (af x4) fun n18 =>
 chk (Bool.and (slSize w6 14) (Nat.blt n18 n17)) (
 tvs (pel w6 n18) fun e19 =>
 chk (Bool.and (bQ iP e19 0) (ab iP [cell v16 0,cell v16 1,cell v16 2,cell v16 3,cell v16 4,cell v16 5,cell v16 6,cell v16 7,cell v16 8,cell v16 9,cell v16 10,cell v16 11,cell v16 12,cell v16 13] 0)) (
 tv (df [] w6 n18 0 [cell v16 0,cell v16 1,cell v16 2,cell v16 3,cell v16 4,cell v16 5,cell v16 6,cell v16 7,cell v16 8,cell v16 9,cell v16 10,cell v16 11,cell v16 12,cell v16 13]) fun v20 =>
 tv (pbin (.int .i64) .add x4 (I 1)) fun v21 =>
 jmp [0,0,1,0,1,1,0,0,1,1,0,0,1,0,1,1] (f7_1_S x0 x1 x2 x3 v21 w5 v20))))))) (
 jmp [1,1,1,0,0,1,1,0,0,1,0,1,1] (f7_2_S x0 x1 x2 w5 w6))
def f7_2  (x0 x1 x2 w3 w4:TV):Prg TV :=
 nat (slLen w3) fun n22 =>
 nat (af x0) fun n23 =>
 chk (Bool.and (slSize w3 3) (Nat.blt n23 n22)) (
 tvs (pel w3 n23) fun e24 =>
 chk (Bool.and (bQ zSl e24 2) (ab zSl [w4] 0)) (
 tv (df [] w3 n23 2 [w4]) fun v25 =>
 tv (pbin (.int .i64) .add x2 (I 1)) fun v26 =>
 jmp [0,0,1,0,1,1] (f7_0_S x1 v26 v25)))
theorem f7_MR (x0:TV):au prog 7 [x0]=f7_M x0:=by kernel_rfl
theorem f7_0_J  {x0 x1 w2:TV} {r:TV} (h:aa prog 7 (f7_0 x0 x1 w2) r):aa prog 7 (.jmp [0,0,1,0,1,1] (f7_0_S x0 x1 w2)) r:=aa.jmp (by kernel_rfl) h
theorem f7_1_J  {x0 x1 x2 x3 x4 w5 w6:TV} {r:TV} (h:aa prog 7 (f7_1 x0 x1 x2 x3 x4 w5 w6) r):aa prog 7 (.jmp [0,0,1,0,1,1,0,0,1,1,0,0,1,0,1,1] (f7_1_S x0 x1 x2 x3 x4 w5 w6)) r:=aa.jmp (by kernel_rfl) h
theorem f7_2_J  {x0 x1 x2 w3 w4:TV} {r:TV} (h:aa prog 7 (f7_2 x0 x1 x2 w3 w4) r):aa prog 7 (.jmp [1,1,1,0,0,1,1,0,0,1,0,1,1] (f7_2_S x0 x1 x2 w3 w4)) r:=aa.jmp (by kernel_rfl) h
def f8_0_S  (x0 x1 x2 w3:TV):ASt:=⟨[Jk,Jk,Pt 0,Jk,Sr 1] ++ Rj 17 ++ [AV.tv x0,AV.tv x1,AV.tv x2] ++ Rj 37,[some (BC.cells [CA.junk]),Tr w3] ++ Rz 84,[]⟩
def f8_1_S  (w0:TV):ASt:=⟨[Jk,Jk,Pt 0,Jk,Sr 1] ++ Rj 57,[some (BC.cells [CA.junk]),Tr w0] ++ Rz 84,[]⟩
def f8_2_S  (x0 x1 w2 w3 w4 w5:TV):ASt:=⟨[Jk,Sr 0,Jk,Jk,Jk,Sr 1,Jk,Jk,Sr 2,AV.tv x0,AV.tv x1] ++ Rj 14,[Tr w2,Tr w3,Tr w4,some (BC.cells [CA.junk]),some (BC.cells [CA.sref 5 0 []]),Tr w5] ++ Rz 105,([Jk,Jk,Pt 3] ++ Rj 5 ++ [Pt 4] ++ Rj 53)⟩
def f8_3_S  (x0 x1 w2 w3:TV):ASt:=⟨[Jk,Jk,Pt 0,Jk,Sr 1,Jk,Jk,Jk,Pt 2] ++ Rj 33 ++ [Sr 1,AV.tv x0,AV.tv x1] ++ Rj 17,[some (BC.cells [CA.junk]),Tr w2,some (BC.cells [CA.sref 3 0 []]),Tr w3] ++ Rz 82,[]⟩
def f8_4_S  (x0 x1 y2 y3:TV) (k4:Nat) (w5 w6 x7 x8:TV):ASt:=⟨[AV.one (CA.yl 0),Pt 0] ++ Rj 6 ++ [AV.tv x0,AV.tv x1] ++ Rj 52,[some (BC.cells [CA.t y2,CA.t y3,CA.sref 2 0 [(k4,2)]]),some (BC.cells [CA.junk]),Tr w5,some (BC.cells [CA.sref 4 0 []]),Tr w6] ++ Rz 143,([Jk,Jk,Pt 1,Jk,Sr 2,Jk,Jk,Jk,Pt 3] ++ Rj 33 ++ [Sr 2,AV.tv x7,AV.tv x8] ++ Rj 4 ++ [AV.clo 43 [CA.ptr 0 0]] ++ Rj 12)⟩
def f8_5_S  (w0:TV):ASt:=⟨[Jk,Jk,Pt 0,Jk,Sr 1] ++ Rj 57,[some (BC.cells [CA.junk]),Tr w0] ++ Rz 84,[]⟩
def f8_6_S  (k0 k1:Nat) (x2 x3 x4 x5 y6 y7:TV) (k8:Nat) (w9 w10 x11 x12:TV):ASt:=⟨[AV.one (CA.yl 0),Pt 0,Jk,Jk,AV.one (CA.tptr 1 0 [(k0,2)] k1 0),Jk,Jk,Jk,AV.tv x2,AV.tv x3] ++ Rj 10 ++ [AV.tv x4,AV.tv x5] ++ Rj 40,[some (BC.cells [CA.t y6,CA.t y7,CA.sref 1 0 [(k8,2)]]),Tr w9,some (BC.cells [CA.junk]),some (BC.cells [CA.sref 4 0 []]),Tr w10] ++ Rz 143,([Jk,Jk,Pt 2,Jk,Sr 1,Jk,Jk,Jk,Pt 3] ++ Rj 33 ++ [Sr 1,AV.tv x11,AV.tv x12] ++ Rj 4 ++ [AV.clo 43 [CA.ptr 0 0]] ++ Rj 12)⟩
def f8_7_S  (k0 k1:Nat) (x2 x3 y4 y5:TV) (k6:Nat) (w7 w8 x9 x10:TV):ASt:=⟨[AV.one (CA.yl 0),Pt 0,Jk,Jk,AV.one (CA.tptr 1 0 [(k0,2)] k1 0),Jk,Jk,Jk,AV.tv x2,AV.tv x3] ++ Rj 52,[some (BC.cells [CA.t y4,CA.t y5,CA.sref 1 0 [(k6,2)]]),Tr w7,some (BC.cells [CA.junk]),some (BC.cells [CA.sref 4 0 []]),Tr w8] ++ Rz 143,([Jk,Jk,Pt 2,Jk,Sr 1,Jk,Jk,Jk,Pt 3] ++ Rj 33 ++ [Sr 1,AV.tv x9,AV.tv x10] ++ Rj 4 ++ [AV.clo 43 [CA.ptr 0 0]] ++ Rj 12)⟩
def f8_M (x0:TV):Prg TV :=
 chk (TV.isAgg x0 1) (
 call 15 [agg [cell x0 0]] fun v0 =>
 chk (ab ao [v0] 0) (
 tv (pun .not v0) fun v1 =>
 Prg.ite (asBool v1) (
 call 7 [agg [cell x0 0]] fun v2 =>
 chk (Bool.and (TV.isAgg v2 1) (ab zSl (cellsL true v2) 0)) (
 chk (ci [agg [cell v2 0],I 1]) (
 ret (tup [agg [cell v2 0],I 1])))) (
 tv (plen (.slice 27) (cell x0 0)) fun v3 =>
 nat (af v3) fun n4 =>
 nat (af v3) fun n5 =>
 chk (Bool.and (Nat.ble n4 n5) (Nat.ble n5 4294967296)) (
 tv (plen (.slice 27) (cell x0 0)) fun v6 =>
 jmp [0,0,1,0,1,1,1] (f8_0_S (cell x0 0) v6 (I 0) (TV.sl true 3 (List.replicate n4 [I 0,I 0,TV.lit aB])))))))
def f8_0  (x0 x1 x2 w3:TV):Prg TV :=
 tv (pbin (.int .i64) .lss x2 x1) fun v7 =>
 Prg.ite (asBool v7) (
 tvs (pidx 3 x0 x2) fun e8 =>
 chk (Nat.ble 3 (List.length e8)) (
 call 11 [agg [nth hole e8 0,nth hole e8 1,nth hole e8 2]] fun v9 =>
 chk (Bool.and (TV.isAgg v9 3) (ab ez (cellsL true v9) 0)) (
 nat (slLen w3) fun n10 =>
 nat (af x2) fun n11 =>
 chk (Bool.and (slSize w3 3) (Nat.blt n11 n10)) (
 tvs (pel w3 n11) fun e12 =>
 chk (Bool.and (bQ ez e12 0) (ab ez [cell v9 0,cell v9 1,cell v9 2] 0)) (
 tv (df [] w3 n11 0 [cell v9 0,cell v9 1,cell v9 2]) fun v13 =>
 tv (pbin (.int .i64) .add x2 (I 1)) fun v14 =>
 jmp [0,0,1,0,1,1,1] (f8_0_S x0 x1 v14 v13)))))) (
 jmp [1,1,1,1] (f8_1_S w3))
def f8_1  (w0:TV):Prg TV :=
 call 19 [frz w0] fun v15 =>
 chk (ab zSl [v15] 0) (
 call 20 [frz v15] fun v16 =>
 chk (ab zSl [v16] 0) (
 tv (plen (.slice 27) w0) fun v17 =>
 chk true (
 jmp [0,0,1,0,1,1,6,0,1,1,1,1,1,1] (f8_2_S v17 (I 0) v15 (TV.lit aB) w0 v16))))
def f8_2  (x0 x1 w2 w3 w4 w5:TV):Prg TV :=
 tv (pbin (.int .i64) .lss x1 x0) fun v18 =>
 Prg.ite (asBool v18) (
 nat (slLen w4) fun n19 =>
 nat (af x1) fun n20 =>
 chk (Bool.and (slSize w4 3) (Nat.blt n20 n19)) (
 tvs (pel w4 n20) fun e21 =>
 chk (ab ez e21 0) (
 nat (slLen w2) fun n22 =>
 nat (af x1) fun n23 =>
 chk (Bool.and (slSize w2 1) (Nat.blt n23 n22)) (
 tvs (pel w2 n23) fun e24 =>
 chk (ab ao e24 0) (
 Prg.ite (asBool (nth hole e24 0)) (
 tv (aR [(n20,2)] w4) fun v25 =>
 Prg.ite (frB v25) (
 rws (pelems 3 (TV.sl true 3 (chunks 3 1 [nth hole e21 0,nth hole e21 1,v25]))) fun r26 =>
 tv (papp 3 w3 r26) fun v27 =>
 tv (pbin (.int .i64) .add x1 (I 1)) fun v28 =>
 jmp [0,0,1,0,1,1,6,0,1,1,1,1,1,1] (f8_2_S x0 v28 w2 v27 w4 w5)) (
 tv (fD [(n20,2)] w4 hole) fun v29 =>
 rws (pelems 3 (TV.sl true 3 (chunks 3 1 [nth hole e21 0,nth hole e21 1,v25]))) fun r30 =>
 tv (papp 3 w3 r30) fun v31 =>
 tv (pbin (.int .i64) .add x1 (I 1)) fun v32 =>
 jmp [0,0,1,0,1,1,6,0,1,1,1,1,1,1] (f8_2_S x0 v32 w2 v31 v29 w5))) (
 tv (pbin (.int .i64) .add x1 (I 1)) fun v33 =>
 jmp [0,0,1,0,1,1,6,0,1,1,1,1,1,1] (f8_2_S x0 v33 w2 w3 w4 w5))))))) (
 tv (plen (.slice 27) w3) fun v34 =>
 jmp [0,0,1,0,1,1,1,1,1,1,1] (f8_3_S v34 (I 0) w3 w5))
def f8_3  (x0 x1 w2 w3:TV):Prg TV :=
 tv (pbin (.int .i64) .lss x1 x0) fun v35 =>
 Prg.ite (asBool v35) (
 nat (slLen w2) fun n36 =>
 nat (af x1) fun n37 =>
 chk (Bool.and (slSize w2 3) (Nat.blt n37 n36)) (
 tvs (pel w2 n37) fun e38 =>
 chk (ab ez e38 0) (
 tv (aR [(n37,2)] w2) fun v39 =>
 tv (plen (.slice 46) v39) fun v40 =>
 jmp [0,0,1,43,0,1,1,0,0,1,1,0,0,1,0,1,1,1,1,1,1,1] (f8_4_S v40 (I 0) (nth hole e38 0) (nth hole e38 1) n37 w2 w3 x0 x1)))) (
 jmp [1,1,1,1,1,1,1,1] (f8_5_S w2))
def f8_4  (x0 x1 y2 y3:TV) (k4:Nat) (w5 w6 x7 x8:TV):Prg TV :=
 tv (pbin (.int .i64) .lss x1 x0) fun v41 =>
 Prg.ite (asBool v41) (
 tv (aR [(k4,2)] w5) fun v42 =>
 nat (slLen v42) fun n43 =>
 nat (af x1) fun n44 =>
 chk (Bool.and (slSize v42 14) (Nat.blt n44 n43)) (
 tv (aR [(k4,2)] w5) fun v45 =>
 tvs (pel v45 n44) fun e46 =>
 chk (ab zSl e46 5) (
 tv (aR [(k4,2),(n44,5)] w5) fun v47 =>
 tv (plen (.slice 50) v47) fun v48 =>
 jmp [0,0,1,0,1,1,0,0,1,1,0,0,1,43,0,1,1,0,0,1,1,0,0,1,0,1,1,1,1,1,1,1] (f8_6_S k4 n44 x0 x1 v48 (I 0) y2 y3 k4 w5 w6 x7 x8)))) (
 tv (pbin (.int .i64) .add x8 (I 1)) fun v49 =>
 jmp [0,0,1,0,1,1,1,1,1,1,1] (f8_3_S x7 v49 w5 w6))
def f8_5  (w0:TV):Prg TV :=
 chk (ci [agg [w0],I 0]) (
 ret (tup [agg [w0],I 0]))
def f8_6  (k0 k1:Nat) (x2 x3 x4 x5 y6 y7:TV) (k8:Nat) (w9 w10 x11 x12:TV):Prg TV :=
 tv (pbin (.int .i64) .lss x5 x4) fun v50 =>
 Prg.ite (asBool v50) (
 tv (aR [(k0,2)] w9) fun v51 =>
 tvs (pel v51 k1) fun e52 =>
 chk (ab zSl e52 5) (
 tv (aR [(k0,2),(k1,5)] w9) fun v53 =>
 nat (slLen v53) fun n54 =>
 nat (af x5) fun n55 =>
 chk (Bool.and (slSize v53 7) (Nat.blt n55 n54)) (
 tv (aR [(k0,2),(k1,5)] w9) fun v56 =>
 tvs (pel v56 n55) fun e57 =>
 chk (ab ct e57 0) (
 tv (pbin (.int .i64) .eql (nth hole e57 0) (I 11)) fun v58 =>
 Prg.ite (asBool v58) (
 tv (aR [(k0,2)] w9) fun v59 =>
 tvs (pel v59 k1) fun e60 =>
 chk (ab zSl e60 5) (
 tv (aR [(k0,2),(k1,5)] w9) fun v61 =>
 nat (slLen v61) fun n62 =>
 nat (af x5) fun n63 =>
 chk (Bool.and (slSize v61 7) (Nat.blt n63 n62)) (
 tv (aR [(k0,2),(k1,5)] w9) fun v64 =>
 tvs (pel v64 n63) fun e65 =>
 chk (ab ct e65 5) (
 nat (slLen w10) fun n66 =>
 nat (af (nth hole e65 5)) fun n67 =>
 chk (Bool.and (slSize w10 1) (Nat.blt n67 n66)) (
 tvs (pel w10 n67) fun e68 =>
 chk (ab ct e68 0) (
 tv (aR [(k0,2),(k1,5)] w9) fun v69 =>
 tvs (pel v69 n63) fun e70 =>
 chk (ab ct e70 5) (
 tv (df [(k0,2),(k1,5)] w9 n63 5 [nth hole e68 0]) fun v71 =>
 tv (pbin (.int .i64) .add x5 (I 1)) fun v72 =>
 jmp [0,0,1,0,1,1,0,0,1,1,0,0,1,43,0,1,1,0,0,1,1,0,0,1,0,1,1,1,1,1,1,1] (f8_6_S k0 k1 x2 x3 x4 v72 y6 y7 k8 v71 w10 x11 x12)))))))) (
 tv (pbin (.int .i64) .add x5 (I 1)) fun v73 =>
 jmp [0,0,1,0,1,1,0,0,1,1,0,0,1,43,0,1,1,0,0,1,1,0,0,1,0,1,1,1,1,1,1,1] (f8_6_S k0 k1 x2 x3 x4 v73 y6 y7 k8 w9 w10 x11 x12)))))) (
 jmp [1,1,1,0,0,1,1,0,0,1,43,0,1,1,0,0,1,1,0,0,1,0,1,1,1,1,1,1,1] (f8_7_S k0 k1 x2 x3 y6 y7 k8 w9 w10 x11 x12))
def f8_7  (k0 k1:Nat) (x2 x3 y4 y5:TV) (k6:Nat) (w7 w8 x9 x10:TV):Prg TV :=
 tv (aR [(k0,2)] w7) fun v74 =>
 tvs (pel v74 k1) fun e75 =>
 chk (ab ct e75 6) (
 tv (pbin (.int .i64) .eql (nth hole e75 6) (I 4)) fun v76 =>
 Prg.ite (asBool v76) (
 tv (aR [(k0,2)] w7) fun v77 =>
 tvs (pel v77 k1) fun e78 =>
 chk (ab ct e78 9) (
 nat (slLen w8) fun n79 =>
 nat (af (nth hole e78 9)) fun n80 =>
 chk (Bool.and (slSize w8 1) (Nat.blt n80 n79)) (
 tvs (pel w8 n80) fun e81 =>
 chk (ab ct e81 0) (
 tv (aR [(k0,2)] w7) fun v82 =>
 tvs (pel v82 k1) fun e83 =>
 chk (ab ct e83 9) (
 tv (df [(k0,2)] w7 k1 9 [nth hole e81 0]) fun v84 =>
 tv (pbin (.int .i64) .add x3 (I 1)) fun v85 =>
 jmp [0,0,1,43,0,1,1,0,0,1,1,0,0,1,0,1,1,1,1,1,1,1] (f8_4_S x2 v85 y4 y5 k6 v84 w8 x9 x10)))))) (
 tv (pbin (.int .i64) .add x3 (I 1)) fun v86 =>
 jmp [0,0,1,43,0,1,1,0,0,1,1,0,0,1,0,1,1,1,1,1,1,1] (f8_4_S x2 v86 y4 y5 k6 w7 w8 x9 x10)))
theorem f8_MR (x0:TV):au prog 8 [x0]=f8_M x0:=by kernel_rfl
theorem f8_0_J  {x0 x1 x2 w3:TV} {r:TV} (h:aa prog 8 (f8_0 x0 x1 x2 w3) r):aa prog 8 (.jmp [0,0,1,0,1,1,1] (f8_0_S x0 x1 x2 w3)) r:=aa.jmp (by kernel_rfl) h
theorem f8_1_J  {w0:TV} {r:TV} (h:aa prog 8 (f8_1 w0) r):aa prog 8 (.jmp [1,1,1,1] (f8_1_S w0)) r:=aa.jmp (by kernel_rfl) h
theorem f8_2_J  {x0 x1 w2 w3 w4 w5:TV} {r:TV} (h:aa prog 8 (f8_2 x0 x1 w2 w3 w4 w5) r):aa prog 8 (.jmp [0,0,1,0,1,1,6,0,1,1,1,1,1,1] (f8_2_S x0 x1 w2 w3 w4 w5)) r:=aa.jmp (by kernel_rfl) h
theorem f8_3_J  {x0 x1 w2 w3:TV} {r:TV} (h:aa prog 8 (f8_3 x0 x1 w2 w3) r):aa prog 8 (.jmp [0,0,1,0,1,1,1,1,1,1,1] (f8_3_S x0 x1 w2 w3)) r:=aa.jmp (by kernel_rfl) h
theorem f8_4_J  {x0 x1 y2 y3:TV} {k4:Nat} {w5 w6 x7 x8:TV} {r:TV} (h:aa prog 8 (f8_4 x0 x1 y2 y3 k4 w5 w6 x7 x8) r):aa prog 8 (.jmp [0,0,1,43,0,1,1,0,0,1,1,0,0,1,0,1,1,1,1,1,1,1] (f8_4_S x0 x1 y2 y3 k4 w5 w6 x7 x8)) r:=aa.jmp (by kernel_rfl) h
theorem f8_5_J  {w0:TV} {r:TV} (h:aa prog 8 (f8_5 w0) r):aa prog 8 (.jmp [1,1,1,1,1,1,1,1] (f8_5_S w0)) r:=aa.jmp (by kernel_rfl) h
theorem f8_6_J  {k0 k1:Nat} {x2 x3 x4 x5 y6 y7:TV} {k8:Nat} {w9 w10 x11 x12:TV} {r:TV} (h:aa prog 8 (f8_6 k0 k1 x2 x3 x4 x5 y6 y7 k8 w9 w10 x11 x12) r):aa prog 8 (.jmp [0,0,1,0,1,1,0,0,1,1,0,0,1,43,0,1,1,0,0,1,1,0,0,1,0,1,1,1,1,1,1,1] (f8_6_S k0 k1 x2 x3 x4 x5 y6 y7 k8 w9 w10 x11 x12)) r:=aa.jmp (by kernel_rfl) h
theorem f8_7_J  {k0 k1:Nat} {x2 x3 y4 y5:TV} {k6:Nat} {w7 w8 x9 x10:TV} {r:TV} (h:aa prog 8 (f8_7 k0 k1 x2 x3 y4 y5 k6 w7 w8 x9 x10) r):aa prog 8 (.jmp [1,1,1,0,0,1,1,0,0,1,43,0,1,1,0,0,1,1,0,0,1,0,1,1,1,1,1,1,1] (f8_7_S k0 k1 x2 x3 y4 y5 k6 w7 w8 x9 x10)) r:=aa.jmp (by kernel_rfl) h
def f9_0_S  (x0 y1 y2:TV):ASt:=⟨[Jk,Jk,Pt 0,Pt 1,Jk,AV.tv x0] ++ Rj 26,[Ct y1,Ct y2] ++ Rz 54,[]⟩
def f9_M (x0 x1:TV):Prg TV :=
 chk (TV.isAgg x0 1) (
 chk (TV.isAgg x1 1) (
 tv (plen (.slice 27) (cell x0 0)) fun v0 =>
 tv (plen (.slice 27) (cell x1 0)) fun v1 =>
 tv (pbin (.int .i64) .neq v0 v1) fun v2 =>
 Prg.ite (asBool v2) (
 ret (B false)) (
 jmp [0,0,1,0,1,1] (f9_0_S (I 0) (cell x0 0) (cell x1 0)))))
def f9_0  (x0 y1 y2:TV):Prg TV :=
 tv (plen (.slice 27) y1) fun v3 =>
 tv (pbin (.int .i64) .lss x0 v3) fun v4 =>
 Prg.ite (asBool v4) (
 tvs (pidx 3 y1 x0) fun e5 =>
 chk (Nat.ble 3 (List.length e5)) (
 tvs (pidx 3 y2 x0) fun e6 =>
 chk (Nat.ble 3 (List.length e6)) (
 call 10 [agg [nth hole e5 0,nth hole e5 1,nth hole e5 2],agg [nth hole e6 0,nth hole e6 1,nth hole e6 2]] fun v7 =>
 chk (ab ao [v7] 0) (
 tv (pun .not v7) fun v8 =>
 Prg.ite (asBool v8) (
 ret (B false)) (
 tv (pbin (.int .i64) .add x0 (I 1)) fun v9 =>
 jmp [0,0,1,0,1,1] (f9_0_S v9 y1 y2)))))) (
 ret (B true))
theorem f9_MR (x0 x1:TV):au prog 9 [x0,x1]=f9_M x0 x1:=by kernel_rfl
theorem f9_0_J  {x0 y1 y2:TV} {r:TV} (h:aa prog 9 (f9_0 x0 y1 y2) r):aa prog 9 (.jmp [0,0,1,0,1,1] (f9_0_S x0 y1 y2)) r:=aa.jmp (by kernel_rfl) h
def f10_0_S  (x0 y1 y2 y3 y4 y5 y6:TV):ASt:=⟨[Jk,Jk,Pt 0,Pt 1,Jk,AV.tv x0] ++ Rj 90,[some (BC.cells [CA.t y1,CA.t y2,CA.t y3]),some (BC.cells [CA.t y4,CA.t y5,CA.t y6])] ++ Rz 118,[]⟩
def f10_1_S  (x0 x1 y2 y3 y4 y5 y6 y7 y8 y9 y10 y11 y12 y13 y14 y15 y16 y17 y18 y19 y20 y21 y22 y23 y24 y25 y26 y27 y28 y29 y30 y31 y32 y33 y34 y35:TV):ASt:=⟨[Jk,Jk,Pt 0,Pt 1,Jk,AV.tv x0,Pt 2,Pt 3,AV.tv x1] ++ Rj 87,[some (BC.cells [CA.t y2,CA.t y3,CA.t y4]),some (BC.cells [CA.t y5,CA.t y6,CA.t y7]),some (BC.cells [CA.t y8,CA.t y9,CA.t y10,CA.t y11,CA.t y12,CA.t y13,CA.t y14,CA.t y15,CA.t y16,CA.t y17,CA.t y18,CA.t y19,CA.t y20,CA.t y21]),some (BC.cells [CA.t y22,CA.t y23,CA.t y24,CA.t y25,CA.t y26,CA.t y27,CA.t y28,CA.t y29,CA.t y30,CA.t y31,CA.t y32,CA.t y33,CA.t y34,CA.t y35])] ++ Rz 116,[]⟩
def f10_M (x0 x1:TV):Prg TV :=
 chk (TV.isAgg x0 3) (
 chk (TV.isAgg x1 3) (
 tv (pbin (.int .i64) .neq (cell x0 0) (cell x1 0)) fun v0 =>
 Prg.ite (asBool v0) (
 ret (B false)) (
 tv (pbin (.int .i64) .neq (cell x0 1) (cell x1 1)) fun v1 =>
 Prg.ite (asBool v1) (
 ret (B false)) (
 tv (plen (.slice 46) (cell x0 2)) fun v2 =>
 tv (plen (.slice 46) (cell x1 2)) fun v3 =>
 tv (pbin (.int .i64) .neq v2 v3) fun v4 =>
 Prg.ite (asBool v4) (
 ret (B false)) (
 jmp [0,0,1,0,1,1] (f10_0_S (I 0) (cell x0 0) (cell x0 1) (cell x0 2) (cell x1 0) (cell x1 1) (cell x1 2)))))))
def f10_0  (x0 y1 y2 y3 y4 y5 y6:TV):Prg TV :=
 tv (plen (.slice 46) y3) fun v5 =>
 tv (pbin (.int .i64) .lss x0 v5) fun v6 =>
 Prg.ite (asBool v6) (
 tvs (pidx 14 y3 x0) fun e7 =>
 chk (Nat.ble 14 (List.length e7)) (
 tvs (pidx 14 y6 x0) fun e8 =>
 chk (Nat.ble 14 (List.length e8)) (
 tv (pbin Kd.bool .neq (nth hole e7 0) (nth hole e8 0)) fun v9 =>
 Prg.ite (asBool v9) (
 ret (B false)) (
 call 23 [agg [nth hole e7 1,nth hole e7 2,nth hole e7 3,nth hole e7 4],agg [nth hole e8 1,nth hole e8 2,nth hole e8 3,nth hole e8 4]] fun v10 =>
 chk (ab ao [v10] 0) (
 tv (pun .not v10) fun v11 =>
 Prg.ite (asBool v11) (
 ret (B false)) (
 call 24 [agg [nth hole e7 6,nth hole e7 7,nth hole e7 8,nth hole e7 9,nth hole e7 10,nth hole e7 11,nth hole e7 12,nth hole e7 13],agg [nth hole e8 6,nth hole e8 7,nth hole e8 8,nth hole e8 9,nth hole e8 10,nth hole e8 11,nth hole e8 12,nth hole e8 13]] fun v12 =>
 chk (ab ao [v12] 0) (
 tv (pun .not v12) fun v13 =>
 Prg.ite (asBool v13) (
 ret (B false)) (
 tv (plen (.slice 50) (nth hole e7 5)) fun v14 =>
 tv (plen (.slice 50) (nth hole e8 5)) fun v15 =>
 tv (pbin (.int .i64) .neq v14 v15) fun v16 =>
 Prg.ite (asBool v16) (
 ret (B false)) (
 jmp [0,0,1,1,1,0,0,1,0,0,1,0,1,1] (f10_1_S x0 (I 0) y1 y2 y3 y4 y5 y6 (nth hole e7 0) (nth hole e7 1) (nth hole e7 2) (nth hole e7 3) (nth hole e7 4) (nth hole e7 5) (nth hole e7 6) (nth hole e7 7) (nth hole e7 8) (nth hole e7 9) (nth hole e7 10) (nth hole e7 11) (nth hole e7 12) (nth hole e7 13) (nth hole e8 0) (nth hole e8 1) (nth hole e8 2) (nth hole e8 3) (nth hole e8 4) (nth hole e8 5) (nth hole e8 6) (nth hole e8 7) (nth hole e8 8) (nth hole e8 9) (nth hole e8 10) (nth hole e8 11) (nth hole e8 12) (nth hole e8 13))))))))))) (
 ret (B true))
def f10_1  (x0 x1 y2 y3 y4 y5 y6 y7 y8 y9 y10 y11 y12 y13 y14 y15 y16 y17 y18 y19 y20 y21 y22 y23 y24 y25 y26 y27 y28 y29 y30 y31 y32 y33 y34 y35:TV):Prg TV :=
 tv (plen (.slice 50) y13) fun v17 =>
 tv (pbin (.int .i64) .lss x1 v17) fun v18 =>
 Prg.ite (asBool v18) (
 tvs (pidx 7 y13 x1) fun e19 =>
 chk (Nat.ble 7 (List.length e19)) (
 tvs (pidx 7 y27 x1) fun e20 =>
 chk (Nat.ble 7 (List.length e20)) (
 call 25 [agg [nth hole e19 0,nth hole e19 1,nth hole e19 2,nth hole e19 3,nth hole e19 4,nth hole e19 5,nth hole e19 6],agg [nth hole e20 0,nth hole e20 1,nth hole e20 2,nth hole e20 3,nth hole e20 4,nth hole e20 5,nth hole e20 6]] fun v21 =>
 chk (ab ao [v21] 0) (
 tv (pun .not v21) fun v22 =>
 Prg.ite (asBool v22) (
 ret (B false)) (
 tv (pbin (.int .i64) .add x1 (I 1)) fun v23 =>
 jmp [0,0,1,1,1,0,0,1,0,0,1,0,1,1] (f10_1_S x0 v23 y2 y3 y4 y5 y6 y7 y8 y9 y10 y11 y12 y13 y14 y15 y16 y17 y18 y19 y20 y21 y22 y23 y24 y25 y26 y27 y28 y29 y30 y31 y32 y33 y34 y35)))))) (
 tv (pbin (.int .i64) .add x0 (I 1)) fun v24 =>
 jmp [0,0,1,0,1,1] (f10_0_S v24 y2 y3 y4 y5 y6 y7))
theorem f10_MR (x0 x1:TV):au prog 10 [x0,x1]=f10_M x0 x1:=by kernel_rfl
theorem f10_0_J  {x0 y1 y2 y3 y4 y5 y6:TV} {r:TV} (h:aa prog 10 (f10_0 x0 y1 y2 y3 y4 y5 y6) r):aa prog 10 (.jmp [0,0,1,0,1,1] (f10_0_S x0 y1 y2 y3 y4 y5 y6)) r:=aa.jmp (by kernel_rfl) h
theorem f10_1_J  {x0 x1 y2 y3 y4 y5 y6 y7 y8 y9 y10 y11 y12 y13 y14 y15 y16 y17 y18 y19 y20 y21 y22 y23 y24 y25 y26 y27 y28 y29 y30 y31 y32 y33 y34 y35:TV} {r:TV} (h:aa prog 10 (f10_1 x0 x1 y2 y3 y4 y5 y6 y7 y8 y9 y10 y11 y12 y13 y14 y15 y16 y17 y18 y19 y20 y21 y22 y23 y24 y25 y26 y27 y28 y29 y30 y31 y32 y33 y34 y35) r):aa prog 10 (.jmp [0,0,1,1,1,0,0,1,0,0,1,0,1,1] (f10_1_S x0 x1 y2 y3 y4 y5 y6 y7 y8 y9 y10 y11 y12 y13 y14 y15 y16 y17 y18 y19 y20 y21 y22 y23 y24 y25 y26 y27 y28 y29 y30 y31 y32 y33 y34 y35)) r:=aa.jmp (by kernel_rfl) h
def f11_0_S  (x0 x1 x2 y3 y4 w5:TV):ASt:=⟨[Jk,Pt 0,Pt 1,Jk,AV.tv x0] ++ Rj 16 ++ [Sr 2,AV.tv x1,AV.tv x2] ++ Rj 21,[some (BC.cells [CA.t y3,CA.t y4,CA.sref 2 0 []]),some (BC.cells [CA.junk,CA.junk,CA.junk]),Tr w5] ++ Rz 66,[]⟩
def f11_1_S  (y0 y1 w2:TV):ASt:=⟨[Jk,Pt 0,Pt 1] ++ Rj 42,[some (BC.cells [CA.t y0,CA.t y1,CA.sref 2 0 []]),some (BC.cells [CA.junk,CA.junk,CA.junk]),Tr w2] ++ Rz 66,[]⟩
def f11_M (x0:TV):Prg TV :=
 chk (TV.isAgg x0 3) (
 call 26 [agg [cell x0 0,cell x0 1,cell x0 2]] fun v0 =>
 chk (ab zSl [v0] 0) (
 call 27 [agg [cell x0 0,cell x0 1,cell x0 2],frz v0] fun v1 =>
 chk (ab ao [v1] 0) (
 tv (pun .not v1) fun v2 =>
 Prg.ite (asBool v2) (
 call 28 [cell x0 2,frz v0] fun v3 =>
 chk (ab zSl [v3] 0) (
 call 20 [frz (frz v0)] fun v4 =>
 chk (ab zSl [v4] 0) (
 tv (plen (.slice 46) v3) fun v5 =>
 jmp [0,0,1,1,1,0,1,0,1,1] (f11_0_S (frz v4) v5 (I 0) (cell x0 0) (cell x0 1) v3)))) (
 chk (isSl (cell x0 2)) (
 jmp [1,1,1] (f11_1_S (cell x0 0) (cell x0 1) (cell x0 2)))))))
def f11_0  (x0 x1 x2 y3 y4 w5:TV):Prg TV :=
 tv (pbin (.int .i64) .lss x2 x1) fun v6 =>
 Prg.ite (asBool v6) (
 nat (slLen w5) fun n7 =>
 nat (af x2) fun n8 =>
 chk (Bool.and (slSize w5 14) (Nat.blt n8 n7)) (
 tvs (pel w5 n8) fun e9 =>
 chk (ab iP e9 0) (
 tv (aR [(n8,10)] w5) fun v10 =>
 chk (TV.gS v10) (
 call 29 [agg [nth hole e9 6,nth hole e9 7,nth hole e9 8,nth hole e9 9,v10,nth hole e9 11,nth hole e9 12,nth hole e9 13],x0] fun v11 =>
 chk (Bool.and (TV.isAgg v11 8) (ab Cl (cellsL true v11) 0)) (
 nat (slLen w5) fun n12 =>
 nat (af x2) fun n13 =>
 chk (Bool.and (slSize w5 14) (Nat.blt n13 n12)) (
 tvs (pel w5 n13) fun e14 =>
 chk (Bool.and (bQ Cl e14 6) (ab Cl [cell v11 0,cell v11 1,cell v11 2,cell v11 3,cell v11 4,cell v11 5,cell v11 6,cell v11 7] 0)) (
 tv (df [] w5 n13 6 [cell v11 0,cell v11 1,cell v11 2,cell v11 3,cell v11 4,cell v11 5,cell v11 6,cell v11 7]) fun v15 =>
 tv (pbin (.int .i64) .add x2 (I 1)) fun v16 =>
 chk (isSl x0) (
 jmp [0,0,1,1,1,0,1,0,1,1] (f11_0_S (frz x0) x1 v16 y3 y4 v15))))))))) (
 jmp [1,1,1] (f11_1_S y3 y4 w5))
def f11_1  (y0 y1 w2:TV):Prg TV :=
 call 7 [agg [frz (TV.sl true 3 (chunks 3 1 [y0,y1,w2]))]] fun v17 =>
 chk (Bool.and (TV.isAgg v17 1) (ab zSl (cellsL true v17) 0)) (
 nat (slLen (cell v17 0)) fun n18 =>
 nat (af (I 0)) fun n19 =>
 chk (Bool.and (slSize (cell v17 0) 3) (Nat.blt n19 n18)) (
 tvs (pel (cell v17 0) n19) fun e20 =>
 chk (ab ez e20 0) (
 tv (aR [(n19,2)] (cell v17 0)) fun v21 =>
 chk (bj (agg [nth hole e20 0,nth hole e20 1,v21])) (
 ret (agg [nth hole e20 0,nth hole e20 1,v21])))))
theorem f11_MR (x0:TV):au prog 11 [x0]=f11_M x0:=by kernel_rfl
theorem f11_0_J  {x0 x1 x2 y3 y4 w5:TV} {r:TV} (h:aa prog 11 (f11_0 x0 x1 x2 y3 y4 w5) r):aa prog 11 (.jmp [0,0,1,1,1,0,1,0,1,1] (f11_0_S x0 x1 x2 y3 y4 w5)) r:=aa.jmp (by kernel_rfl) h
theorem f11_1_J  {y0 y1 w2:TV} {r:TV} (h:aa prog 11 (f11_1 y0 y1 w2) r):aa prog 11 (.jmp [1,1,1] (f11_1_S y0 y1 w2)) r:=aa.jmp (by kernel_rfl) h
def f12_0_S  (x0 y1 y2 y3 w4 w5:TV):ASt:=⟨[Jk,Pt 0,Pt 1,Sr 2,Sr 3,AV.tv x0] ++ Rj 83,[some (BC.cells [CA.t y1,CA.t y2,CA.t y3]),some (BC.cells [CA.junk,CA.junk,CA.junk]),Tr w4,Tr w5] ++ Rz 109,[]⟩
def f12_1_S  (x0 x1 y2 y3 y4 w5 w6 y7 y8 y9 y10 y11 y12 y13 y14 y15 y16 y17 y18 y19 y20:TV):ASt:=⟨[Jk,Pt 0,Pt 1,Sr 2,Sr 3,AV.tv x0,Pt 4,AV.tv x1] ++ Rj 81,[some (BC.cells [CA.t y2,CA.t y3,CA.t y4]),some (BC.cells [CA.junk,CA.junk,CA.junk]),Tr w5,Tr w6,some (BC.cells [CA.t y7,CA.t y8,CA.t y9,CA.t y10,CA.t y11,CA.t y12,CA.t y13,CA.t y14,CA.t y15,CA.t y16,CA.t y17,CA.t y18,CA.t y19,CA.t y20])] ++ Rz 108,[]⟩
def f12_2_S  (y0 y1 y2 w3:TV):ASt:=⟨[Jk,Pt 0,Pt 1,Jk,Sr 2] ++ Rj 84,[some (BC.cells [CA.t y0,CA.t y1,CA.t y2]),some (BC.cells [CA.junk,CA.junk,CA.junk]),Tr w3] ++ Rz 110,[]⟩
def f12_3_S  (x0 x1 y2 y3 y4 w5 w6 y7 y8 y9 y10 y11 y12 y13 y14 y15 y16 y17 y18 y19 y20:TV):ASt:=⟨[Jk,Pt 0,Pt 1,Sr 2,Sr 3,AV.tv x0,Pt 4,AV.tv x1] ++ Rj 81,[some (BC.cells [CA.t y2,CA.t y3,CA.t y4]),some (BC.cells [CA.junk,CA.junk,CA.junk]),Tr w5,Tr w6,some (BC.cells [CA.t y7,CA.t y8,CA.t y9,CA.t y10,CA.t y11,CA.t y12,CA.t y13,CA.t y14,CA.t y15,CA.t y16,CA.t y17,CA.t y18,CA.t y19,CA.t y20])] ++ Rz 108,[]⟩
def f12_4_S  (x0 y1 y2 y3 w4 w5 y6 y7 y8 y9 y10 y11 y12 y13 y14 y15 y16 y17 y18 y19:TV):ASt:=⟨[Jk,Pt 0,Pt 1,Sr 2,Sr 3,AV.tv x0,Pt 4] ++ Rj 82,[some (BC.cells [CA.t y1,CA.t y2,CA.t y3]),some (BC.cells [CA.junk,CA.junk,CA.junk]),Tr w4,Tr w5,some (BC.cells [CA.t y6,CA.t y7,CA.t y8,CA.t y9,CA.t y10,CA.t y11,CA.t y12,CA.t y13,CA.t y14,CA.t y15,CA.t y16,CA.t y17,CA.t y18,CA.t y19])] ++ Rz 108,[]⟩
def f12_5_S  (x0 y1 y2 y3 w4 w5 y6 y7 y8 y9 y10 y11 y12 y13 y14 y15 y16 y17 y18 y19:TV):ASt:=⟨[Jk,Pt 0,Pt 1,Sr 2,Sr 3,AV.tv x0,Pt 4] ++ Rj 82,[some (BC.cells [CA.t y1,CA.t y2,CA.t y3]),some (BC.cells [CA.junk,CA.junk,CA.junk]),Tr w4,Tr w5,some (BC.cells [CA.t y6,CA.t y7,CA.t y8,CA.t y9,CA.t y10,CA.t y11,CA.t y12,CA.t y13,CA.t y14,CA.t y15,CA.t y16,CA.t y17,CA.t y18,CA.t y19])] ++ Rz 108,[]⟩
def f12_6_S  (x0 y1 y2 y3 w4 w5 y6 y7 y8 y9 y10 y11 y12 y13 y14 y15 y16 y17 y18 y19:TV):ASt:=⟨[Jk,Pt 0,Pt 1,Sr 2,Sr 3,AV.tv x0,Pt 4] ++ Rj 82,[some (BC.cells [CA.t y1,CA.t y2,CA.t y3]),some (BC.cells [CA.junk,CA.junk,CA.junk]),Tr w4,Tr w5,some (BC.cells [CA.t y6,CA.t y7,CA.t y8,CA.t y9,CA.t y10,CA.t y11,CA.t y12,CA.t y13,CA.t y14,CA.t y15,CA.t y16,CA.t y17,CA.t y18,CA.t y19])] ++ Rz 108,[]⟩
def f12_M (x0:TV):Prg TV :=
 chk (TV.isAgg x0 3) (
 call 30 [agg [cell x0 0,cell x0 1,cell x0 2]] fun v0 =>
 chk (ab zSl [v0] 0) (
 chk true (
 jmp [0,0,1,0,1,1,1] (f12_0_S (I 0) (cell x0 0) (cell x0 1) (cell x0 2) v0 (TV.lit aB)))))
def f12_0  (x0 y1 y2 y3 w4 w5:TV):Prg TV :=
 tv (plen (.slice 46) y3) fun v1 =>
 tv (pbin (.int .i64) .lss x0 v1) fun v2 =>
 Prg.ite (asBool v2) (
 nat (slLen w4) fun n3 =>
 nat (af x0) fun n4 =>
 chk (Bool.and (slSize w4 1) (Nat.blt n4 n3)) (
 tvs (pel w4 n4) fun e5 =>
 chk (ab ao e5 0) (
 tv (pun .not (nth hole e5 0)) fun v6 =>
 Prg.ite (asBool v6) (
 tv (pbin (.int .i64) .add x0 (I 1)) fun v7 =>
 jmp [0,0,1,0,1,1,1] (f12_0_S v7 y1 y2 y3 w4 w5)) (
 tvs (pidx 14 y3 x0) fun e8 =>
 chk (Nat.ble 14 (List.length e8)) (
 tv (pbin (.int .i64) .eql (nth hole e8 6) (I 2)) fun v9 =>
 Prg.ite (asBool v9) (
 jmp [1,1,1,1,0,0,1,0,0,1,0,1,1,1] (f12_1_S x0 (I 1) y1 y2 y3 w4 w5 (nth hole e8 0) (nth hole e8 1) (nth hole e8 2) (nth hole e8 3) (nth hole e8 4) (nth hole e8 5) (nth hole e8 6) (nth hole e8 7) (nth hole e8 8) (nth hole e8 9) (nth hole e8 10) (nth hole e8 11) (nth hole e8 12) (nth hole e8 13))) (
 jmp [1,1,1,1,0,0,1,0,0,1,0,1,1,1] (f12_1_S x0 (I 0) y1 y2 y3 w4 w5 (nth hole e8 0) (nth hole e8 1) (nth hole e8 2) (nth hole e8 3) (nth hole e8 4) (nth hole e8 5) (nth hole e8 6) (nth hole e8 7) (nth hole e8 8) (nth hole e8 9) (nth hole e8 10) (nth hole e8 11) (nth hole e8 12) (nth hole e8 13)))))))) (
 jmp [1,1,1,1] (f12_2_S y1 y2 y3 w5))
def f12_1  (x0 x1 y2 y3 y4 w5 w6 y7 y8 y9 y10 y11 y12 y13 y14 y15 y16 y17 y18 y19 y20:TV):Prg TV :=
 tv (pbin (.int .i64) .eql y13 (I 3)) fun v10 =>
 Prg.ite (asBool v10) (
 jmp [1,1,1,1,1,0,0,1,0,0,1,0,1,1,1] (f12_3_S x0 (I 2) y2 y3 y4 w5 w6 y7 y8 y9 y10 y11 y12 y13 y14 y15 y16 y17 y18 y19 y20)) (
 tv (pbin (.int .i64) .eql y13 (I 4)) fun v11 =>
 Prg.ite (asBool v11) (
 jmp [1,1,1,1,1,0,0,1,0,0,1,0,1,1,1] (f12_3_S x0 (I 2) y2 y3 y4 w5 w6 y7 y8 y9 y10 y11 y12 y13 y14 y15 y16 y17 y18 y19 y20)) (
 jmp [1,1,1,1,1,0,0,1,0,0,1,0,1,1,1] (f12_3_S x0 x1 y2 y3 y4 w5 w6 y7 y8 y9 y10 y11 y12 y13 y14 y15 y16 y17 y18 y19 y20)))
def f12_2  (y0 y1 y2 w3:TV):Prg TV :=
 tv (plen (.slice 46) w3) fun v12 =>
 tv (pbin (.int .i64) .gtr v12 (I 0)) fun v13 =>
 Prg.ite (asBool v13) (
 ret (agg [y0,y1,w3])) (
 ret (agg [y0,y1,y2]))
def f12_3  (x0 x1 y2 y3 y4 w5 w6 y7 y8 y9 y10 y11 y12 y13 y14 y15 y16 y17 y18 y19 y20:TV):Prg TV :=
 call 31 [agg [y2,y3,y4],x0] fun v14 =>
 chk (ab zSl [v14] 0) (
 tv (plen (.slice 3) v14) fun v15 =>
 tv (pbin (.int .i64) .neq v15 x1) fun v16 =>
 Prg.ite (asBool v16) (
 ret (agg [y2,y3,y4])) (
 tv (pbin (.int .i64) .gtr x1 (I 0)) fun v17 =>
 Prg.ite (asBool v17) (
 call 32 [frz w5,y18] fun v18 =>
 chk (ab ct [v18] 0) (
 jmp [1,1,1,1,1,1,1,0,0,1,0,0,1,0,1,1,1] (f12_4_S x0 y2 y3 y4 w5 w6 y7 y8 y9 y10 y11 y12 y13 y14 y15 y16 y17 v18 y19 y20))) (
 jmp [1,1,1,1,1,1,1,0,0,1,0,0,1,0,1,1,1] (f12_4_S x0 y2 y3 y4 w5 w6 y7 y8 y9 y10 y11 y12 y13 y14 y15 y16 y17 y18 y19 y20))))
def f12_4  (x0 y1 y2 y3 w4 w5 y6 y7 y8 y9 y10 y11 y12 y13 y14 y15 y16 y17 y18 y19:TV):Prg TV :=
 tv (pbin (.int .i64) .eql y12 (I 3)) fun v19 =>
 Prg.ite (asBool v19) (
 call 32 [frz w4,y18] fun v20 =>
 chk (ab ct [v20] 0) (
 jmp [1,1,1,1,1,1,1,1,0,0,1,0,0,1,0,1,1,1] (f12_5_S x0 y1 y2 y3 w4 w5 y6 y7 y8 y9 y10 y11 y12 y13 y14 y15 y16 y17 v20 y19))) (
 jmp [1,1,1,1,1,1,1,1,0,0,1,0,0,1,0,1,1,1] (f12_5_S x0 y1 y2 y3 w4 w5 y6 y7 y8 y9 y10 y11 y12 y13 y14 y15 y16 y17 y18 y19))
def f12_5  (x0 y1 y2 y3 w4 w5 y6 y7 y8 y9 y10 y11 y12 y13 y14 y15 y16 y17 y18 y19:TV):Prg TV :=
 tv (pbin (.int .i64) .eql y12 (I 4)) fun v21 =>
 Prg.ite (asBool v21) (
 call 32 [frz w4,y19] fun v22 =>
 chk (ab ct [v22] 0) (
 jmp [1,1,1,1,1,1,1,1,1,0,0,1,0,0,1,0,1,1,1] (f12_6_S x0 y1 y2 y3 w4 w5 y6 y7 y8 y9 y10 y11 y12 y13 y14 y15 y16 y17 y18 v22))) (
 jmp [1,1,1,1,1,1,1,1,1,0,0,1,0,0,1,0,1,1,1] (f12_6_S x0 y1 y2 y3 w4 w5 y6 y7 y8 y9 y10 y11 y12 y13 y14 y15 y16 y17 y18 y19))
def f12_6  (x0 y1 y2 y3 w4 w5 y6 y7 y8 y9 y10 y11 y12 y13 y14 y15 y16 y17 y18 y19:TV):Prg TV :=
 rws (pelems 14 (TV.sl true 14 (chunks 14 1 [y6,y7,y8,y9,y10,y11,y12,y13,y14,y15,y16,y17,y18,y19]))) fun r23 =>
 tv (papp 14 w5 r23) fun v24 =>
 tv (pbin (.int .i64) .add x0 (I 1)) fun v25 =>
 jmp [0,0,1,0,1,1,1] (f12_0_S v25 y1 y2 y3 w4 v24)
theorem f12_MR (x0:TV):au prog 12 [x0]=f12_M x0:=by kernel_rfl
theorem f12_0_J  {x0 y1 y2 y3 w4 w5:TV} {r:TV} (h:aa prog 12 (f12_0 x0 y1 y2 y3 w4 w5) r):aa prog 12 (.jmp [0,0,1,0,1,1,1] (f12_0_S x0 y1 y2 y3 w4 w5)) r:=aa.jmp (by kernel_rfl) h
theorem f12_1_J  {x0 x1 y2 y3 y4 w5 w6 y7 y8 y9 y10 y11 y12 y13 y14 y15 y16 y17 y18 y19 y20:TV} {r:TV} (h:aa prog 12 (f12_1 x0 x1 y2 y3 y4 w5 w6 y7 y8 y9 y10 y11 y12 y13 y14 y15 y16 y17 y18 y19 y20) r):aa prog 12 (.jmp [1,1,1,1,0,0,1,0,0,1,0,1,1,1] (f12_1_S x0 x1 y2 y3 y4 w5 w6 y7 y8 y9 y10 y11 y12 y13 y14 y15 y16 y17 y18 y19 y20)) r:=aa.jmp (by kernel_rfl) h
theorem f12_2_J  {y0 y1 y2 w3:TV} {r:TV} (h:aa prog 12 (f12_2 y0 y1 y2 w3) r):aa prog 12 (.jmp [1,1,1,1] (f12_2_S y0 y1 y2 w3)) r:=aa.jmp (by kernel_rfl) h
theorem f12_3_J  {x0 x1 y2 y3 y4 w5 w6 y7 y8 y9 y10 y11 y12 y13 y14 y15 y16 y17 y18 y19 y20:TV} {r:TV} (h:aa prog 12 (f12_3 x0 x1 y2 y3 y4 w5 w6 y7 y8 y9 y10 y11 y12 y13 y14 y15 y16 y17 y18 y19 y20) r):aa prog 12 (.jmp [1,1,1,1,1,0,0,1,0,0,1,0,1,1,1] (f12_3_S x0 x1 y2 y3 y4 w5 w6 y7 y8 y9 y10 y11 y12 y13 y14 y15 y16 y17 y18 y19 y20)) r:=aa.jmp (by kernel_rfl) h
theorem f12_4_J  {x0 y1 y2 y3 w4 w5 y6 y7 y8 y9 y10 y11 y12 y13 y14 y15 y16 y17 y18 y19:TV} {r:TV} (h:aa prog 12 (f12_4 x0 y1 y2 y3 w4 w5 y6 y7 y8 y9 y10 y11 y12 y13 y14 y15 y16 y17 y18 y19) r):aa prog 12 (.jmp [1,1,1,1,1,1,1,0,0,1,0,0,1,0,1,1,1] (f12_4_S x0 y1 y2 y3 w4 w5 y6 y7 y8 y9 y10 y11 y12 y13 y14 y15 y16 y17 y18 y19)) r:=aa.jmp (by kernel_rfl) h
theorem f12_5_J  {x0 y1 y2 y3 w4 w5 y6 y7 y8 y9 y10 y11 y12 y13 y14 y15 y16 y17 y18 y19:TV} {r:TV} (h:aa prog 12 (f12_5 x0 y1 y2 y3 w4 w5 y6 y7 y8 y9 y10 y11 y12 y13 y14 y15 y16 y17 y18 y19) r):aa prog 12 (.jmp [1,1,1,1,1,1,1,1,0,0,1,0,0,1,0,1,1,1] (f12_5_S x0 y1 y2 y3 w4 w5 y6 y7 y8 y9 y10 y11 y12 y13 y14 y15 y16 y17 y18 y19)) r:=aa.jmp (by kernel_rfl) h
theorem f12_6_J  {x0 y1 y2 y3 w4 w5 y6 y7 y8 y9 y10 y11 y12 y13 y14 y15 y16 y17 y18 y19:TV} {r:TV} (h:aa prog 12 (f12_6 x0 y1 y2 y3 w4 w5 y6 y7 y8 y9 y10 y11 y12 y13 y14 y15 y16 y17 y18 y19) r):aa prog 12 (.jmp [1,1,1,1,1,1,1,1,1,0,0,1,0,0,1,0,1,1,1] (f12_6_S x0 y1 y2 y3 w4 w5 y6 y7 y8 y9 y10 y11 y12 y13 y14 y15 y16 y17 y18 y19)) r:=aa.jmp (by kernel_rfl) h
end Go.Ab.D13

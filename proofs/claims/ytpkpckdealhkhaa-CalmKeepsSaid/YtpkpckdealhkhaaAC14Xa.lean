import Derived.Test.YtpkpckdealhkhaaAC14T
set_option linter.all false
set_option maxRecDepth 100000
namespace Go.Ab.C14
open Go Go.Ab Go.Proofs
open Go.Ab.TV (hole cell comp isSl isSc isTup cellsL tup agg)
open Go.Ab.Prg (tv tvs rws nat chk call jmp ret)
def f4_0_S  (x0 x1 x2 y3 w4 w5 w6:TV):ASt:=⟨[Jk,AV.tv x0,AV.tv x1,Pt 0,Jk,Jk,Jk,Pt 1,Jk,Jk,Jk,Sr 2,AV.tv x2]++Rj 98,[Ct y3,some (BC.cells [CA.sref 3 0 []]),Tr w4,some (BC.tree [w5,w6])]++Rz 131,[]⟩
def f4_1_S  (x0 x1 x2 x3 y4 w5 w6 w7:TV):ASt:=⟨[Jk,AV.tv x0,AV.tv x1,Pt 0,Jk,Jk,Jk,Pt 1,Jk,Jk,Jk,Sr 2,AV.tv x2,AV.tv x3]++Rj 97,[Ct y4,some (BC.cells [CA.sref 3 0 []]),Tr w5,some (BC.tree [w6,w7])]++Rz 131,[]⟩
def f4_2_S  (x0 x1 y2 w3 w4:TV):ASt:=⟨[Jk,AV.tv x0,AV.tv x1,Pt 0,Jk,Jk,Jk,Pt 1]++Rj 103,[Ct y2,some (BC.cells [CA.sref 2 0 []]),some (BC.tree [w3,w4])]++Rz 132,[]⟩
def f4_M (x0 x1 x2:TV):Prg TV :=
 chk (TV.isAgg x0 1) (
 call 6 [] fun v0 =>
 chk (ab am [v0] 0) (
 tv (pun .not v0) fun v1 =>
 Prg.ite (asBool v1) (
 ret (B false)) (
 call 15 [agg [cell x0 0],x1] fun v2 =>
 chk (ab am [v2] 0) (
 tv (pun .not v2) fun v3 =>
 Prg.ite (asBool v3) (
 ret (B true)) (
 call 9 [agg [cell x0 0]] fun v4 =>
 chk (isTup v4 2) (
 chk (Bool.and (TV.isAgg (comp v4 0) 1) (ab zSl (cellsL true (comp v4 0)) 0)) (
 chk (ab wq [comp v4 1] 0) (
 tv (pbin (.int .i64) .neq (comp v4 1) (I 0)) fun v5 =>
 Prg.ite (asBool v5) (
 call 16 [agg [cell x0 0]] fun v6 =>
 chk (ab am [v6] 0) (
 tv (pun .not v6) fun v7 =>
 ret v7)) (
 call 9 [agg [frz (cell (comp v4 0) 0)]] fun v8 =>
 chk (isTup v8 2) (
 chk (Bool.and (TV.isAgg (comp v8 0) 1) (ab zSl (cellsL true (comp v8 0)) 0)) (
 chk (ab wq [comp v8 1] 0) (
 tv (pbin (.int .i64) .neq (comp v8 1) (I 0)) fun v9 =>
 Prg.ite (asBool v9) (
 ret (B false)) (
 call 12 [agg [frz (cell (comp v8 0) 0)],agg [frz (cell (comp v4 0) 0)]] fun v10 =>
 chk (ab am [v10] 0) (
 tv (pun .not v10) fun v11 =>
 Prg.ite (asBool v11) (
 ret (B false)) (
 call 13 [agg [frz (cell (comp v4 0) 0)]] fun v12 =>
 chk (ab am [v12] 0) (
 tv (pun .not v12) fun v13 =>
 Prg.ite (asBool v13) (
 ret (B false)) (
 call 18 [agg [cell x0 0]] fun v14 =>
 chk (ab zSl [v14] 0) (
 call 18 [agg [frz (cell (comp v4 0) 0)]] fun v15 =>
 chk (ab zSl [v15] 0) (
 call 17 [frz v14,frz v15] fun v16 =>
 chk (ab am [v16] 0) (
 tv (pun .not v16) fun v17 =>
 Prg.ite (asBool v17) (
 ret (B false)) (
 call 18 [agg [frz (cell (comp v4 0) 0)]] fun v18 =>
 chk (ab zSl [v18] 0) (
 jmp [0,0,1,0,1,1,1,1,1,1,1,1] (f4_0_S x1 x2 (I 0) (cell x0 0) v18 (cell (comp v4 0) 0) hole)))))))))))))))))))))))
def f4_0  (x0 x1 x2 y3 w4 w5 w6:TV):Prg TV :=
 tv (plen (.slice 40) w5) fun v19 =>
 tv (pbin (.int .i64) .lss x2 v19) fun v20 =>
 Prg.ite (asBool v20) (
 jmp [0,0,1,0,0,1,0,0,1,0,1,1,1,1,1,1,1,1] (f4_1_S x0 x1 x2 (I 0) y3 w4 w5 w6)) (
 jmp [1,1,1,1,1,1,1,1,1] (f4_2_S x0 x1 y3 w5 w6))
def f4_1  (x0 x1 x2 x3 y4 w5 w6 w7:TV):Prg TV :=
 nat (slLen w6) fun n21 =>
 nat (aJ x2) fun n22 =>
 chk (Bool.and (slSize w6 3) (Nat.blt n22 n21)) (
 tvs (pel w6 n22) fun e23 =>
 chk (ab zSl e23 2) (
 tv (a8 [(n22,2)] w6) fun v24 =>
 tv (plen (.slice 48) v24) fun v25 =>
 tv (pbin (.int .i64) .lss x3 v25) fun v26 =>
 Prg.ite (asBool v26) (
 nat (slLen w6) fun n27 =>
 nat (aJ x2) fun n28 =>
 chk (Bool.and (slSize w6 3) (Nat.blt n28 n27)) (
 tvs (pel w6 n28) fun e29 =>
 chk (ab zSl e29 2) (
 tv (a8 [(n28,2)] w6) fun v30 =>
 nat (slLen v30) fun n31 =>
 nat (aJ x3) fun n32 =>
 chk (Bool.and (slSize v30 14) (Nat.blt n32 n31)) (
 tv (a8 [(n28,2)] w6) fun v33 =>
 tvs (pel v33 n32) fun e34 =>
 chk (ab dK e34 0) (
 tv (pbin (.int .i64) .eql (nth hole e34 6) (I 4)) fun v35 =>
 Prg.ite (asBool v35) (
 nat (slLen w5) fun n36 =>
 nat (aJ (nth hole e34 9)) fun n37 =>
 chk (Bool.and (slSize w5 1) (Nat.blt n37 n36)) (
 tvs (pel w5 n37) fun e38 =>
 chk (ab am e38 0) (
 tv (pun .not (nth hole e38 0)) fun v39 =>
 Prg.ite (asBool v39) (
 tv (a8 [(n28,2),(n32,5)] w6) fun v40 =>
 tv (plen (.slice 55) v40) fun v41 =>
 tv (pbin (.int .i64) .lss v41 (I 64)) fun v42 =>
 Prg.ite (asBool v42) (
 ret (B false)) (
 tv (pbin (.int .i64) .add x3 (I 1)) fun v43 =>
 jmp [0,0,1,0,0,1,0,0,1,0,1,1,1,1,1,1,1,1] (f4_1_S x0 x1 x2 v43 y4 w5 w6 w7))) (
 tv (pbin (.int .i64) .add x3 (I 1)) fun v44 =>
 jmp [0,0,1,0,0,1,0,0,1,0,1,1,1,1,1,1,1,1] (f4_1_S x0 x1 x2 v44 y4 w5 w6 w7))))) (
 tv (pbin (.int .i64) .add x3 (I 1)) fun v45 =>
 jmp [0,0,1,0,0,1,0,0,1,0,1,1,1,1,1,1,1,1] (f4_1_S x0 x1 x2 v45 y4 w5 w6 w7))))))) (
 tv (pbin (.int .i64) .add x2 (I 1)) fun v46 =>
 jmp [0,0,1,0,1,1,1,1,1,1,1,1] (f4_0_S x0 x1 v46 y4 w5 w6 w7))))
def f4_2  (x0 x1 y2 w3 w4:TV):Prg TV :=
 tv (pconv (.int .i64) x1) fun v47 =>
 call 19 [agg [y2],agg [frz w3],x0,v47,I 2] fun v48 =>
 chk (ab am [v48] 0) (
 ret v48)
theorem f4_MR (x0 x1 x2:TV):ap prog 4 [x0,x1,x2]=f4_M x0 x1 x2:=by kernel_rfl
theorem f4_0_J  {x0 x1 x2 y3 w4 w5 w6:TV} {r:TV} (h:aa prog 4 (f4_0 x0 x1 x2 y3 w4 w5 w6) r):aa prog 4 (.jmp [0,0,1,0,1,1,1,1,1,1,1,1] (f4_0_S x0 x1 x2 y3 w4 w5 w6)) r:=aa.jmp (by kernel_rfl) h
theorem f4_1_J  {x0 x1 x2 x3 y4 w5 w6 w7:TV} {r:TV} (h:aa prog 4 (f4_1 x0 x1 x2 x3 y4 w5 w6 w7) r):aa prog 4 (.jmp [0,0,1,0,0,1,0,0,1,0,1,1,1,1,1,1,1,1] (f4_1_S x0 x1 x2 x3 y4 w5 w6 w7)) r:=aa.jmp (by kernel_rfl) h
theorem f4_2_J  {x0 x1 y2 w3 w4:TV} {r:TV} (h:aa prog 4 (f4_2 x0 x1 y2 w3 w4) r):aa prog 4 (.jmp [1,1,1,1,1,1,1,1,1] (f4_2_S x0 x1 y2 w3 w4)) r:=aa.jmp (by kernel_rfl) h
def f7_0_S  (x0 x1 y2:TV):ASt:=⟨[Jk,Pt 0,Jk,AV.tv x0,AV.tv x1]++Rj 82,[Ct y2]++Rz 110,[]⟩
def f7_1_S  (x0 x1 x2 y3:TV):ASt:=⟨[Jk,Pt 0,Jk,AV.tv x0,AV.tv x1,AV.tv x2]++Rj 81,[Ct y3]++Rz 110,[]⟩
def f7_2_S  (x0 x1 x2 x3 y4 y5 y6 y7 y8 y9 y10 y11 y12 y13 y14 y15 y16 y17 y18:TV):ASt:=⟨[Jk,Pt 0,Jk,AV.tv x0,AV.tv x1,AV.tv x2,Pt 1,AV.tv x3]++Rj 79,[Ct y4,some (BC.cells [CA.t y5,CA.t y6,CA.t y7,CA.t y8,CA.t y9,CA.t y10,CA.t y11,CA.t y12,CA.t y13,CA.t y14,CA.t y15,CA.t y16,CA.t y17,CA.t y18])]++Rz 109,[]⟩
def f7_M (x0:TV):Prg TV :=
 chk (TV.isAgg x0 1) (
 tv (plen (.slice 40) (cell x0 0)) fun v0 =>
 tv (pbin (.int .i64) .gtr v0 (I 20)) fun v1 =>
 Prg.ite (asBool v1) (
 ret (B false)) (
 jmp [0,0,1,0,1,1,1] (f7_0_S (I 0) (I 0) (cell x0 0))))
def f7_0  (x0 x1 y2:TV):Prg TV :=
 tv (plen (.slice 40) y2) fun v2 =>
 tv (pbin (.int .i64) .lss x1 v2) fun v3 =>
 Prg.ite (asBool v3) (
 tvs (pidx 3 y2 x1) fun e4 =>
 chk (Nat.blt 2 (List.length e4)) (
 tv (plen (.slice 48) (nth hole e4 2)) fun v5 =>
 tv (pbin (.int .i64) .gtr v5 (I 70)) fun v6 =>
 Prg.ite (asBool v6) (
 ret (B false)) (
 jmp [0,0,1,1,0,0,1,0,0,1,0,1,1,1] (f7_1_S x0 x1 (I 0) y2)))) (
 tv (pbin (.int .i64) .leq x0 (I 2000)) fun v7 =>
 ret v7)
def f7_1  (x0 x1 x2 y3:TV):Prg TV :=
 tvs (pidx 3 y3 x1) fun e8 =>
 chk (Nat.blt 2 (List.length e8)) (
 tv (plen (.slice 48) (nth hole e8 2)) fun v9 =>
 tv (pbin (.int .i64) .lss x2 v9) fun v10 =>
 Prg.ite (asBool v10) (
 tvs (pidx 3 y3 x1) fun e11 =>
 chk (Nat.blt 2 (List.length e11)) (
 tvs (pidx 14 (nth hole e11 2) x2) fun e12 =>
 chk (Nat.ble 14 (List.length e12)) (
 tv (plen (.slice 55) (nth hole e12 5)) fun v13 =>
 tv (pbin (.int .i64) .gtr v13 (I 70)) fun v14 =>
 Prg.ite (asBool v14) (
 ret (B false)) (
 tv (plen (.slice 53) (nth hole e12 2)) fun v15 =>
 tv (pbin (.int .i64) .gtr v15 (I 20)) fun v16 =>
 Prg.ite (asBool v16) (
 ret (B false)) (
 tv (plen (.slice 3) (nth hole e12 10)) fun v17 =>
 tv (pbin (.int .i64) .gtr v17 (I 20)) fun v18 =>
 Prg.ite (asBool v18) (
 ret (B false)) (
 tv (plen (.slice 55) (nth hole e12 5)) fun v19 =>
 tv (pbin (.int .i64) .add x0 v19) fun v20 =>
 jmp [0,0,1,1,1,1,0,0,1,0,0,1,1,0,0,1,0,0,1,0,1,1,1] (f7_2_S v20 x1 x2 (I 0) y3 (nth hole e12 0) (nth hole e12 1) (nth hole e12 2) (nth hole e12 3) (nth hole e12 4) (nth hole e12 5) (nth hole e12 6) (nth hole e12 7) (nth hole e12 8) (nth hole e12 9) (nth hole e12 10) (nth hole e12 11) (nth hole e12 12) (nth hole e12 13)))))))) (
 tv (pbin (.int .i64) .add x1 (I 1)) fun v21 =>
 jmp [0,0,1,0,1,1,1] (f7_0_S x0 v21 y3)))
def f7_2  (x0 x1 x2 x3 y4 y5 y6 y7 y8 y9 y10 y11 y12 y13 y14 y15 y16 y17 y18:TV):Prg TV :=
 tv (plen (.slice 55) y10) fun v22 =>
 tv (pbin (.int .i64) .lss x3 v22) fun v23 =>
 Prg.ite (asBool v23) (
 tvs (pidx 7 y10 x3) fun e24 =>
 chk (Nat.blt 6 (List.length e24)) (
 tv (plen (.slice 3) (nth hole e24 6)) fun v25 =>
 tv (pbin (.int .i64) .gtr v25 (I 20)) fun v26 =>
 Prg.ite (asBool v26) (
 ret (B false)) (
 tv (pbin (.int .i64) .add x3 (I 1)) fun v27 =>
 jmp [0,0,1,1,1,1,0,0,1,0,0,1,1,0,0,1,0,0,1,0,1,1,1] (f7_2_S x0 x1 x2 v27 y4 y5 y6 y7 y8 y9 y10 y11 y12 y13 y14 y15 y16 y17 y18)))) (
 tv (pbin (.int .i64) .add x2 (I 1)) fun v28 =>
 jmp [0,0,1,1,0,0,1,0,0,1,0,1,1,1] (f7_1_S x0 x1 v28 y4))
theorem f7_MR (x0:TV):ap prog 7 [x0]=f7_M x0:=by kernel_rfl
theorem f7_0_J  {x0 x1 y2:TV} {r:TV} (h:aa prog 7 (f7_0 x0 x1 y2) r):aa prog 7 (.jmp [0,0,1,0,1,1,1] (f7_0_S x0 x1 y2)) r:=aa.jmp (by kernel_rfl) h
theorem f7_1_J  {x0 x1 x2 y3:TV} {r:TV} (h:aa prog 7 (f7_1 x0 x1 x2 y3) r):aa prog 7 (.jmp [0,0,1,1,0,0,1,0,0,1,0,1,1,1] (f7_1_S x0 x1 x2 y3)) r:=aa.jmp (by kernel_rfl) h
theorem f7_2_J  {x0 x1 x2 x3 y4 y5 y6 y7 y8 y9 y10 y11 y12 y13 y14 y15 y16 y17 y18:TV} {r:TV} (h:aa prog 7 (f7_2 x0 x1 x2 x3 y4 y5 y6 y7 y8 y9 y10 y11 y12 y13 y14 y15 y16 y17 y18) r):aa prog 7 (.jmp [0,0,1,1,1,1,0,0,1,0,0,1,1,0,0,1,0,0,1,0,1,1,1] (f7_2_S x0 x1 x2 x3 y4 y5 y6 y7 y8 y9 y10 y11 y12 y13 y14 y15 y16 y17 y18)) r:=aa.jmp (by kernel_rfl) h
def f8_0_S  (x0 x1 w2:TV):ASt:=⟨[Jk,Jk,Pt 0,Sr 1]++Rj 8 ++ [AV.tv x0,AV.tv x1]++Rj 29,[some (BC.cells [CA.junk]),Tr w2]++Rz 65,[]⟩
def f8_1_S  (x0 x1 x2 x3 x4 w5 w6:TV):ASt:=⟨[Jk,Jk,Pt 0,Sr 1,AV.tv x0,Sr 2]++Rj 6 ++ [AV.tv x1,AV.tv x2]++Rj 8 ++ [Sr 2,AV.tv x3,AV.tv x4]++Rj 18,[some (BC.cells [CA.junk]),Tr w5,Tr w6]++Rz 64,[]⟩
def f8_2_S  (x0 x1 x2 w3 w4:TV):ASt:=⟨[Jk,Jk,Pt 0,Sr 1,AV.tv x0,Sr 2]++Rj 6 ++ [AV.tv x1,AV.tv x2]++Rj 29,[some (BC.cells [CA.junk]),Tr w3,Tr w4]++Rz 64,[]⟩
def f8_M (x0:TV):Prg TV :=
 chk (TV.isAgg x0 1) (
 call 22 [cell x0 0] fun v0 =>
 chk (ab zSl [v0] 0) (
 tv (plen (.slice 40) v0) fun v1 =>
 jmp [0,0,1,0,1,1] (f8_0_S v1 (I 0) v0)))
def f8_0  (x0 x1 w2:TV):Prg TV :=
 tv (pbin (.int .i64) .lss x1 x0) fun v2 =>
 Prg.ite (asBool v2) (
 nat (slLen w2) fun n3 =>
 nat (aJ x1) fun n4 =>
 chk (Bool.and (slSize w2 3) (Nat.blt n4 n3)) (
 tvs (pel w2 n4) fun e5 =>
 chk (ab zSl e5 2) (
 tv (a8 [(n4,2)] w2) fun v6 =>
 chk (TV.jb v6) (
 call 23 [v6] fun v7 =>
 chk (ab zSl [v7] 0) (
 tv (plen (.slice 48) v7) fun v8 =>
 jmp [0,0,1,0,1,1,0,0,1,1,0,0,1,0,1,1] (f8_1_S x1 x0 x1 v8 (I 0) w2 v7)))))) (
 chk (isOwn (agg [w2])) (
 ret (agg [w2])))
def f8_1  (x0 x1 x2 x3 x4 w5 w6:TV):Prg TV :=
 tv (pbin (.int .i64) .lss x4 x3) fun v9 =>
 Prg.ite (asBool v9) (
 nat (slLen w6) fun n10 =>
 nat (aJ x4) fun n11 =>
 chk (Bool.and (slSize w6 14) (Nat.blt n11 n10)) (
 tvs (pel w6 n11) fun e12 =>
 chk (ab dK e12 0) (
 tv (a8 [(n11,2)] w6) fun v13 =>
 tv (a8 [(n11,5)] w6) fun v14 =>
 tv (a8 [(n11,10)] w6) fun v15 =>
 call 24 [agg [nth hole e12 0,nth hole e12 1,frz v13,nth hole e12 3,nth hole e12 4,frz v14,nth hole e12 6,nth hole e12 7,nth hole e12 8,nth hole e12 9,frz v15,nth hole e12 11,nth hole e12 12,nth hole e12 13]] fun v16 =>
 chk (Bool.and (TV.isAgg v16 14) (ab dK (cellsL true v16) 0)) (
 nat (slLen w6) fun n17 =>
 nat (aJ x4) fun n18 =>
 chk (Bool.and (slSize w6 14) (Nat.blt n18 n17)) (
 tvs (pel w6 n18) fun e19 =>
 chk (Bool.and (cL dK e19 0) (ab dK [cell v16 0,cell v16 1,cell v16 2,cell v16 3,cell v16 4,cell v16 5,cell v16 6,cell v16 7,cell v16 8,cell v16 9,cell v16 10,cell v16 11,cell v16 12,cell v16 13] 0)) (
 tv (ja [] w6 n18 0 [cell v16 0,cell v16 1,cell v16 2,cell v16 3,cell v16 4,cell v16 5,cell v16 6,cell v16 7,cell v16 8,cell v16 9,cell v16 10,cell v16 11,cell v16 12,cell v16 13]) fun v20 =>
 tv (pbin (.int .i64) .add x4 (I 1)) fun v21 =>
 jmp [0,0,1,0,1,1,0,0,1,1,0,0,1,0,1,1] (f8_1_S x0 x1 x2 x3 v21 w5 v20))))))) (
 jmp [1,1,1,0,0,1,1,0,0,1,0,1,1] (f8_2_S x0 x1 x2 w5 w6))
def f8_2  (x0 x1 x2 w3 w4:TV):Prg TV :=
 nat (slLen w3) fun n22 =>
 nat (aJ x0) fun n23 =>
 chk (Bool.and (slSize w3 3) (Nat.blt n23 n22)) (
 tvs (pel w3 n23) fun e24 =>
 chk (Bool.and (cL zSl e24 2) (ab zSl [w4] 0)) (
 tv (ja [] w3 n23 2 [w4]) fun v25 =>
 tv (pbin (.int .i64) .add x2 (I 1)) fun v26 =>
 jmp [0,0,1,0,1,1] (f8_0_S x1 v26 v25)))
theorem f8_MR (x0:TV):ap prog 8 [x0]=f8_M x0:=by kernel_rfl
theorem f8_0_J  {x0 x1 w2:TV} {r:TV} (h:aa prog 8 (f8_0 x0 x1 w2) r):aa prog 8 (.jmp [0,0,1,0,1,1] (f8_0_S x0 x1 w2)) r:=aa.jmp (by kernel_rfl) h
theorem f8_1_J  {x0 x1 x2 x3 x4 w5 w6:TV} {r:TV} (h:aa prog 8 (f8_1 x0 x1 x2 x3 x4 w5 w6) r):aa prog 8 (.jmp [0,0,1,0,1,1,0,0,1,1,0,0,1,0,1,1] (f8_1_S x0 x1 x2 x3 x4 w5 w6)) r:=aa.jmp (by kernel_rfl) h
theorem f8_2_J  {x0 x1 x2 w3 w4:TV} {r:TV} (h:aa prog 8 (f8_2 x0 x1 x2 w3 w4) r):aa prog 8 (.jmp [1,1,1,0,0,1,1,0,0,1,0,1,1] (f8_2_S x0 x1 x2 w3 w4)) r:=aa.jmp (by kernel_rfl) h
def f9_0_S  (x0 x1 w2 w3:TV):ASt:=⟨[Jk,Pt 0,Pt 1,Jk,Sr 2]++Rj 14 ++ [Sr 3,AV.tv x0,AV.tv x1]++Rj 29,[some (BC.cells [CA.sref 3 0 []]),some (BC.cells [CA.junk]),Tr w2,Tr w3]++Rz 71,[]⟩
def f9_1_S  (x0 x1:TV) (k2:Nat) (x3 x4 w5 y6 y7:TV) (k8:Nat) (w9:TV):ASt:=⟨[Jk,Pt 0,Pt 1,Jk,Sr 2,Jk,Pt 3]++Rj 12 ++ [Sr 4,AV.tv x0,AV.tv x1]++Rj 4 ++ [AV.one (CA.sref 4 0 [(k2,2)]),AV.tv x3,AV.tv x4]++Rj 22,[some (BC.cells [CA.sref 4 0 []]),some (BC.cells [CA.junk]),Tr w5,some (BC.cells [CA.t y6,CA.t y7,CA.sref 4 0 [(k8,2)]]),Tr w9]++Rz 70,[]⟩
def f9_M (x0:TV):Prg TV :=
 chk (TV.isAgg x0 1) (
 call 16 [agg [cell x0 0]] fun v0 =>
 chk (ab am [v0] 0) (
 tv (pun .not v0) fun v1 =>
 Prg.ite (asBool v1) (
 call 8 [agg [cell x0 0]] fun v2 =>
 chk (Bool.and (TV.isAgg v2 1) (ab zSl (cellsL true v2) 0)) (
 chk (bE [agg [cell v2 0],I 1]) (
 ret (tup [agg [cell v2 0],I 1])))) (
 call 18 [agg [cell x0 0]] fun v3 =>
 chk (ab zSl [v3] 0) (
 call 8 [agg [cell x0 0]] fun v4 =>
 chk (Bool.and (TV.isAgg v4 1) (ab zSl (cellsL true v4) 0)) (
 tv (plen (.slice 40) (cell v4 0)) fun v5 =>
 jmp [0,0,1,0,1,1,1,1] (f9_0_S v5 (I 0) v3 (cell v4 0)))))))
def f9_0  (x0 x1 w2 w3:TV):Prg TV :=
 tv (pbin (.int .i64) .lss x1 x0) fun v6 =>
 Prg.ite (asBool v6) (
 nat (slLen w3) fun n7 =>
 nat (aJ x1) fun n8 =>
 chk (Bool.and (slSize w3 3) (Nat.blt n8 n7)) (
 tvs (pel w3 n8) fun e9 =>
 chk (ab FJ e9 0) (
 tv (a8 [(n8,2)] w3) fun v10 =>
 tv (plen (.slice 48) v10) fun v11 =>
 jmp [0,0,1,1,0,0,1,1,0,0,1,0,1,1,1,1] (f9_1_S x0 x1 n8 v11 (I 0) w2 (nth hole e9 0) (nth hole e9 1) n8 w3)))) (
 chk (bE [agg [w3],I 0]) (
 ret (tup [agg [w3],I 0])))
noncomputable def f9_1  (x0 x1:TV) (k2:Nat) (x3 x4 w5 y6 y7:TV) (k8:Nat) (w9:TV):Prg TV :=
 tv (pbin (.int .i64) .lss x4 x3) fun v12 =>
 Prg.ite (asBool v12) (
 tv (a8 [(k2,2)] w9) fun v13 =>
 nat (slLen v13) fun n14 =>
 nat (aJ x4) fun n15 =>
 chk (Bool.and (slSize v13 14) (Nat.blt n15 n14)) (
 tv (a8 [(k2,2)] w9) fun v16 =>
 tvs (pel v16 n15) fun e17 =>
 chk (ab dK e17 0) (
 tv (a8 [(k2,2),(n15,2)] w9) fun v18 =>
 tv (a8 [(k2,2),(n15,5)] w9) fun v19 =>
 tv (a8 [(k2,2),(n15,10)] w9) fun v20 =>
 call 25 [agg [nth hole e17 0,nth hole e17 1,frz v18,nth hole e17 3,nth hole e17 4,frz v19,nth hole e17 6,nth hole e17 7,nth hole e17 8,nth hole e17 9,frz v20,nth hole e17 11,nth hole e17 12,nth hole e17 13],frz w5] fun v21 =>
 chk (ab am [v21] 0) (
 Prg.ite (asBool v21) (
 tv (a8 [(k2,2),(n15,5)] w9) fun v22 =>
 tv (plen (.slice 55) v22) fun v23 =>
 tv (pbin (.int .i64) .lss v23 (I 64)) fun v24 =>
 Prg.ite (asBool v24) (
 tv (a8 [(k2,2),(n15,2)] w9) fun v25 =>
 tv (iA [(k2,2),(n15,2)] w9 hole) fun v26 =>
 tv (a8 [(k2,2),(n15,10)] v26) fun v27 =>
 tv (iA [(k2,2),(n15,10)] v26 hole) fun v28 =>
 rws (pelems 7 (TV.sl true 7 (chunks 7 1 [I 11,nth hole e17 8,I 0,I 0,W 0,nth hole e17 9,v27]))) fun r29 =>
 tv (a8 [(k2,2),(n15,5)] v28) fun v30 =>
 tv (papp 7 v30 r29) fun v31 =>
 tv (iA [(k2,2),(n15,5)] v28 hole) fun v32 =>
 chk (Bool.and (t9 x4 x4) true) (
 chk (Bool.and (Bool.and true (Bool.and true (Bool.and (Nat.beq k8 k8) (Bool.and (Nat.beq 2 2) true)))) true) (
 chk (Bool.and (Bool.and true (Bool.and true (Bool.and (Nat.beq k8 k8) (Bool.and (Nat.beq 2 2) true)))) (Bool.and (t9 x4 x4) true)) (
 chk (Bool.and true true) (
 chk (Bool.and true (Bool.and (t9 x4 x4) true)) (
 chk (Bool.and true (Bool.and (Bool.and true (Bool.and true (Bool.and (Nat.beq k8 k8) (Bool.and (Nat.beq 2 2) true)))) true)) (
 chk (Bool.and true (Bool.and (Bool.and true (Bool.and true (Bool.and (Nat.beq k8 k8) (Bool.and (Nat.beq 2 2) true)))) (Bool.and (t9 x4 x4) true))) (
 tv (a8 [(k8,2)] v32) fun v33 =>
 nat (slLen v33) fun n34 =>
 nat (aJ x4) fun n35 =>
 chk (Bool.and (slSize v33 14) (Nat.blt n35 n34)) (
 tv (a8 [(k8,2)] v32) fun v36 =>
 tvs (pel v36 n35) fun e37 =>
 chk (Bool.and (cL dK e37 0) (ab dK [nth hole e17 0,nth hole e17 1,v25,nth hole e17 3,nth hole e17 4,v31,I 2,I 0,I 0,I 0,TV.lit bc,nth hole e17 11,I 0,I 0] 0)) (
 tv (ja [(k8,2)] v32 n35 0 [nth hole e17 0,nth hole e17 1,v25,nth hole e17 3,nth hole e17 4,v31,I 2,I 0,I 0,I 0,TV.lit bc,nth hole e17 11,I 0,I 0]) fun v38 =>
 tv (pbin (.int .i64) .add x4 (I 1)) fun v39 =>
 jmp [0,0,1,1,0,0,1,1,0,0,1,0,1,1,1,1] (f9_1_S x0 x1 k2 x3 v39 w5 y6 y7 k8 v38))))))))))) (
 tv (pbin (.int .i64) .add x4 (I 1)) fun v40 =>
 jmp [0,0,1,1,0,0,1,1,0,0,1,0,1,1,1,1] (f9_1_S x0 x1 k2 x3 v40 w5 y6 y7 k8 w9))) (
 tv (pbin (.int .i64) .add x4 (I 1)) fun v41 =>
 jmp [0,0,1,1,0,0,1,1,0,0,1,0,1,1,1,1] (f9_1_S x0 x1 k2 x3 v41 w5 y6 y7 k8 w9)))))) (
 tv (pbin (.int .i64) .add x1 (I 1)) fun v42 =>
 jmp [0,0,1,0,1,1,1,1] (f9_0_S x0 v42 w5 w9))
theorem f9_MR (x0:TV):ap prog 9 [x0]=f9_M x0:=by kernel_rfl
theorem f9_0_J  {x0 x1 w2 w3:TV} {r:TV} (h:aa prog 9 (f9_0 x0 x1 w2 w3) r):aa prog 9 (.jmp [0,0,1,0,1,1,1,1] (f9_0_S x0 x1 w2 w3)) r:=aa.jmp (by kernel_rfl) h
theorem f9_1_J  {x0 x1:TV} {k2:Nat} {x3 x4 w5 y6 y7:TV} {k8:Nat} {w9:TV} {r:TV} (h:aa prog 9 (f9_1 x0 x1 k2 x3 x4 w5 y6 y7 k8 w9) r):aa prog 9 (.jmp [0,0,1,1,0,0,1,1,0,0,1,0,1,1,1,1] (f9_1_S x0 x1 k2 x3 x4 w5 y6 y7 k8 w9)) r:=aa.jmp (by kernel_rfl) h
def f12_0_S  (x0 y1 y2:TV):ASt:=⟨[Jk,Jk,Pt 0,Pt 1,Jk,AV.tv x0]++Rj 26,[Ct y1,Ct y2]++Rz 54,[]⟩
def f12_M (x0 x1:TV):Prg TV :=
 chk (TV.isAgg x0 1) (
 chk (TV.isAgg x1 1) (
 tv (plen (.slice 40) (cell x0 0)) fun v0 =>
 tv (plen (.slice 40) (cell x1 0)) fun v1 =>
 tv (pbin (.int .i64) .neq v0 v1) fun v2 =>
 Prg.ite (asBool v2) (
 ret (B false)) (
 jmp [0,0,1,0,1,1] (f12_0_S (I 0) (cell x0 0) (cell x1 0)))))
def f12_0  (x0 y1 y2:TV):Prg TV :=
 tv (plen (.slice 40) y1) fun v3 =>
 tv (pbin (.int .i64) .lss x0 v3) fun v4 =>
 Prg.ite (asBool v4) (
 tvs (pidx 3 y1 x0) fun e5 =>
 chk (Nat.ble 3 (List.length e5)) (
 tvs (pidx 3 y2 x0) fun e6 =>
 chk (Nat.ble 3 (List.length e6)) (
 call 28 [agg [nth hole e5 0,nth hole e5 1,nth hole e5 2],agg [nth hole e6 0,nth hole e6 1,nth hole e6 2]] fun v7 =>
 chk (ab am [v7] 0) (
 tv (pun .not v7) fun v8 =>
 Prg.ite (asBool v8) (
 ret (B false)) (
 tv (pbin (.int .i64) .add x0 (I 1)) fun v9 =>
 jmp [0,0,1,0,1,1] (f12_0_S v9 y1 y2)))))) (
 ret (B true))
theorem f12_MR (x0 x1:TV):ap prog 12 [x0,x1]=f12_M x0 x1:=by kernel_rfl
theorem f12_0_J  {x0 y1 y2:TV} {r:TV} (h:aa prog 12 (f12_0 x0 y1 y2) r):aa prog 12 (.jmp [0,0,1,0,1,1] (f12_0_S x0 y1 y2)) r:=aa.jmp (by kernel_rfl) h
def f13_0_S  (x0 y1:TV):ASt:=⟨[Jk,Pt 0,Jk,AV.tv x0]++Rj 33,[Ct y1]++Rz 60,[]⟩
def f13_M (x0:TV):Prg TV :=
 chk (TV.isAgg x0 1) (
 tv (plen (.slice 40) (cell x0 0)) fun v0 =>
 tv (pbin (.int .i64) .eql v0 (I 0)) fun v1 =>
 Prg.ite (asBool v1) (
 ret (B false)) (
 tv (plen (.slice 40) (cell x0 0)) fun v2 =>
 tv (pbin (.int .i64) .gtr v2 (I 16)) fun v3 =>
 Prg.ite (asBool v3) (
 ret (B false)) (
 tvs (pidx 3 (cell x0 0) (I 0)) fun e4 =>
 chk (Nat.blt 0 (List.length e4)) (
 tv (pbin (.int .i64) .neq (nth hole e4 0) (I 0)) fun v5 =>
 Prg.ite (asBool v5) (
 ret (B false)) (
 jmp [0,0,1,0,1,1] (f13_0_S (I 0) (cell x0 0)))))))
def f13_0  (x0 y1:TV):Prg TV :=
 tv (plen (.slice 40) y1) fun v6 =>
 tv (pbin (.int .i64) .lss x0 v6) fun v7 =>
 Prg.ite (asBool v7) (
 tvs (pidx 3 y1 x0) fun e8 =>
 chk (Nat.ble 3 (List.length e8)) (
 call 29 [agg [y1],agg [nth hole e8 0,nth hole e8 1,nth hole e8 2]] fun v9 =>
 chk (ab am [v9] 0) (
 tv (pun .not v9) fun v10 =>
 Prg.ite (asBool v10) (
 ret (B false)) (
 tv (pbin (.int .i64) .add x0 (I 1)) fun v11 =>
 jmp [0,0,1,0,1,1] (f13_0_S v11 y1))))) (
 ret (B true))
theorem f13_MR (x0:TV):ap prog 13 [x0]=f13_M x0:=by kernel_rfl
theorem f13_0_J  {x0 y1:TV} {r:TV} (h:aa prog 13 (f13_0 x0 y1) r):aa prog 13 (.jmp [0,0,1,0,1,1] (f13_0_S x0 y1)) r:=aa.jmp (by kernel_rfl) h
def f15_M (x0 x1:TV):Prg TV :=
 chk (TV.isAgg x0 1) (
 call 7 [agg [cell x0 0]] fun v0 =>
 chk (ab am [v0] 0) (
 Prg.ite (asBool v0) (
 tv (plen (.slice 53) x1) fun v1 =>
 tv (pbin (.int .i64) .leq v1 (I 30)) fun v2 =>
 ret v2) (
 ret (B false))))
theorem f15_MR (x0 x1:TV):ap prog 15 [x0,x1]=f15_M x0 x1:=by kernel_rfl
def f16_0_S  (x0 x1 x2 y3:TV):ASt:=⟨[Jk,Pt 0]++Rj 22 ++ [AV.tv x0,AV.tv x1,AV.tv x2]++Rj 8,[Ct y3]++Rz 58,[]⟩
def f16_M (x0:TV):Prg TV :=
 chk (TV.isAgg x0 1) (
 tv (plen (.slice 40) (cell x0 0)) fun v0 =>
 tv (pbin (.int .i64) .lss v0 (I 1)) fun v1 =>
 Prg.ite (asBool v1) (
 ret (B false)) (
 tv (plen (.slice 40) (cell x0 0)) fun v2 =>
 tv (pbin (.int .i64) .gtr v2 (I 16)) fun v3 =>
 Prg.ite (asBool v3) (
 ret (B false)) (
 tvs (pidx 3 (cell x0 0) (I 0)) fun e4 =>
 chk (Nat.blt 0 (List.length e4)) (
 tv (pbin (.int .i64) .neq (nth hole e4 0) (I 0)) fun v5 =>
 Prg.ite (asBool v5) (
 ret (B false)) (
 tv (plen (.slice 40) (cell x0 0)) fun v6 =>
 jmp [0,0,1,0,1,1] (f16_0_S (cell x0 0) v6 (I 0) (cell x0 0)))))))
def f16_0  (x0 x1 x2 y3:TV):Prg TV :=
 tv (pbin (.int .i64) .lss x2 x1) fun v7 =>
 Prg.ite (asBool v7) (
 tvs (pidx 3 x0 x2) fun e8 =>
 chk (Nat.ble 3 (List.length e8)) (
 call 32 [agg [y3],agg [nth hole e8 0,nth hole e8 1,nth hole e8 2]] fun v9 =>
 chk (ab am [v9] 0) (
 tv (pun .not v9) fun v10 =>
 Prg.ite (asBool v10) (
 ret (B false)) (
 tv (pbin (.int .i64) .add x2 (I 1)) fun v11 =>
 jmp [0,0,1,0,1,1] (f16_0_S x0 x1 v11 y3))))) (
 ret (B true))
theorem f16_MR (x0:TV):ap prog 16 [x0]=f16_M x0:=by kernel_rfl
theorem f16_0_J  {x0 x1 x2 y3:TV} {r:TV} (h:aa prog 16 (f16_0 x0 x1 x2 y3) r):aa prog 16 (.jmp [0,0,1,0,1,1] (f16_0_S x0 x1 x2 y3)) r:=aa.jmp (by kernel_rfl) h
def f17_0_S  (x0 x1 x2:TV):ASt:=⟨[AV.tv x0,AV.tv x1,Jk,Jk,Jk,AV.tv x2]++Rj 20,Rz 50,[]⟩
def f17_M (x0 x1:TV):Prg TV :=
 tv (plen (.slice 4) x0) fun v0 =>
 tv (plen (.slice 4) x1) fun v1 =>
 tv (pbin (.int .i64) .neq v0 v1) fun v2 =>
 Prg.ite (asBool v2) (
 ret (B false)) (
 jmp [0,0,1,0,1,1] (f17_0_S x0 x1 (I 0)))
def f17_0  (x0 x1 x2:TV):Prg TV :=
 tv (plen (.slice 4) x0) fun v3 =>
 tv (pbin (.int .i64) .lss x2 v3) fun v4 =>
 Prg.ite (asBool v4) (
 tvs (pidx 1 x0 x2) fun e5 =>
 chk (Nat.blt 0 (List.length e5)) (
 tvs (pidx 1 x1 x2) fun e6 =>
 chk (Nat.blt 0 (List.length e6)) (
 tv (pbin Kd.bool .neq (nth hole e5 0) (nth hole e6 0)) fun v7 =>
 Prg.ite (asBool v7) (
 ret (B false)) (
 tv (pbin (.int .i64) .add x2 (I 1)) fun v8 =>
 jmp [0,0,1,0,1,1] (f17_0_S x0 x1 v8))))) (
 ret (B true))
theorem f17_MR (x0 x1:TV):ap prog 17 [x0,x1]=f17_M x0 x1:=by kernel_rfl
theorem f17_0_J  {x0 x1 x2:TV} {r:TV} (h:aa prog 17 (f17_0 x0 x1 x2) r):aa prog 17 (.jmp [0,0,1,0,1,1] (f17_0_S x0 x1 x2)) r:=aa.jmp (by kernel_rfl) h
def f18_0_S  (x0 y1 w2:TV):ASt:=⟨[Jk,Jk,Pt 0,Pt 1,Jk,Pt 2,AV.tv x0]++Rj 34,[Ct y1,some (BC.cells [CA.t (TV.lit (Value.func (Fn.func 34) (Array.mk []) (Array.mk [])))]),some (BC.cells [CA.sref 3 0 []]),Tr w2]++Rz 66,Rj 5⟩
def f18_1_S  (x0 x1 x2 x3 y4 w5:TV):ASt:=⟨[Jk,Jk,Pt 0,Pt 1,Jk,Pt 2,AV.tv x0]++Rj 11 ++ [AV.tv x1,AV.tv x2,AV.tv x3]++Rj 20,[Ct y4,some (BC.cells [CA.t (TV.lit (Value.func (Fn.func 34) (Array.mk []) (Array.mk [])))]),some (BC.cells [CA.sref 3 0 []]),Tr w5]++Rz 66,Rj 5⟩
def f18_2_S  (x0 x1 x2 y3 y4 y5 y6 w7 x8 x9 x10 x11 x12 x13:TV):ASt:=⟨[AV.tv x0,AV.clo 51 [CA.ptr 0 0,CA.ptr 1 0,CA.ptr 2 0]]++Rj 5 ++ [AV.tv x1,AV.tv x2]++Rj 10,[some (BC.cells [CA.t (TV.lit (Value.func (Fn.func 34) (Array.mk []) (Array.mk [])))]),some (BC.cells [CA.t y3,CA.t y4,CA.t y5]),some (BC.cells [CA.sref 4 0 []]),Ct y6,Tr w7]++Rz 93,(Rj 7 ++ [Pt 3,Pt 0,Jk,Pt 2,AV.tv x8,AV.tv x9]++Rj 10 ++ [AV.tv x10,AV.tv x11,AV.tv x12]++Rj 9 ++ [AV.tv x13]++Rj 19)⟩
def f18_3_S  (x0 w1 y2 y3 y4 y5 y6 y7 y8 y9 y10 y11 y12 y13 y14 y15 y16 y17 y18 y19 y20 y21 y22 x23 x24 x25 x26 x27 x28 x29 x30 x31 x32:TV):ASt:=⟨[Jk,Jk,Sr 0,Pt 1,Pt 2,Jk,Jk,AV.tv x0]++Rj 33,[Tr w1,some (BC.cells [CA.t y2,CA.t y3,CA.t y4]),some (BC.cells [CA.t y5,CA.t y6,CA.t y7,CA.t y8,CA.t y9,CA.t y10,CA.t y11,CA.t y12,CA.t y13,CA.t y14,CA.t y15,CA.t y16,CA.t y17,CA.t y18]),Ct y19,some (BC.cells [CA.t (TV.lit (Value.func (Fn.func 34) (Array.mk []) (Array.mk [])))]),some (BC.cells [CA.sref 0 0 []]),some (BC.cells [CA.t y20,CA.t y21,CA.t y22])]++Rz 143,(Rj 7 ++ [Pt 3,Pt 4,Jk,Pt 5,AV.tv x23,AV.tv x24]++Rj 10 ++ [AV.tv x25,AV.tv x26,AV.tv x27]++Rj 9 ++ [AV.tv x28]++Rj 19 ++ [AV.tv x29,AV.clo 51 [CA.ptr 4 0,CA.ptr 6 0,CA.ptr 5 0],Jk,Jk,Jk,AV.tv x30,Jk,AV.tv x31,AV.tv x32]++Rj 21)⟩
def f18_M (x0:TV):Prg TV :=
 chk (TV.isAgg x0 1) (
 chk true (
 call 16 [agg [cell x0 0]] fun v0 =>
 chk (ab am [v0] 0) (
 tv (pun .not v0) fun v1 =>
 Prg.ite (asBool v1) (
 chk true (
 ret (TV.lit bc))) (
 tv (plen (.slice 40) (cell x0 0)) fun v2 =>
 nat (aJ v2) fun n3 =>
 nat (aJ v2) fun n4 =>
 chk (Bool.and (Nat.ble n3 n4) (Nat.ble n4 4294967296)) (
 jmp [0,0,1,0,1,1,1,4,0,1] (f18_0_S (B true) (cell x0 0) (TV.sl true 1 (List.replicate n3 [B false]))))))))
def f18_0  (x0 y1 w2:TV):Prg TV :=
 Prg.ite (asBool x0) (
 tv (plen (.slice 40) y1) fun v5 =>
 jmp [0,0,1,1,0,1,0,0,1,0,1,1,1,4,0,1] (f18_1_S (B false) y1 v5 (I 0) y1 w2)) (
 chk (isOwn w2) (
 ret w2))
def f18_1  (x0 x1 x2 x3 y4 w5:TV):Prg TV :=
 tv (pbin (.int .i64) .lss x3 x2) fun v6 =>
 Prg.ite (asBool v6) (
 tvs (pidx 3 x1 x3) fun e7 =>
 chk (Nat.ble 3 (List.length e7)) (
 nat (slLen w5) fun n8 =>
 nat (aJ x3) fun n9 =>
 chk (Bool.and (slSize w5 1) (Nat.blt n9 n8)) (
 tvs (pel w5 n9) fun e10 =>
 chk (ab am e10 0) (
 tv (pun .not (nth hole e10 0)) fun v11 =>
 Prg.ite (asBool v11) (
 tv (plen (.slice 48) (nth hole e7 2)) fun v12 =>
 jmp [0,0,1,0,1,6,0,1,20,0,1,0,0,1,1,0,0,1,1,0,1,0,0,1,0,1,1,1,4,0,1] (f18_2_S (nth hole e7 2) v12 (I 0) (nth hole e7 0) (nth hole e7 1) (nth hole e7 2) y4 w5 x0 x3 x1 x2 x3 (B true))) (
 tv (pbin (.int .i64) .add x3 (I 1)) fun v13 =>
 jmp [0,0,1,1,0,1,0,0,1,0,1,1,1,4,0,1] (f18_1_S x0 x1 x2 v13 y4 w5)))))) (
 jmp [0,0,1,0,1,1,1,4,0,1] (f18_0_S x0 y4 w5))
def f18_2  (x0 x1 x2 y3 y4 y5 y6 w7 x8 x9 x10 x11 x12 x13:TV):Prg TV :=
 tv (pbin (.int .i64) .lss x2 x1) fun v14 =>
 Prg.ite (asBool v14) (
 tvs (pidx 14 x0 x2) fun e15 =>
 chk (Nat.ble 14 (List.length e15)) (
 tv (pbin (.int .i64) .eql (nth hole e15 6) (I 5)) fun v16 =>
 Prg.ite (asBool v16) (
 jmp [1,1,70010,0,1,104012,0,1,0,0,1,1,0,0,1,0,1,6,0,1,20,0,1,0,0,1,1,0,0,1,1,0,1,0,0,1,0,1,1,1,4,0,1] (f18_3_S (B true) w7 y3 y4 y5 (nth hole e15 0) (nth hole e15 1) (nth hole e15 2) (nth hole e15 3) (nth hole e15 4) (nth hole e15 5) (nth hole e15 6) (nth hole e15 7) (nth hole e15 8) (nth hole e15 9) (nth hole e15 10) (nth hole e15 11) (nth hole e15 12) (nth hole e15 13) y6 y3 y4 y5 x8 x9 x10 x11 x12 x13 x0 x2 x1 x2)) (
 tv (pbin (.int .i64) .eql (nth hole e15 6) (I 6)) fun v17 =>
 jmp [1,1,70010,0,1,104012,0,1,0,0,1,1,0,0,1,0,1,6,0,1,20,0,1,0,0,1,1,0,0,1,1,0,1,0,0,1,0,1,1,1,4,0,1] (f18_3_S v17 w7 y3 y4 y5 (nth hole e15 0) (nth hole e15 1) (nth hole e15 2) (nth hole e15 3) (nth hole e15 4) (nth hole e15 5) (nth hole e15 6) (nth hole e15 7) (nth hole e15 8) (nth hole e15 9) (nth hole e15 10) (nth hole e15 11) (nth hole e15 12) (nth hole e15 13) y6 y3 y4 y5 x8 x9 x10 x11 x12 x13 x0 x2 x1 x2)))) (
 tv (pbin (.int .i64) .geq (TV.lit (Value.int IntKind.i64 (-1))) (I 0)) fun v18 =>
 Prg.ite (asBool x13) (
 Prg.ite (asBool v18) (
 nat (slLen w7) fun n19 =>
 nat (aJ x9) fun n20 =>
 chk (Bool.and (slSize w7 1) (Nat.blt n20 n19)) (
 tvs (pel w7 n20) fun e21 =>
 chk (ab am e21 0) (
 tv (ja [] w7 n20 0 [B true]) fun v22 =>
 tv (pbin (.int .i64) .add x12 (I 1)) fun v23 =>
 jmp [0,0,1,1,0,1,0,0,1,0,1,1,1,4,0,1] (f18_1_S (B true) x10 x11 v23 y6 v22)))) (
 tv (pbin (.int .i64) .add x12 (I 1)) fun v24 =>
 jmp [0,0,1,1,0,1,0,0,1,0,1,1,1,4,0,1] (f18_1_S x8 x10 x11 v24 y6 w7))) (
 tv (pbin (.int .i64) .add x12 (I 1)) fun v25 =>
 jmp [0,0,1,1,0,1,0,0,1,0,1,1,1,4,0,1] (f18_1_S x8 x10 x11 v25 y6 w7)))
def f18_3  (x0 w1 y2 y3 y4 y5 y6 y7 y8 y9 y10 y11 y12 y13 y14 y15 y16 y17 y18 y19 y20 y21 y22 x23 x24 x25 x26 x27 x28 x29 x30 x31 x32:TV):Prg TV :=
 Prg.ite (asBool x0) (
 tv (pbin (.int .i64) .geq x30 (I 0)) fun v26 =>
 Prg.ite (asBool x28) (
 Prg.ite (asBool v26) (
 nat (slLen w1) fun n27 =>
 nat (aJ x24) fun n28 =>
 chk (Bool.and (slSize w1 1) (Nat.blt n28 n27)) (
 tvs (pel w1 n28) fun e29 =>
 chk (ab am e29 0) (
 tv (ja [] w1 n28 0 [B true]) fun v30 =>
 tv (pbin (.int .i64) .add x27 (I 1)) fun v31 =>
 jmp [0,0,1,1,0,1,0,0,1,0,1,1,1,4,0,1] (f18_1_S (B true) x25 x26 v31 y19 v30)))) (
 tv (pbin (.int .i64) .add x27 (I 1)) fun v32 =>
 jmp [0,0,1,1,0,1,0,0,1,0,1,1,1,4,0,1] (f18_1_S x23 x25 x26 v32 y19 w1))) (
 tv (pbin (.int .i64) .add x27 (I 1)) fun v33 =>
 jmp [0,0,1,1,0,1,0,0,1,0,1,1,1,4,0,1] (f18_1_S x23 x25 x26 v33 y19 w1))) (
 call 35 [agg [y5,y6,y7,y8,y9,y10,y11,y12,y13,y14,y15,y16,y17,y18],frz w1] fun v34 =>
 chk (ab am [v34] 0) (
 Prg.ite (asBool v34) (
 tv (pbin (.int .i64) .geq x30 (I 0)) fun v35 =>
 Prg.ite (asBool x28) (
 Prg.ite (asBool v35) (
 nat (slLen w1) fun n36 =>
 nat (aJ x24) fun n37 =>
 chk (Bool.and (slSize w1 1) (Nat.blt n37 n36)) (
 tvs (pel w1 n37) fun e38 =>
 chk (ab am e38 0) (
 tv (ja [] w1 n37 0 [B true]) fun v39 =>
 tv (pbin (.int .i64) .add x27 (I 1)) fun v40 =>
 jmp [0,0,1,1,0,1,0,0,1,0,1,1,1,4,0,1] (f18_1_S (B true) x25 x26 v40 y19 v39)))) (
 tv (pbin (.int .i64) .add x27 (I 1)) fun v41 =>
 jmp [0,0,1,1,0,1,0,0,1,0,1,1,1,4,0,1] (f18_1_S x23 x25 x26 v41 y19 w1))) (
 tv (pbin (.int .i64) .add x27 (I 1)) fun v42 =>
 jmp [0,0,1,1,0,1,0,0,1,0,1,1,1,4,0,1] (f18_1_S x23 x25 x26 v42 y19 w1))) (
 call 36 [agg [y5,y6,y7,y8,y9,y10,y11,y12,y13,y14,y15,y16,y17,y18],frz w1] fun v43 =>
 chk (ab am [v43] 0) (
 Prg.ite (asBool v43) (
 tvs (pidx 14 y4 y18) fun e44 =>
 chk (Nat.blt 3 (List.length e44)) (
 tv (pun .not (nth hole e44 3)) fun v45 =>
 Prg.ite (asBool v45) (
 tv (pbin (.int .i64) .geq x30 (I 0)) fun v46 =>
 Prg.ite (asBool x28) (
 Prg.ite (asBool v46) (
 nat (slLen w1) fun n47 =>
 nat (aJ x24) fun n48 =>
 chk (Bool.and (slSize w1 1) (Nat.blt n48 n47)) (
 tvs (pel w1 n48) fun e49 =>
 chk (ab am e49 0) (
 tv (ja [] w1 n48 0 [B true]) fun v50 =>
 tv (pbin (.int .i64) .add x27 (I 1)) fun v51 =>
 jmp [0,0,1,1,0,1,0,0,1,0,1,1,1,4,0,1] (f18_1_S (B true) x25 x26 v51 y19 v50)))) (
 tv (pbin (.int .i64) .add x27 (I 1)) fun v52 =>
 jmp [0,0,1,1,0,1,0,0,1,0,1,1,1,4,0,1] (f18_1_S x23 x25 x26 v52 y19 w1))) (
 tv (pbin (.int .i64) .add x27 (I 1)) fun v53 =>
 jmp [0,0,1,1,0,1,0,0,1,0,1,1,1,4,0,1] (f18_1_S x23 x25 x26 v53 y19 w1))) (
 tv (pbin (.int .i64) .add x32 (I 1)) fun v54 =>
 jmp [0,0,1,0,1,6,0,1,20,0,1,0,0,1,1,0,0,1,1,0,1,0,0,1,0,1,1,1,4,0,1] (f18_2_S x29 x31 v54 y20 y21 y22 y19 w1 x23 x24 x25 x26 x27 x28)))) (
 tv (pbin (.int .i64) .add x32 (I 1)) fun v55 =>
 jmp [0,0,1,0,1,6,0,1,20,0,1,0,0,1,1,0,0,1,1,0,1,0,0,1,0,1,1,1,4,0,1] (f18_2_S x29 x31 v55 y20 y21 y22 y19 w1 x23 x24 x25 x26 x27 x28))))))
theorem f18_MR (x0:TV):ap prog 18 [x0]=f18_M x0:=by kernel_rfl
theorem f18_0_J  {x0 y1 w2:TV} {r:TV} (h:aa prog 18 (f18_0 x0 y1 w2) r):aa prog 18 (.jmp [0,0,1,0,1,1,1,4,0,1] (f18_0_S x0 y1 w2)) r:=aa.jmp (by kernel_rfl) h
theorem f18_1_J  {x0 x1 x2 x3 y4 w5:TV} {r:TV} (h:aa prog 18 (f18_1 x0 x1 x2 x3 y4 w5) r):aa prog 18 (.jmp [0,0,1,1,0,1,0,0,1,0,1,1,1,4,0,1] (f18_1_S x0 x1 x2 x3 y4 w5)) r:=aa.jmp (by kernel_rfl) h
theorem f18_2_J  {x0 x1 x2 y3 y4 y5 y6 w7 x8 x9 x10 x11 x12 x13:TV} {r:TV} (h:aa prog 18 (f18_2 x0 x1 x2 y3 y4 y5 y6 w7 x8 x9 x10 x11 x12 x13) r):aa prog 18 (.jmp [0,0,1,0,1,6,0,1,20,0,1,0,0,1,1,0,0,1,1,0,1,0,0,1,0,1,1,1,4,0,1] (f18_2_S x0 x1 x2 y3 y4 y5 y6 w7 x8 x9 x10 x11 x12 x13)) r:=aa.jmp (by kernel_rfl) h
theorem f18_3_J  {x0 w1 y2 y3 y4 y5 y6 y7 y8 y9 y10 y11 y12 y13 y14 y15 y16 y17 y18 y19 y20 y21 y22 x23 x24 x25 x26 x27 x28 x29 x30 x31 x32:TV} {r:TV} (h:aa prog 18 (f18_3 x0 w1 y2 y3 y4 y5 y6 y7 y8 y9 y10 y11 y12 y13 y14 y15 y16 y17 y18 y19 y20 y21 y22 x23 x24 x25 x26 x27 x28 x29 x30 x31 x32) r):aa prog 18 (.jmp [1,1,70010,0,1,104012,0,1,0,0,1,1,0,0,1,0,1,6,0,1,20,0,1,0,0,1,1,0,0,1,1,0,1,0,0,1,0,1,1,1,4,0,1] (f18_3_S x0 w1 y2 y3 y4 y5 y6 y7 y8 y9 y10 y11 y12 y13 y14 y15 y16 y17 y18 y19 y20 y21 y22 x23 x24 x25 x26 x27 x28 x29 x30 x31 x32)) r:=aa.jmp (by kernel_rfl) h
end Go.Ab.C14

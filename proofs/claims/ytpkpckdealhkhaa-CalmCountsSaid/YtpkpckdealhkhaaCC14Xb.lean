import Derived.Test.YtpkpckdealhkhaaCC14T
set_option linter.all false
section
set_option maxRecDepth 100000
namespace Go.Ab.C14
open Go Go.Ab Go.Proofs
open Go.Ab.TV (hole cell comp isSl isSc isTup cellsL tup agg)
open Go.Ab.Prg (tv tvs rws nat chk call jmp ret)
def f5_0_S  (x0 x1 y2 w3 w4:TV):ASt:=⟨[Jk,Pt 0,Jk,Pt 1,Jk,AV.tv x0,AV.tv x1] ++ Rj 122,[Ct y2,some (BC.cells [CA.sref 2 0 []]),some (BC.tree [w3,w4])] ++ Rz 150,[]⟩
def f5_1_S  (x0 x1 x2 y3 w4 w5:TV):ASt:=⟨[Jk,Pt 0,Jk,Pt 1,Jk,AV.tv x0,AV.tv x1,AV.tv x2] ++ Rj 121,[Ct y3,some (BC.cells [CA.sref 2 0 []]),some (BC.tree [w4,w5])] ++ Rz 150,[]⟩
def f5_2_S  (x0 y1 w2 w3:TV):ASt:=⟨[Jk,Pt 0,Jk,Pt 1,Jk,AV.tv x0] ++ Rj 123,[Ct y1,some (BC.cells [CA.sref 2 0 []]),some (BC.tree [w2,w3])] ++ Rz 150,[]⟩
def f5_3_S  (x0 x1 x2 x3 y4 y5 y6 y7 y8 y9 y10 y11 y12 y13 y14 y15 y16 y17 y18 y19 y20:TV) (k21 k22:Nat) (y23 y24:TV) (k25 k26:Nat) (y27 y28 y29 y30:TV) (k31 k32:Nat) (y33 y34 y35 w36 w37:TV):ASt:=⟨[Jk,Pt 0,Jk,Pt 1,Jk,AV.tv x0,AV.tv x1,AV.tv x2,Pt 2,Pt 3,AV.tv x3] ++ Rj 118,[Ct y4,some (BC.cells [CA.sref 4 0 []]),some (BC.cells [CA.t y5,CA.t y6,CA.t y7,CA.t y8,CA.t y9,CA.t y10,CA.t y11,CA.t y12,CA.t y13,CA.t y14,CA.t y15,CA.t y16,CA.t y17,CA.t y18]),some (BC.cells [CA.t y19,CA.t y20,CA.sref 4 0 [(k21,2),(k22,2)],CA.t y23,CA.t y24,CA.sref 4 0 [(k25,2),(k26,5)],CA.t y27,CA.t y28,CA.t y29,CA.t y30,CA.sref 4 0 [(k31,2),(k32,10)],CA.t y33,CA.t y34,CA.t y35]),some (BC.tree [w36,w37])] ++ Rz 148,[]⟩
def f5_M (x0:TV):Prg TV :=
 chk (TV.isAgg x0 1) (
 call 6 [] fun v0 =>
 chk (ac aD [v0] 0) (
 tv (pun .not v0) fun v1 =>
 Prg.ite (asBool v1) (
 ret (B false)) (
 call 7 [agg [cell x0 0]] fun v2 =>
 chk (ac aD [v2] 0) (
 tv (pun .not v2) fun v3 =>
 Prg.ite (asBool v3) (
 ret (B true)) (
 call 9 [agg [cell x0 0]] fun v4 =>
 chk (isTup v4 2) (
 chk (Bool.and (TV.isAgg (comp v4 0) 1) (ac zSl (cellsL true (comp v4 0)) 0)) (
 chk (ac yb [comp v4 1] 0) (
 tv (pbin (.int .i64) .neq (comp v4 1) (I 0)) fun v5 =>
 Prg.ite (asBool v5) (
 call 12 [agg [frz (cell (comp v4 0) 0)],agg [cell x0 0]] fun v6 =>
 chk (ac aD [v6] 0) (
 ret v6)) (
 jmp [0,0,1,0,1,1,1,1,1,1] (f5_0_S (I 0) (I 0) (cell x0 0) (cell (comp v4 0) 0) hole))))))))))
def f5_0  (x0 x1 y2 w3 w4:TV):Prg TV :=
 tv (plen (.slice 40) y2) fun v7 =>
 tv (pbin (.int .i64) .lss x1 v7) fun v8 =>
 Prg.ite (asBool v8) (
 jmp [0,0,1,0,0,1,0,0,1,0,1,1,1,1,1,1] (f5_1_S x0 x1 (I 0) y2 w3 w4)) (
 jmp [1,1,1,1,1,1,1] (f5_2_S x0 y2 w3 w4))
def f5_1  (x0 x1 x2 y3 w4 w5:TV):Prg TV :=
 tvs (pidx 3 y3 x1) fun e9 =>
 chk (Nat.blt 2 (List.length e9)) (
 tv (plen (.slice 48) (nth hole e9 2)) fun v10 =>
 tv (pbin (.int .i64) .lss x2 v10) fun v11 =>
 Prg.ite (asBool v11) (
 tvs (pidx 3 y3 x1) fun e12 =>
 chk (Nat.blt 2 (List.length e12)) (
 tvs (pidx 14 (nth hole e12 2) x2) fun e13 =>
 chk (Nat.ble 14 (List.length e13)) (
 nat (slLen w4) fun n14 =>
 nat (aK x1) fun n15 =>
 chk (Bool.and (slSize w4 3) (Nat.blt n15 n14)) (
 tvs (pel w4 n15) fun e16 =>
 chk (ac zSl e16 2) (
 tv (aI [(n15,2)] w4) fun v17 =>
 nat (slLen v17) fun n18 =>
 nat (aK x2) fun n19 =>
 chk (Bool.and (slSize v17 14) (Nat.blt n19 n18)) (
 tv (aI [(n15,2)] w4) fun v20 =>
 tvs (pel v20 n19) fun e21 =>
 chk (ac dA e21 0) (
 tv (aI [(n15,2),(n19,5)] w4) fun v22 =>
 tv (plen (.slice 55) v22) fun v23 =>
 tv (plen (.slice 55) (nth hole e13 5)) fun v24 =>
 tv (pbin (.int .i64) .sub v23 v24) fun v25 =>
 tv (pbin (.int .i64) .add x0 v25) fun v26 =>
 tv (aI [(n15,2),(n19,5)] w4) fun v27 =>
 tv (plen (.slice 55) v27) fun v28 =>
 tv (plen (.slice 55) (nth hole e13 5)) fun v29 =>
 tv (pbin (.int .i64) .lss v28 v29) fun v30 =>
 Prg.ite (asBool v30) (
 ret (B false)) (
 tv (aI [(n15,2),(n19,5)] w4) fun v31 =>
 tv (plen (.slice 55) v31) fun v32 =>
 tv (plen (.slice 55) (nth hole e13 5)) fun v33 =>
 tv (pbin (.int .i64) .add v33 (I 1)) fun v34 =>
 tv (pbin (.int .i64) .gtr v32 v34) fun v35 =>
 Prg.ite (asBool v35) (
 ret (B false)) (
 tv (aI [(n15,2),(n19,5)] w4) fun v36 =>
 tv (plen (.slice 55) v36) fun v37 =>
 tv (plen (.slice 55) (nth hole e13 5)) fun v38 =>
 tv (pbin (.int .i64) .eql v37 v38) fun v39 =>
 tv (aI [(n15,2),(n19,10)] w4) fun v40 =>
 call 20 [agg [nth hole e13 6,nth hole e13 7,nth hole e13 8,nth hole e13 9,nth hole e13 10,nth hole e13 11,nth hole e13 12,nth hole e13 13],agg [nth hole e21 6,nth hole e21 7,nth hole e21 8,nth hole e21 9,frz v40,nth hole e21 11,nth hole e21 12,nth hole e21 13]] fun v41 =>
 chk (ac aD [v41] 0) (
 tv (pbin Kd.bool .neq v39 v41) fun v42 =>
 Prg.ite (asBool v42) (
 ret (B false)) (
 jmp [0,0,1,1,1,1,0,0,1,0,0,1,0,0,1,0,0,1,0,1,1,1,1,1,1] (f5_3_S v26 x1 x2 (I 0) y3 (nth hole e13 0) (nth hole e13 1) (nth hole e13 2) (nth hole e13 3) (nth hole e13 4) (nth hole e13 5) (nth hole e13 6) (nth hole e13 7) (nth hole e13 8) (nth hole e13 9) (nth hole e13 10) (nth hole e13 11) (nth hole e13 12) (nth hole e13 13) (nth hole e21 0) (nth hole e21 1) n15 n19 (nth hole e21 3) (nth hole e21 4) n15 n19 (nth hole e21 6) (nth hole e21 7) (nth hole e21 8) (nth hole e21 9) n15 n19 (nth hole e21 11) (nth hole e21 12) (nth hole e21 13) w4 w5)))))))))))) (
 tv (pbin (.int .i64) .add x1 (I 1)) fun v43 =>
 jmp [0,0,1,0,1,1,1,1,1,1] (f5_0_S x0 v43 y3 w4 w5)))
def f5_2  (x0 y1 w2 w3:TV):Prg TV :=
 call 10 [agg [frz w2]] fun v44 =>
 chk (ac yb [v44] 0) (
 tv (pbin (.int .i64) .add v44 x0) fun v45 =>
 call 10 [agg [y1]] fun v46 =>
 chk (ac yb [v46] 0) (
 tv (pbin (.int .i64) .eql v45 v46) fun v47 =>
 ret v47))
def f5_3  (x0 x1 x2 x3 y4 y5 y6 y7 y8 y9 y10 y11 y12 y13 y14 y15 y16 y17 y18 y19 y20:TV) (k21 k22:Nat) (y23 y24:TV) (k25 k26:Nat) (y27 y28 y29 y30:TV) (k31 k32:Nat) (y33 y34 y35 w36 w37:TV):Prg TV :=
 tv (plen (.slice 55) y10) fun v48 =>
 tv (pbin (.int .i64) .lss x3 v48) fun v49 =>
 Prg.ite (asBool v49) (
 tvs (pidx 7 y10 x3) fun e50 =>
 chk (Nat.ble 7 (List.length e50)) (
 tv (aI [(k25,2),(k26,5)] w36) fun v51 =>
 nat (slLen v51) fun n52 =>
 nat (aK x3) fun n53 =>
 chk (Bool.and (slSize v51 7) (Nat.blt n53 n52)) (
 tv (aI [(k25,2),(k26,5)] w36) fun v54 =>
 tvs (pel v54 n53) fun e55 =>
 chk (ac zIns e55 0) (
 tv (aI [(k25,2),(k26,5),(n53,6)] w36) fun v56 =>
 call 21 [agg [nth hole e50 0,nth hole e50 1,nth hole e50 2,nth hole e50 3,nth hole e50 4,nth hole e50 5,nth hole e50 6],agg [nth hole e55 0,nth hole e55 1,nth hole e55 2,nth hole e55 3,nth hole e55 4,nth hole e55 5,frz v56]] fun v57 =>
 chk (ac aD [v57] 0) (
 tv (pun .not v57) fun v58 =>
 Prg.ite (asBool v58) (
 ret (B false)) (
 tv (pbin (.int .i64) .add x3 (I 1)) fun v59 =>
 jmp [0,0,1,1,1,1,0,0,1,0,0,1,0,0,1,0,0,1,0,1,1,1,1,1,1] (f5_3_S x0 x1 x2 v59 y4 y5 y6 y7 y8 y9 y10 y11 y12 y13 y14 y15 y16 y17 y18 y19 y20 k21 k22 y23 y24 k25 k26 y27 y28 y29 y30 k31 k32 y33 y34 y35 w36 w37))))))) (
 tv (pbin (.int .i64) .add x2 (I 1)) fun v60 =>
 jmp [0,0,1,0,0,1,0,0,1,0,1,1,1,1,1,1] (f5_1_S x0 x1 v60 y4 w36 w37))
theorem f5_MR (x0:TV):aE prog 5 [x0]=f5_M x0:=by kernel_rfl
theorem f5_0_J  {x0 x1 y2 w3 w4:TV} {r:TV} (h:aa prog 5 (f5_0 x0 x1 y2 w3 w4) r):aa prog 5 (.jmp [0,0,1,0,1,1,1,1,1,1] (f5_0_S x0 x1 y2 w3 w4)) r:=aa.jmp (by kernel_rfl) h
theorem f5_1_J  {x0 x1 x2 y3 w4 w5:TV} {r:TV} (h:aa prog 5 (f5_1 x0 x1 x2 y3 w4 w5) r):aa prog 5 (.jmp [0,0,1,0,0,1,0,0,1,0,1,1,1,1,1,1] (f5_1_S x0 x1 x2 y3 w4 w5)) r:=aa.jmp (by kernel_rfl) h
theorem f5_2_J  {x0 y1 w2 w3:TV} {r:TV} (h:aa prog 5 (f5_2 x0 y1 w2 w3) r):aa prog 5 (.jmp [1,1,1,1,1,1,1] (f5_2_S x0 y1 w2 w3)) r:=aa.jmp (by kernel_rfl) h
theorem f5_3_J  {x0 x1 x2 x3 y4 y5 y6 y7 y8 y9 y10 y11 y12 y13 y14 y15 y16 y17 y18 y19 y20:TV} {k21 k22:Nat} {y23 y24:TV} {k25 k26:Nat} {y27 y28 y29 y30:TV} {k31 k32:Nat} {y33 y34 y35 w36 w37:TV} {r:TV} (h:aa prog 5 (f5_3 x0 x1 x2 x3 y4 y5 y6 y7 y8 y9 y10 y11 y12 y13 y14 y15 y16 y17 y18 y19 y20 k21 k22 y23 y24 k25 k26 y27 y28 y29 y30 k31 k32 y33 y34 y35 w36 w37) r):aa prog 5 (.jmp [0,0,1,1,1,1,0,0,1,0,0,1,0,0,1,0,0,1,0,1,1,1,1,1,1] (f5_3_S x0 x1 x2 x3 y4 y5 y6 y7 y8 y9 y10 y11 y12 y13 y14 y15 y16 y17 y18 y19 y20 k21 k22 y23 y24 k25 k26 y27 y28 y29 y30 k31 k32 y33 y34 y35 w36 w37)) r:=aa.jmp (by kernel_rfl) h
def f7_0_S  (x0 x1 y2:TV):ASt:=⟨[Jk,Pt 0,Jk,AV.tv x0,AV.tv x1] ++ Rj 82,[Ct y2] ++ Rz 110,[]⟩
def f7_1_S  (x0 x1 x2 y3:TV):ASt:=⟨[Jk,Pt 0,Jk,AV.tv x0,AV.tv x1,AV.tv x2] ++ Rj 81,[Ct y3] ++ Rz 110,[]⟩
def f7_2_S  (x0 x1 x2 x3 y4 y5 y6 y7 y8 y9 y10 y11 y12 y13 y14 y15 y16 y17 y18:TV):ASt:=⟨[Jk,Pt 0,Jk,AV.tv x0,AV.tv x1,AV.tv x2,Pt 1,AV.tv x3] ++ Rj 79,[Ct y4,some (BC.cells [CA.t y5,CA.t y6,CA.t y7,CA.t y8,CA.t y9,CA.t y10,CA.t y11,CA.t y12,CA.t y13,CA.t y14,CA.t y15,CA.t y16,CA.t y17,CA.t y18])] ++ Rz 109,[]⟩
def f7_M (x0:TV):Prg TV :=
 chk (TV.isAgg x0 1) (
 tv (plen (.slice 40) (cell x0 0)) fun v0 =>
 tv (pbin (.int .i64) .gtr v0 (I 20)) fun v1 =>
 Prg.ite (asBool v1) (
 ret (B false)) (
 jmp [0,0,1,0,1,1,1] (f7_0_S (I 0) (I 0) (cell x0 0))))
def f7_0  (x0 x1 y2:TV):Prg TV :=
 tv (plen (.slice 40) y2) fun v2 =>
 tv (pbin (.int .i64) .lss x1 v2) fun v3 =>
 Prg.ite (asBool v3) (
 tvs (pidx 3 y2 x1) fun e4 =>
 chk (Nat.blt 2 (List.length e4)) (
 tv (plen (.slice 48) (nth hole e4 2)) fun v5 =>
 tv (pbin (.int .i64) .gtr v5 (I 70)) fun v6 =>
 Prg.ite (asBool v6) (
 ret (B false)) (
 jmp [0,0,1,1,0,0,1,0,0,1,0,1,1,1] (f7_1_S x0 x1 (I 0) y2)))) (
 tv (pbin (.int .i64) .leq x0 (I 2000)) fun v7 =>
 ret v7)
def f7_1  (x0 x1 x2 y3:TV):Prg TV :=
 tvs (pidx 3 y3 x1) fun e8 =>
 chk (Nat.blt 2 (List.length e8)) (
 tv (plen (.slice 48) (nth hole e8 2)) fun v9 =>
 tv (pbin (.int .i64) .lss x2 v9) fun v10 =>
 Prg.ite (asBool v10) (
 tvs (pidx 3 y3 x1) fun e11 =>
 chk (Nat.blt 2 (List.length e11)) (
 tvs (pidx 14 (nth hole e11 2) x2) fun e12 =>
 chk (Nat.ble 14 (List.length e12)) (
 tv (plen (.slice 55) (nth hole e12 5)) fun v13 =>
 tv (pbin (.int .i64) .gtr v13 (I 70)) fun v14 =>
 Prg.ite (asBool v14) (
 ret (B false)) (
 tv (plen (.slice 53) (nth hole e12 2)) fun v15 =>
 tv (pbin (.int .i64) .gtr v15 (I 20)) fun v16 =>
 Prg.ite (asBool v16) (
 ret (B false)) (
 tv (plen (.slice 3) (nth hole e12 10)) fun v17 =>
 tv (pbin (.int .i64) .gtr v17 (I 20)) fun v18 =>
 Prg.ite (asBool v18) (
 ret (B false)) (
 tv (plen (.slice 55) (nth hole e12 5)) fun v19 =>
 tv (pbin (.int .i64) .add x0 v19) fun v20 =>
 jmp [0,0,1,1,1,1,0,0,1,0,0,1,1,0,0,1,0,0,1,0,1,1,1] (f7_2_S v20 x1 x2 (I 0) y3 (nth hole e12 0) (nth hole e12 1) (nth hole e12 2) (nth hole e12 3) (nth hole e12 4) (nth hole e12 5) (nth hole e12 6) (nth hole e12 7) (nth hole e12 8) (nth hole e12 9) (nth hole e12 10) (nth hole e12 11) (nth hole e12 12) (nth hole e12 13)))))))) (
 tv (pbin (.int .i64) .add x1 (I 1)) fun v21 =>
 jmp [0,0,1,0,1,1,1] (f7_0_S x0 v21 y3)))
def f7_2  (x0 x1 x2 x3 y4 y5 y6 y7 y8 y9 y10 y11 y12 y13 y14 y15 y16 y17 y18:TV):Prg TV :=
 tv (plen (.slice 55) y10) fun v22 =>
 tv (pbin (.int .i64) .lss x3 v22) fun v23 =>
 Prg.ite (asBool v23) (
 tvs (pidx 7 y10 x3) fun e24 =>
 chk (Nat.blt 6 (List.length e24)) (
 tv (plen (.slice 3) (nth hole e24 6)) fun v25 =>
 tv (pbin (.int .i64) .gtr v25 (I 20)) fun v26 =>
 Prg.ite (asBool v26) (
 ret (B false)) (
 tv (pbin (.int .i64) .add x3 (I 1)) fun v27 =>
 jmp [0,0,1,1,1,1,0,0,1,0,0,1,1,0,0,1,0,0,1,0,1,1,1] (f7_2_S x0 x1 x2 v27 y4 y5 y6 y7 y8 y9 y10 y11 y12 y13 y14 y15 y16 y17 y18)))) (
 tv (pbin (.int .i64) .add x2 (I 1)) fun v28 =>
 jmp [0,0,1,1,0,0,1,0,0,1,0,1,1,1] (f7_1_S x0 x1 v28 y4))
theorem f7_MR (x0:TV):aE prog 7 [x0]=f7_M x0:=by kernel_rfl
theorem f7_0_J  {x0 x1 y2:TV} {r:TV} (h:aa prog 7 (f7_0 x0 x1 y2) r):aa prog 7 (.jmp [0,0,1,0,1,1,1] (f7_0_S x0 x1 y2)) r:=aa.jmp (by kernel_rfl) h
theorem f7_1_J  {x0 x1 x2 y3:TV} {r:TV} (h:aa prog 7 (f7_1 x0 x1 x2 y3) r):aa prog 7 (.jmp [0,0,1,1,0,0,1,0,0,1,0,1,1,1] (f7_1_S x0 x1 x2 y3)) r:=aa.jmp (by kernel_rfl) h
theorem f7_2_J  {x0 x1 x2 x3 y4 y5 y6 y7 y8 y9 y10 y11 y12 y13 y14 y15 y16 y17 y18:TV} {r:TV} (h:aa prog 7 (f7_2 x0 x1 x2 x3 y4 y5 y6 y7 y8 y9 y10 y11 y12 y13 y14 y15 y16 y17 y18) r):aa prog 7 (.jmp [0,0,1,1,1,1,0,0,1,0,0,1,1,0,0,1,0,0,1,0,1,1,1] (f7_2_S x0 x1 x2 x3 y4 y5 y6 y7 y8 y9 y10 y11 y12 y13 y14 y15 y16 y17 y18)) r:=aa.jmp (by kernel_rfl) h
def f8_0_S  (x0 x1 w2:TV):ASt:=⟨[Jk,Jk,Pt 0,Sr 1] ++ Rj 8 ++ [AV.tv x0,AV.tv x1] ++ Rj 29,[some (BC.cells [CA.junk]),Tr w2] ++ Rz 65,[]⟩
def f8_1_S  (x0 x1 x2 x3 x4 w5 w6:TV):ASt:=⟨[Jk,Jk,Pt 0,Sr 1,AV.tv x0,Sr 2] ++ Rj 6 ++ [AV.tv x1,AV.tv x2] ++ Rj 8 ++ [Sr 2,AV.tv x3,AV.tv x4] ++ Rj 18,[some (BC.cells [CA.junk]),Tr w5,Tr w6] ++ Rz 64,[]⟩
def f8_2_S  (x0 x1 x2 w3 w4:TV):ASt:=⟨[Jk,Jk,Pt 0,Sr 1,AV.tv x0,Sr 2] ++ Rj 6 ++ [AV.tv x1,AV.tv x2] ++ Rj 29,[some (BC.cells [CA.junk]),Tr w3,Tr w4] ++ Rz 64,[]⟩
def f8_M (x0:TV):Prg TV :=
 chk (TV.isAgg x0 1) (
 call 22 [cell x0 0] fun v0 =>
 chk (ac zSl [v0] 0) (
 tv (plen (.slice 40) v0) fun v1 =>
 jmp [0,0,1,0,1,1] (f8_0_S v1 (I 0) v0)))
def f8_0  (x0 x1 w2:TV):Prg TV :=
 tv (pbin (.int .i64) .lss x1 x0) fun v2 =>
 Prg.ite (asBool v2) (
 nat (slLen w2) fun n3 =>
 nat (aK x1) fun n4 =>
 chk (Bool.and (slSize w2 3) (Nat.blt n4 n3)) (
 tvs (pel w2 n4) fun e5 =>
 chk (ac zSl e5 2) (
 tv (aI [(n4,2)] w2) fun v6 =>
 chk (TV.iw v6) (
 call 23 [v6] fun v7 =>
 chk (ac zSl [v7] 0) (
 tv (plen (.slice 48) v7) fun v8 =>
 jmp [0,0,1,0,1,1,0,0,1,1,0,0,1,0,1,1] (f8_1_S x1 x0 x1 v8 (I 0) w2 v7)))))) (
 chk (bT (agg [w2])) (
 ret (agg [w2])))
def f8_1  (x0 x1 x2 x3 x4 w5 w6:TV):Prg TV :=
 tv (pbin (.int .i64) .lss x4 x3) fun v9 =>
 Prg.ite (asBool v9) (
 nat (slLen w6) fun n10 =>
 nat (aK x4) fun n11 =>
 chk (Bool.and (slSize w6 14) (Nat.blt n11 n10)) (
 tvs (pel w6 n11) fun e12 =>
 chk (ac dA e12 0) (
 tv (aI [(n11,2)] w6) fun v13 =>
 tv (aI [(n11,5)] w6) fun v14 =>
 tv (aI [(n11,10)] w6) fun v15 =>
 call 24 [agg [nth hole e12 0,nth hole e12 1,frz v13,nth hole e12 3,nth hole e12 4,frz v14,nth hole e12 6,nth hole e12 7,nth hole e12 8,nth hole e12 9,frz v15,nth hole e12 11,nth hole e12 12,nth hole e12 13]] fun v16 =>
 chk (Bool.and (TV.isAgg v16 14) (ac dA (cellsL true v16) 0)) (
 nat (slLen w6) fun n17 =>
 nat (aK x4) fun n18 =>
 chk (Bool.and (slSize w6 14) (Nat.blt n18 n17)) (
 tvs (pel w6 n18) fun e19 =>
 chk (Bool.and (b8 dA e19 0) (ac dA [cell v16 0,cell v16 1,cell v16 2,cell v16 3,cell v16 4,cell v16 5,cell v16 6,cell v16 7,cell v16 8,cell v16 9,cell v16 10,cell v16 11,cell v16 12,cell v16 13] 0)) (
 tv (gW [] w6 n18 0 [cell v16 0,cell v16 1,cell v16 2,cell v16 3,cell v16 4,cell v16 5,cell v16 6,cell v16 7,cell v16 8,cell v16 9,cell v16 10,cell v16 11,cell v16 12,cell v16 13]) fun v20 =>
 tv (pbin (.int .i64) .add x4 (I 1)) fun v21 =>
 jmp [0,0,1,0,1,1,0,0,1,1,0,0,1,0,1,1] (f8_1_S x0 x1 x2 x3 v21 w5 v20))))))) (
 jmp [1,1,1,0,0,1,1,0,0,1,0,1,1] (f8_2_S x0 x1 x2 w5 w6))
def f8_2  (x0 x1 x2 w3 w4:TV):Prg TV :=
 nat (slLen w3) fun n22 =>
 nat (aK x0) fun n23 =>
 chk (Bool.and (slSize w3 3) (Nat.blt n23 n22)) (
 tvs (pel w3 n23) fun e24 =>
 chk (Bool.and (b8 zSl e24 2) (ac zSl [w4] 0)) (
 tv (gW [] w3 n23 2 [w4]) fun v25 =>
 tv (pbin (.int .i64) .add x2 (I 1)) fun v26 =>
 jmp [0,0,1,0,1,1] (f8_0_S x1 v26 v25)))
theorem f8_MR (x0:TV):aE prog 8 [x0]=f8_M x0:=by kernel_rfl
theorem f8_0_J  {x0 x1 w2:TV} {r:TV} (h:aa prog 8 (f8_0 x0 x1 w2) r):aa prog 8 (.jmp [0,0,1,0,1,1] (f8_0_S x0 x1 w2)) r:=aa.jmp (by kernel_rfl) h
theorem f8_1_J  {x0 x1 x2 x3 x4 w5 w6:TV} {r:TV} (h:aa prog 8 (f8_1 x0 x1 x2 x3 x4 w5 w6) r):aa prog 8 (.jmp [0,0,1,0,1,1,0,0,1,1,0,0,1,0,1,1] (f8_1_S x0 x1 x2 x3 x4 w5 w6)) r:=aa.jmp (by kernel_rfl) h
theorem f8_2_J  {x0 x1 x2 w3 w4:TV} {r:TV} (h:aa prog 8 (f8_2 x0 x1 x2 w3 w4) r):aa prog 8 (.jmp [1,1,1,0,0,1,1,0,0,1,0,1,1] (f8_2_S x0 x1 x2 w3 w4)) r:=aa.jmp (by kernel_rfl) h
def f9_0_S  (x0 x1 w2 w3:TV):ASt:=⟨[Jk,Pt 0,Pt 1,Jk,Sr 2] ++ Rj 14 ++ [Sr 3,AV.tv x0,AV.tv x1] ++ Rj 29,[some (BC.cells [CA.sref 3 0 []]),some (BC.cells [CA.junk]),Tr w2,Tr w3] ++ Rz 71,[]⟩
def f9_1_S  (x0 x1:TV) (k2:Nat) (x3 x4 w5 y6 y7:TV) (k8:Nat) (w9:TV):ASt:=⟨[Jk,Pt 0,Pt 1,Jk,Sr 2,Jk,Pt 3] ++ Rj 12 ++ [Sr 4,AV.tv x0,AV.tv x1] ++ Rj 4 ++ [AV.one (CA.sref 4 0 [(k2,2)]),AV.tv x3,AV.tv x4] ++ Rj 22,[some (BC.cells [CA.sref 4 0 []]),some (BC.cells [CA.junk]),Tr w5,some (BC.cells [CA.t y6,CA.t y7,CA.sref 4 0 [(k8,2)]]),Tr w9] ++ Rz 70,[]⟩
def f9_M (x0:TV):Prg TV :=
 chk (TV.isAgg x0 1) (
 call 16 [agg [cell x0 0]] fun v0 =>
 chk (ac aD [v0] 0) (
 tv (pun .not v0) fun v1 =>
 Prg.ite (asBool v1) (
 call 8 [agg [cell x0 0]] fun v2 =>
 chk (Bool.and (TV.isAgg v2 1) (ac zSl (cellsL true v2) 0)) (
 chk (bF [agg [cell v2 0],I 1]) (
 ret (tup [agg [cell v2 0],I 1])))) (
 call 18 [agg [cell x0 0]] fun v3 =>
 chk (ac zSl [v3] 0) (
 call 8 [agg [cell x0 0]] fun v4 =>
 chk (Bool.and (TV.isAgg v4 1) (ac zSl (cellsL true v4) 0)) (
 tv (plen (.slice 40) (cell v4 0)) fun v5 =>
 jmp [0,0,1,0,1,1,1,1] (f9_0_S v5 (I 0) v3 (cell v4 0)))))))
def f9_0  (x0 x1 w2 w3:TV):Prg TV :=
 tv (pbin (.int .i64) .lss x1 x0) fun v6 =>
 Prg.ite (asBool v6) (
 nat (slLen w3) fun n7 =>
 nat (aK x1) fun n8 =>
 chk (Bool.and (slSize w3 3) (Nat.blt n8 n7)) (
 tvs (pel w3 n8) fun e9 =>
 chk (ac BL e9 0) (
 tv (aI [(n8,2)] w3) fun v10 =>
 tv (plen (.slice 48) v10) fun v11 =>
 jmp [0,0,1,1,0,0,1,1,0,0,1,0,1,1,1,1] (f9_1_S x0 x1 n8 v11 (I 0) w2 (nth hole e9 0) (nth hole e9 1) n8 w3)))) (
 chk (bF [agg [w3],I 0]) (
 ret (tup [agg [w3],I 0])))
noncomputable def f9_1  (x0 x1:TV) (k2:Nat) (x3 x4 w5 y6 y7:TV) (k8:Nat) (w9:TV):Prg TV :=
 tv (pbin (.int .i64) .lss x4 x3) fun v12 =>
 Prg.ite (asBool v12) (
 tv (aI [(k2,2)] w9) fun v13 =>
 nat (slLen v13) fun n14 =>
 nat (aK x4) fun n15 =>
 chk (Bool.and (slSize v13 14) (Nat.blt n15 n14)) (
 tv (aI [(k2,2)] w9) fun v16 =>
 tvs (pel v16 n15) fun e17 =>
 chk (ac dA e17 0) (
 tv (aI [(k2,2),(n15,2)] w9) fun v18 =>
 tv (aI [(k2,2),(n15,5)] w9) fun v19 =>
 tv (aI [(k2,2),(n15,10)] w9) fun v20 =>
 call 25 [agg [nth hole e17 0,nth hole e17 1,frz v18,nth hole e17 3,nth hole e17 4,frz v19,nth hole e17 6,nth hole e17 7,nth hole e17 8,nth hole e17 9,frz v20,nth hole e17 11,nth hole e17 12,nth hole e17 13],frz w5] fun v21 =>
 chk (ac aD [v21] 0) (
 Prg.ite (asBool v21) (
 tv (aI [(k2,2),(n15,5)] w9) fun v22 =>
 tv (plen (.slice 55) v22) fun v23 =>
 tv (pbin (.int .i64) .lss v23 (I 64)) fun v24 =>
 Prg.ite (asBool v24) (
 tv (aI [(k2,2),(n15,2)] w9) fun v25 =>
 tv (fK [(k2,2),(n15,2)] w9 hole) fun v26 =>
 tv (aI [(k2,2),(n15,10)] v26) fun v27 =>
 tv (fK [(k2,2),(n15,10)] v26 hole) fun v28 =>
 rws (pelems 7 (TV.sl true 7 (chunks 7 1 [I 11,nth hole e17 8,I 0,I 0,W 0,nth hole e17 9,v27]))) fun r29 =>
 tv (aI [(k2,2),(n15,5)] v28) fun v30 =>
 tv (papp 7 v30 r29) fun v31 =>
 tv (fK [(k2,2),(n15,5)] v28 hole) fun v32 =>
 chk (Bool.and (qM x4 x4) true) (
 chk (Bool.and (Bool.and true (Bool.and true (Bool.and (Nat.beq k8 k8) (Bool.and (Nat.beq 2 2) true)))) true) (
 chk (Bool.and (Bool.and true (Bool.and true (Bool.and (Nat.beq k8 k8) (Bool.and (Nat.beq 2 2) true)))) (Bool.and (qM x4 x4) true)) (
 chk (Bool.and true true) (
 chk (Bool.and true (Bool.and (qM x4 x4) true)) (
 chk (Bool.and true (Bool.and (Bool.and true (Bool.and true (Bool.and (Nat.beq k8 k8) (Bool.and (Nat.beq 2 2) true)))) true)) (
 chk (Bool.and true (Bool.and (Bool.and true (Bool.and true (Bool.and (Nat.beq k8 k8) (Bool.and (Nat.beq 2 2) true)))) (Bool.and (qM x4 x4) true))) (
 tv (aI [(k8,2)] v32) fun v33 =>
 nat (slLen v33) fun n34 =>
 nat (aK x4) fun n35 =>
 chk (Bool.and (slSize v33 14) (Nat.blt n35 n34)) (
 tv (aI [(k8,2)] v32) fun v36 =>
 tvs (pel v36 n35) fun e37 =>
 chk (Bool.and (b8 dA e37 0) (ac dA [nth hole e17 0,nth hole e17 1,v25,nth hole e17 3,nth hole e17 4,v31,I 2,I 0,I 0,I 0,TV.lit bm,nth hole e17 11,I 0,I 0] 0)) (
 tv (gW [(k8,2)] v32 n35 0 [nth hole e17 0,nth hole e17 1,v25,nth hole e17 3,nth hole e17 4,v31,I 2,I 0,I 0,I 0,TV.lit bm,nth hole e17 11,I 0,I 0]) fun v38 =>
 tv (pbin (.int .i64) .add x4 (I 1)) fun v39 =>
 jmp [0,0,1,1,0,0,1,1,0,0,1,0,1,1,1,1] (f9_1_S x0 x1 k2 x3 v39 w5 y6 y7 k8 v38))))))))))) (
 tv (pbin (.int .i64) .add x4 (I 1)) fun v40 =>
 jmp [0,0,1,1,0,0,1,1,0,0,1,0,1,1,1,1] (f9_1_S x0 x1 k2 x3 v40 w5 y6 y7 k8 w9))) (
 tv (pbin (.int .i64) .add x4 (I 1)) fun v41 =>
 jmp [0,0,1,1,0,0,1,1,0,0,1,0,1,1,1,1] (f9_1_S x0 x1 k2 x3 v41 w5 y6 y7 k8 w9)))))) (
 tv (pbin (.int .i64) .add x1 (I 1)) fun v42 =>
 jmp [0,0,1,0,1,1,1,1] (f9_0_S x0 v42 w5 w9))
theorem f9_MR (x0:TV):aE prog 9 [x0]=f9_M x0:=by kernel_rfl
theorem f9_0_J  {x0 x1 w2 w3:TV} {r:TV} (h:aa prog 9 (f9_0 x0 x1 w2 w3) r):aa prog 9 (.jmp [0,0,1,0,1,1,1,1] (f9_0_S x0 x1 w2 w3)) r:=aa.jmp (by kernel_rfl) h
theorem f9_1_J  {x0 x1:TV} {k2:Nat} {x3 x4 w5 y6 y7:TV} {k8:Nat} {w9:TV} {r:TV} (h:aa prog 9 (f9_1 x0 x1 k2 x3 x4 w5 y6 y7 k8 w9) r):aa prog 9 (.jmp [0,0,1,1,0,0,1,1,0,0,1,0,1,1,1,1] (f9_1_S x0 x1 k2 x3 x4 w5 y6 y7 k8 w9)) r:=aa.jmp (by kernel_rfl) h
def f10_0_S  (x0 x1 x2 x3:TV):ASt:=⟨[Jk,Jk,Jk,AV.tv x0] ++ Rj 5 ++ [AV.tv x1,AV.tv x2,AV.tv x3] ++ Rj 17,Rz 53,[]⟩
def f10_1_S  (x0 x1 x2 x3 x4 x5 x6:TV):ASt:=⟨[Jk,Jk,Jk,AV.tv x0] ++ Rj 5 ++ [AV.tv x1,AV.tv x2,AV.tv x3] ++ Rj 4 ++ [AV.tv x4,AV.tv x5,AV.tv x6] ++ Rj 10,Rz 53,[]⟩
def f10_M (x0:TV):Prg TV :=
 chk (TV.isAgg x0 1) (
 tv (plen (.slice 40) (cell x0 0)) fun v0 =>
 jmp [0,0,1,0,1,1] (f10_0_S (I 0) (cell x0 0) v0 (I 0)))
def f10_0  (x0 x1 x2 x3:TV):Prg TV :=
 tv (pbin (.int .i64) .lss x3 x2) fun v1 =>
 Prg.ite (asBool v1) (
 tvs (pidx 3 x1 x3) fun e2 =>
 chk (Nat.ble 3 (List.length e2)) (
 tv (plen (.slice 48) (nth hole e2 2)) fun v3 =>
 jmp [0,0,1,1,0,0,1,1,0,0,1,0,1,1] (f10_1_S x0 x1 x2 x3 (nth hole e2 2) v3 (I 0)))) (
 ret x0)
def f10_1  (x0 x1 x2 x3 x4 x5 x6:TV):Prg TV :=
 tv (pbin (.int .i64) .lss x6 x5) fun v4 =>
 Prg.ite (asBool v4) (
 tvs (pidx 14 x4 x6) fun e5 =>
 chk (Nat.ble 14 (List.length e5)) (
 call 27 [agg [nth hole e5 0,nth hole e5 1,nth hole e5 2,nth hole e5 3,nth hole e5 4,nth hole e5 5,nth hole e5 6,nth hole e5 7,nth hole e5 8,nth hole e5 9,nth hole e5 10,nth hole e5 11,nth hole e5 12,nth hole e5 13]] fun v6 =>
 chk (ac aD [v6] 0) (
 Prg.ite (asBool v6) (
 tv (pbin (.int .i64) .add x0 (I 1)) fun v7 =>
 tv (pbin (.int .i64) .add x6 (I 1)) fun v8 =>
 jmp [0,0,1,1,0,0,1,1,0,0,1,0,1,1] (f10_1_S v7 x1 x2 x3 x4 x5 v8)) (
 tv (pbin (.int .i64) .add x6 (I 1)) fun v9 =>
 jmp [0,0,1,1,0,0,1,1,0,0,1,0,1,1] (f10_1_S x0 x1 x2 x3 x4 x5 v9))))) (
 tv (pbin (.int .i64) .add x3 (I 1)) fun v10 =>
 jmp [0,0,1,0,1,1] (f10_0_S x0 x1 x2 v10))
theorem f10_MR (x0:TV):aE prog 10 [x0]=f10_M x0:=by kernel_rfl
theorem f10_0_J  {x0 x1 x2 x3:TV} {r:TV} (h:aa prog 10 (f10_0 x0 x1 x2 x3) r):aa prog 10 (.jmp [0,0,1,0,1,1] (f10_0_S x0 x1 x2 x3)) r:=aa.jmp (by kernel_rfl) h
theorem f10_1_J  {x0 x1 x2 x3 x4 x5 x6:TV} {r:TV} (h:aa prog 10 (f10_1 x0 x1 x2 x3 x4 x5 x6) r):aa prog 10 (.jmp [0,0,1,1,0,0,1,1,0,0,1,0,1,1] (f10_1_S x0 x1 x2 x3 x4 x5 x6)) r:=aa.jmp (by kernel_rfl) h
def f12_0_S  (x0 y1 y2:TV):ASt:=⟨[Jk,Jk,Pt 0,Pt 1,Jk,AV.tv x0] ++ Rj 26,[Ct y1,Ct y2] ++ Rz 54,[]⟩
def f12_M (x0 x1:TV):Prg TV :=
 chk (TV.isAgg x0 1) (
 chk (TV.isAgg x1 1) (
 tv (plen (.slice 40) (cell x0 0)) fun v0 =>
 tv (plen (.slice 40) (cell x1 0)) fun v1 =>
 tv (pbin (.int .i64) .neq v0 v1) fun v2 =>
 Prg.ite (asBool v2) (
 ret (B false)) (
 jmp [0,0,1,0,1,1] (f12_0_S (I 0) (cell x0 0) (cell x1 0)))))
def f12_0  (x0 y1 y2:TV):Prg TV :=
 tv (plen (.slice 40) y1) fun v3 =>
 tv (pbin (.int .i64) .lss x0 v3) fun v4 =>
 Prg.ite (asBool v4) (
 tvs (pidx 3 y1 x0) fun e5 =>
 chk (Nat.ble 3 (List.length e5)) (
 tvs (pidx 3 y2 x0) fun e6 =>
 chk (Nat.ble 3 (List.length e6)) (
 call 28 [agg [nth hole e5 0,nth hole e5 1,nth hole e5 2],agg [nth hole e6 0,nth hole e6 1,nth hole e6 2]] fun v7 =>
 chk (ac aD [v7] 0) (
 tv (pun .not v7) fun v8 =>
 Prg.ite (asBool v8) (
 ret (B false)) (
 tv (pbin (.int .i64) .add x0 (I 1)) fun v9 =>
 jmp [0,0,1,0,1,1] (f12_0_S v9 y1 y2)))))) (
 ret (B true))
theorem f12_MR (x0 x1:TV):aE prog 12 [x0,x1]=f12_M x0 x1:=by kernel_rfl
theorem f12_0_J  {x0 y1 y2:TV} {r:TV} (h:aa prog 12 (f12_0 x0 y1 y2) r):aa prog 12 (.jmp [0,0,1,0,1,1] (f12_0_S x0 y1 y2)) r:=aa.jmp (by kernel_rfl) h
def f16_0_S  (x0 x1 x2 y3:TV):ASt:=⟨[Jk,Pt 0] ++ Rj 22 ++ [AV.tv x0,AV.tv x1,AV.tv x2] ++ Rj 8,[Ct y3] ++ Rz 58,[]⟩
def f16_M (x0:TV):Prg TV :=
 chk (TV.isAgg x0 1) (
 tv (plen (.slice 40) (cell x0 0)) fun v0 =>
 tv (pbin (.int .i64) .lss v0 (I 1)) fun v1 =>
 Prg.ite (asBool v1) (
 ret (B false)) (
 tv (plen (.slice 40) (cell x0 0)) fun v2 =>
 tv (pbin (.int .i64) .gtr v2 (I 16)) fun v3 =>
 Prg.ite (asBool v3) (
 ret (B false)) (
 tvs (pidx 3 (cell x0 0) (I 0)) fun e4 =>
 chk (Nat.blt 0 (List.length e4)) (
 tv (pbin (.int .i64) .neq (nth hole e4 0) (I 0)) fun v5 =>
 Prg.ite (asBool v5) (
 ret (B false)) (
 tv (plen (.slice 40) (cell x0 0)) fun v6 =>
 jmp [0,0,1,0,1,1] (f16_0_S (cell x0 0) v6 (I 0) (cell x0 0)))))))
def f16_0  (x0 x1 x2 y3:TV):Prg TV :=
 tv (pbin (.int .i64) .lss x2 x1) fun v7 =>
 Prg.ite (asBool v7) (
 tvs (pidx 3 x0 x2) fun e8 =>
 chk (Nat.ble 3 (List.length e8)) (
 call 32 [agg [y3],agg [nth hole e8 0,nth hole e8 1,nth hole e8 2]] fun v9 =>
 chk (ac aD [v9] 0) (
 tv (pun .not v9) fun v10 =>
 Prg.ite (asBool v10) (
 ret (B false)) (
 tv (pbin (.int .i64) .add x2 (I 1)) fun v11 =>
 jmp [0,0,1,0,1,1] (f16_0_S x0 x1 v11 y3))))) (
 ret (B true))
theorem f16_MR (x0:TV):aE prog 16 [x0]=f16_M x0:=by kernel_rfl
theorem f16_0_J  {x0 x1 x2 y3:TV} {r:TV} (h:aa prog 16 (f16_0 x0 x1 x2 y3) r):aa prog 16 (.jmp [0,0,1,0,1,1] (f16_0_S x0 x1 x2 y3)) r:=aa.jmp (by kernel_rfl) h
def f18_0_S  (x0 y1 w2:TV):ASt:=⟨[Jk,Jk,Pt 0,Pt 1,Jk,Pt 2,AV.tv x0] ++ Rj 34,[Ct y1,some (BC.cells [CA.t (TV.lit (Value.func (Fn.func 34) (Array.mk []) (Array.mk [])))]),some (BC.cells [CA.sref 3 0 []]),Tr w2] ++ Rz 66,Rj 5⟩
def f18_1_S  (x0 x1 x2 x3 y4 w5:TV):ASt:=⟨[Jk,Jk,Pt 0,Pt 1,Jk,Pt 2,AV.tv x0] ++ Rj 11 ++ [AV.tv x1,AV.tv x2,AV.tv x3] ++ Rj 20,[Ct y4,some (BC.cells [CA.t (TV.lit (Value.func (Fn.func 34) (Array.mk []) (Array.mk [])))]),some (BC.cells [CA.sref 3 0 []]),Tr w5] ++ Rz 66,Rj 5⟩
def f18_2_S  (x0 x1 x2 y3 y4 y5 y6 w7 x8 x9 x10 x11 x12 x13:TV):ASt:=⟨[AV.tv x0,AV.clo 51 [CA.ptr 0 0,CA.ptr 1 0,CA.ptr 2 0]] ++ Rj 5 ++ [AV.tv x1,AV.tv x2] ++ Rj 10,[some (BC.cells [CA.t (TV.lit (Value.func (Fn.func 34) (Array.mk []) (Array.mk [])))]),some (BC.cells [CA.t y3,CA.t y4,CA.t y5]),some (BC.cells [CA.sref 4 0 []]),Ct y6,Tr w7] ++ Rz 93,(Rj 7 ++ [Pt 3,Pt 0,Jk,Pt 2,AV.tv x8,AV.tv x9] ++ Rj 10 ++ [AV.tv x10,AV.tv x11,AV.tv x12] ++ Rj 9 ++ [AV.tv x13] ++ Rj 19)⟩
def f18_3_S  (x0 w1 y2 y3 y4 y5 y6 y7 y8 y9 y10 y11 y12 y13 y14 y15 y16 y17 y18 y19 y20 y21 y22 x23 x24 x25 x26 x27 x28 x29 x30 x31 x32:TV):ASt:=⟨[Jk,Jk,Sr 0,Pt 1,Pt 2,Jk,Jk,AV.tv x0] ++ Rj 33,[Tr w1,some (BC.cells [CA.t y2,CA.t y3,CA.t y4]),some (BC.cells [CA.t y5,CA.t y6,CA.t y7,CA.t y8,CA.t y9,CA.t y10,CA.t y11,CA.t y12,CA.t y13,CA.t y14,CA.t y15,CA.t y16,CA.t y17,CA.t y18]),Ct y19,some (BC.cells [CA.t (TV.lit (Value.func (Fn.func 34) (Array.mk []) (Array.mk [])))]),some (BC.cells [CA.sref 0 0 []]),some (BC.cells [CA.t y20,CA.t y21,CA.t y22])] ++ Rz 143,(Rj 7 ++ [Pt 3,Pt 4,Jk,Pt 5,AV.tv x23,AV.tv x24] ++ Rj 10 ++ [AV.tv x25,AV.tv x26,AV.tv x27] ++ Rj 9 ++ [AV.tv x28] ++ Rj 19 ++ [AV.tv x29,AV.clo 51 [CA.ptr 4 0,CA.ptr 6 0,CA.ptr 5 0],Jk,Jk,Jk,AV.tv x30,Jk,AV.tv x31,AV.tv x32] ++ Rj 21)⟩
def f18_M (x0:TV):Prg TV :=
 chk (TV.isAgg x0 1) (
 chk true (
 call 16 [agg [cell x0 0]] fun v0 =>
 chk (ac aD [v0] 0) (
 tv (pun .not v0) fun v1 =>
 Prg.ite (asBool v1) (
 chk true (
 ret (TV.lit bm))) (
 tv (plen (.slice 40) (cell x0 0)) fun v2 =>
 nat (aK v2) fun n3 =>
 nat (aK v2) fun n4 =>
 chk (Bool.and (Nat.ble n3 n4) (Nat.ble n4 4294967296)) (
 jmp [0,0,1,0,1,1,1,4,0,1] (f18_0_S (B true) (cell x0 0) (TV.sl true 1 (List.replicate n3 [B false]))))))))
def f18_0  (x0 y1 w2:TV):Prg TV :=
 Prg.ite (asBool x0) (
 tv (plen (.slice 40) y1) fun v5 =>
 jmp [0,0,1,1,0,1,0,0,1,0,1,1,1,4,0,1] (f18_1_S (B false) y1 v5 (I 0) y1 w2)) (
 chk (bT w2) (
 ret w2))
def f18_1  (x0 x1 x2 x3 y4 w5:TV):Prg TV :=
 tv (pbin (.int .i64) .lss x3 x2) fun v6 =>
 Prg.ite (asBool v6) (
 tvs (pidx 3 x1 x3) fun e7 =>
 chk (Nat.ble 3 (List.length e7)) (
 nat (slLen w5) fun n8 =>
 nat (aK x3) fun n9 =>
 chk (Bool.and (slSize w5 1) (Nat.blt n9 n8)) (
 tvs (pel w5 n9) fun e10 =>
 chk (ac aD e10 0) (
 tv (pun .not (nth hole e10 0)) fun v11 =>
 Prg.ite (asBool v11) (
 tv (plen (.slice 48) (nth hole e7 2)) fun v12 =>
 jmp [0,0,1,0,1,6,0,1,20,0,1,0,0,1,1,0,0,1,1,0,1,0,0,1,0,1,1,1,4,0,1] (f18_2_S (nth hole e7 2) v12 (I 0) (nth hole e7 0) (nth hole e7 1) (nth hole e7 2) y4 w5 x0 x3 x1 x2 x3 (B true))) (
 tv (pbin (.int .i64) .add x3 (I 1)) fun v13 =>
 jmp [0,0,1,1,0,1,0,0,1,0,1,1,1,4,0,1] (f18_1_S x0 x1 x2 v13 y4 w5)))))) (
 jmp [0,0,1,0,1,1,1,4,0,1] (f18_0_S x0 y4 w5))
def f18_2  (x0 x1 x2 y3 y4 y5 y6 w7 x8 x9 x10 x11 x12 x13:TV):Prg TV :=
 tv (pbin (.int .i64) .lss x2 x1) fun v14 =>
 Prg.ite (asBool v14) (
 tvs (pidx 14 x0 x2) fun e15 =>
 chk (Nat.ble 14 (List.length e15)) (
 tv (pbin (.int .i64) .eql (nth hole e15 6) (I 5)) fun v16 =>
 Prg.ite (asBool v16) (
 jmp [1,1,70010,0,1,104012,0,1,0,0,1,1,0,0,1,0,1,6,0,1,20,0,1,0,0,1,1,0,0,1,1,0,1,0,0,1,0,1,1,1,4,0,1] (f18_3_S (B true) w7 y3 y4 y5 (nth hole e15 0) (nth hole e15 1) (nth hole e15 2) (nth hole e15 3) (nth hole e15 4) (nth hole e15 5) (nth hole e15 6) (nth hole e15 7) (nth hole e15 8) (nth hole e15 9) (nth hole e15 10) (nth hole e15 11) (nth hole e15 12) (nth hole e15 13) y6 y3 y4 y5 x8 x9 x10 x11 x12 x13 x0 x2 x1 x2)) (
 tv (pbin (.int .i64) .eql (nth hole e15 6) (I 6)) fun v17 =>
 jmp [1,1,70010,0,1,104012,0,1,0,0,1,1,0,0,1,0,1,6,0,1,20,0,1,0,0,1,1,0,0,1,1,0,1,0,0,1,0,1,1,1,4,0,1] (f18_3_S v17 w7 y3 y4 y5 (nth hole e15 0) (nth hole e15 1) (nth hole e15 2) (nth hole e15 3) (nth hole e15 4) (nth hole e15 5) (nth hole e15 6) (nth hole e15 7) (nth hole e15 8) (nth hole e15 9) (nth hole e15 10) (nth hole e15 11) (nth hole e15 12) (nth hole e15 13) y6 y3 y4 y5 x8 x9 x10 x11 x12 x13 x0 x2 x1 x2)))) (
 tv (pbin (.int .i64) .geq (TV.lit (Value.int IntKind.i64 (-1))) (I 0)) fun v18 =>
 Prg.ite (asBool x13) (
 Prg.ite (asBool v18) (
 nat (slLen w7) fun n19 =>
 nat (aK x9) fun n20 =>
 chk (Bool.and (slSize w7 1) (Nat.blt n20 n19)) (
 tvs (pel w7 n20) fun e21 =>
 chk (ac aD e21 0) (
 tv (gW [] w7 n20 0 [B true]) fun v22 =>
 tv (pbin (.int .i64) .add x12 (I 1)) fun v23 =>
 jmp [0,0,1,1,0,1,0,0,1,0,1,1,1,4,0,1] (f18_1_S (B true) x10 x11 v23 y6 v22)))) (
 tv (pbin (.int .i64) .add x12 (I 1)) fun v24 =>
 jmp [0,0,1,1,0,1,0,0,1,0,1,1,1,4,0,1] (f18_1_S x8 x10 x11 v24 y6 w7))) (
 tv (pbin (.int .i64) .add x12 (I 1)) fun v25 =>
 jmp [0,0,1,1,0,1,0,0,1,0,1,1,1,4,0,1] (f18_1_S x8 x10 x11 v25 y6 w7)))
def f18_3  (x0 w1 y2 y3 y4 y5 y6 y7 y8 y9 y10 y11 y12 y13 y14 y15 y16 y17 y18 y19 y20 y21 y22 x23 x24 x25 x26 x27 x28 x29 x30 x31 x32:TV):Prg TV :=
 Prg.ite (asBool x0) (
 tv (pbin (.int .i64) .geq x30 (I 0)) fun v26 =>
 Prg.ite (asBool x28) (
 Prg.ite (asBool v26) (
 nat (slLen w1) fun n27 =>
 nat (aK x24) fun n28 =>
 chk (Bool.and (slSize w1 1) (Nat.blt n28 n27)) (
 tvs (pel w1 n28) fun e29 =>
 chk (ac aD e29 0) (
 tv (gW [] w1 n28 0 [B true]) fun v30 =>
 tv (pbin (.int .i64) .add x27 (I 1)) fun v31 =>
 jmp [0,0,1,1,0,1,0,0,1,0,1,1,1,4,0,1] (f18_1_S (B true) x25 x26 v31 y19 v30)))) (
 tv (pbin (.int .i64) .add x27 (I 1)) fun v32 =>
 jmp [0,0,1,1,0,1,0,0,1,0,1,1,1,4,0,1] (f18_1_S x23 x25 x26 v32 y19 w1))) (
 tv (pbin (.int .i64) .add x27 (I 1)) fun v33 =>
 jmp [0,0,1,1,0,1,0,0,1,0,1,1,1,4,0,1] (f18_1_S x23 x25 x26 v33 y19 w1))) (
 call 35 [agg [y5,y6,y7,y8,y9,y10,y11,y12,y13,y14,y15,y16,y17,y18],frz w1] fun v34 =>
 chk (ac aD [v34] 0) (
 Prg.ite (asBool v34) (
 tv (pbin (.int .i64) .geq x30 (I 0)) fun v35 =>
 Prg.ite (asBool x28) (
 Prg.ite (asBool v35) (
 nat (slLen w1) fun n36 =>
 nat (aK x24) fun n37 =>
 chk (Bool.and (slSize w1 1) (Nat.blt n37 n36)) (
 tvs (pel w1 n37) fun e38 =>
 chk (ac aD e38 0) (
 tv (gW [] w1 n37 0 [B true]) fun v39 =>
 tv (pbin (.int .i64) .add x27 (I 1)) fun v40 =>
 jmp [0,0,1,1,0,1,0,0,1,0,1,1,1,4,0,1] (f18_1_S (B true) x25 x26 v40 y19 v39)))) (
 tv (pbin (.int .i64) .add x27 (I 1)) fun v41 =>
 jmp [0,0,1,1,0,1,0,0,1,0,1,1,1,4,0,1] (f18_1_S x23 x25 x26 v41 y19 w1))) (
 tv (pbin (.int .i64) .add x27 (I 1)) fun v42 =>
 jmp [0,0,1,1,0,1,0,0,1,0,1,1,1,4,0,1] (f18_1_S x23 x25 x26 v42 y19 w1))) (
 call 36 [agg [y5,y6,y7,y8,y9,y10,y11,y12,y13,y14,y15,y16,y17,y18],frz w1] fun v43 =>
 chk (ac aD [v43] 0) (
 Prg.ite (asBool v43) (
 tvs (pidx 14 y4 y18) fun e44 =>
 chk (Nat.blt 3 (List.length e44)) (
 tv (pun .not (nth hole e44 3)) fun v45 =>
 Prg.ite (asBool v45) (
 tv (pbin (.int .i64) .geq x30 (I 0)) fun v46 =>
 Prg.ite (asBool x28) (
 Prg.ite (asBool v46) (
 nat (slLen w1) fun n47 =>
 nat (aK x24) fun n48 =>
 chk (Bool.and (slSize w1 1) (Nat.blt n48 n47)) (
 tvs (pel w1 n48) fun e49 =>
 chk (ac aD e49 0) (
 tv (gW [] w1 n48 0 [B true]) fun v50 =>
 tv (pbin (.int .i64) .add x27 (I 1)) fun v51 =>
 jmp [0,0,1,1,0,1,0,0,1,0,1,1,1,4,0,1] (f18_1_S (B true) x25 x26 v51 y19 v50)))) (
 tv (pbin (.int .i64) .add x27 (I 1)) fun v52 =>
 jmp [0,0,1,1,0,1,0,0,1,0,1,1,1,4,0,1] (f18_1_S x23 x25 x26 v52 y19 w1))) (
 tv (pbin (.int .i64) .add x27 (I 1)) fun v53 =>
 jmp [0,0,1,1,0,1,0,0,1,0,1,1,1,4,0,1] (f18_1_S x23 x25 x26 v53 y19 w1))) (
 tv (pbin (.int .i64) .add x32 (I 1)) fun v54 =>
 jmp [0,0,1,0,1,6,0,1,20,0,1,0,0,1,1,0,0,1,1,0,1,0,0,1,0,1,1,1,4,0,1] (f18_2_S x29 x31 v54 y20 y21 y22 y19 w1 x23 x24 x25 x26 x27 x28)))) (
 tv (pbin (.int .i64) .add x32 (I 1)) fun v55 =>
 jmp [0,0,1,0,1,6,0,1,20,0,1,0,0,1,1,0,0,1,1,0,1,0,0,1,0,1,1,1,4,0,1] (f18_2_S x29 x31 v55 y20 y21 y22 y19 w1 x23 x24 x25 x26 x27 x28))))))
theorem f18_MR (x0:TV):aE prog 18 [x0]=f18_M x0:=by kernel_rfl
theorem f18_0_J  {x0 y1 w2:TV} {r:TV} (h:aa prog 18 (f18_0 x0 y1 w2) r):aa prog 18 (.jmp [0,0,1,0,1,1,1,4,0,1] (f18_0_S x0 y1 w2)) r:=aa.jmp (by kernel_rfl) h
theorem f18_1_J  {x0 x1 x2 x3 y4 w5:TV} {r:TV} (h:aa prog 18 (f18_1 x0 x1 x2 x3 y4 w5) r):aa prog 18 (.jmp [0,0,1,1,0,1,0,0,1,0,1,1,1,4,0,1] (f18_1_S x0 x1 x2 x3 y4 w5)) r:=aa.jmp (by kernel_rfl) h
theorem f18_2_J  {x0 x1 x2 y3 y4 y5 y6 w7 x8 x9 x10 x11 x12 x13:TV} {r:TV} (h:aa prog 18 (f18_2 x0 x1 x2 y3 y4 y5 y6 w7 x8 x9 x10 x11 x12 x13) r):aa prog 18 (.jmp [0,0,1,0,1,6,0,1,20,0,1,0,0,1,1,0,0,1,1,0,1,0,0,1,0,1,1,1,4,0,1] (f18_2_S x0 x1 x2 y3 y4 y5 y6 w7 x8 x9 x10 x11 x12 x13)) r:=aa.jmp (by kernel_rfl) h
theorem f18_3_J  {x0 w1 y2 y3 y4 y5 y6 y7 y8 y9 y10 y11 y12 y13 y14 y15 y16 y17 y18 y19 y20 y21 y22 x23 x24 x25 x26 x27 x28 x29 x30 x31 x32:TV} {r:TV} (h:aa prog 18 (f18_3 x0 w1 y2 y3 y4 y5 y6 y7 y8 y9 y10 y11 y12 y13 y14 y15 y16 y17 y18 y19 y20 y21 y22 x23 x24 x25 x26 x27 x28 x29 x30 x31 x32) r):aa prog 18 (.jmp [1,1,70010,0,1,104012,0,1,0,0,1,1,0,0,1,0,1,6,0,1,20,0,1,0,0,1,1,0,0,1,1,0,1,0,0,1,0,1,1,1,4,0,1] (f18_3_S x0 w1 y2 y3 y4 y5 y6 y7 y8 y9 y10 y11 y12 y13 y14 y15 y16 y17 y18 y19 y20 y21 y22 x23 x24 x25 x26 x27 x28 x29 x30 x31 x32)) r:=aa.jmp (by kernel_rfl) h
end Go.Ab.C14
end
section
set_option maxRecDepth 100000
namespace Go.Ab.C14
open Go Go.Ab Go.Proofs
open Go.Ab.TV (hole cell comp isSl isSc isTup cellsL tup agg)
open Go.Ab.Prg (tv tvs rws nat chk call jmp ret)
def f20_M (x0 x1:TV):Prg TV :=
 chk (TV.isAgg x0 8) (
 chk (TV.isAgg x1 8) (
 tv (pbin (.int .i64) .eql (cell x0 0) (cell x1 0)) fun v0 =>
 Prg.ite (asBool v0) (
 tv (pbin (.int .i64) .eql (cell x0 1) (cell x1 1)) fun v1 =>
 Prg.ite (asBool v1) (
 tv (pbin (.int .i64) .eql (cell x0 2) (cell x1 2)) fun v2 =>
 Prg.ite (asBool v2) (
 tv (pbin (.int .i64) .eql (cell x0 3) (cell x1 3)) fun v3 =>
 Prg.ite (asBool v3) (
 call 40 [cell x0 4,cell x1 4] fun v4 =>
 chk (ac aD [v4] 0) (
 Prg.ite (asBool v4) (
 tv (pbin (.int .i64) .eql (cell x0 5) (cell x1 5)) fun v5 =>
 Prg.ite (asBool v5) (
 tv (pbin (.int .i64) .eql (cell x0 6) (cell x1 6)) fun v6 =>
 Prg.ite (asBool v6) (
 tv (pbin (.int .i64) .eql (cell x0 7) (cell x1 7)) fun v7 =>
 ret v7) (
 ret (B false))) (
 ret (B false))) (
 ret (B false)))) (
 ret (B false))) (
 ret (B false))) (
 ret (B false))) (
 ret (B false))))
theorem f20_MR (x0 x1:TV):aE prog 20 [x0,x1]=f20_M x0 x1:=by kernel_rfl
def f21_M (x0 x1:TV):Prg TV :=
 chk (TV.isAgg x0 7) (
 chk (TV.isAgg x1 7) (
 tv (pbin (.int .i64) .eql (cell x0 0) (cell x1 0)) fun v0 =>
 Prg.ite (asBool v0) (
 tv (pbin (.int .i64) .eql (cell x0 1) (cell x1 1)) fun v1 =>
 Prg.ite (asBool v1) (
 tv (pbin (.int .i64) .eql (cell x0 2) (cell x1 2)) fun v2 =>
 Prg.ite (asBool v2) (
 tv (pbin (.int .i64) .eql (cell x0 3) (cell x1 3)) fun v3 =>
 Prg.ite (asBool v3) (
 tv (pbin (.int .u16) .eql (cell x0 4) (cell x1 4)) fun v4 =>
 Prg.ite (asBool v4) (
 tv (pbin (.int .i64) .eql (cell x0 5) (cell x1 5)) fun v5 =>
 Prg.ite (asBool v5) (
 call 40 [cell x0 6,cell x1 6] fun v6 =>
 chk (ac aD [v6] 0) (
 ret v6)) (
 ret (B false))) (
 ret (B false))) (
 ret (B false))) (
 ret (B false))) (
 ret (B false))) (
 ret (B false))))
theorem f21_MR (x0 x1:TV):aE prog 21 [x0,x1]=f21_M x0 x1:=by kernel_rfl
def f22_M (x0:TV):Prg TV :=
 tv (pbin (.slice 40) .eql x0 (TV.lit bm)) fun v0 =>
 Prg.ite (asBool v0) (
 ret (TV.lit bm)) (
 tv (plen (.slice 40) x0) fun v1 =>
 nat (aK v1) fun n2 =>
 nat (aK v1) fun n3 =>
 chk (Bool.and (Nat.ble n2 n3) (Nat.ble n3 4294967296)) (
 rws (pelems 3 x0) fun r4 =>
 tv (pcopy 3 (TV.sl true 3 (List.replicate n2 [I 0,I 0,TV.lit bm])) r4) fun v5 =>
 nat (slLen (TV.sl true 3 (List.replicate n2 [I 0,I 0,TV.lit bm]))) fun n6 =>
 ret v5))
theorem f22_MR (x0:TV):aE prog 22 [x0]=f22_M x0:=by kernel_rfl
def f23_M (x0:TV):Prg TV :=
 tv (pbin (.slice 48) .eql x0 (TV.lit bm)) fun v0 =>
 Prg.ite (asBool v0) (
 ret (TV.lit bm)) (
 tv (plen (.slice 48) x0) fun v1 =>
 nat (aK v1) fun n2 =>
 nat (aK v1) fun n3 =>
 chk (Bool.and (Nat.ble n2 n3) (Nat.ble n3 4294967296)) (
 rws (pelems 14 x0) fun r4 =>
 tv (pcopy 14 (TV.sl true 14 (List.replicate n2 [B false,I 0,TV.lit bm,B false,B false,TV.lit bm,I 0,I 0,I 0,I 0,TV.lit bm,I 0,I 0,I 0])) r4) fun v5 =>
 nat (slLen (TV.sl true 14 (List.replicate n2 [B false,I 0,TV.lit bm,B false,B false,TV.lit bm,I 0,I 0,I 0,I 0,TV.lit bm,I 0,I 0,I 0]))) fun n6 =>
 ret v5))
theorem f23_MR (x0:TV):aE prog 23 [x0]=f23_M x0:=by kernel_rfl
def f24_0_S  (x0 x1 y2 y3 y4 y5 y6 y7 y8 y9 y10 y11 y12 y13 w14 w15:TV):ASt:=⟨[Jk,Pt 0,Pt 1] ++ Rj 13 ++ [AV.tv x0,AV.tv x1] ++ Rj 22,[some (BC.cells [CA.t y2,CA.t y3,CA.sref 2 0 [],CA.t y4,CA.t y5,CA.sref 3 0 [],CA.t y6,CA.t y7,CA.t y8,CA.t y9,CA.t y10,CA.t y11,CA.t y12,CA.t y13]),some (BC.cells [CA.junk,CA.junk,CA.junk,CA.junk,CA.junk,CA.junk,CA.junk,CA.junk,CA.junk,CA.junk,CA.junk,CA.junk,CA.junk,CA.junk]),Tr w14,Tr w15] ++ Rz 60,[]⟩
def f24_1_S  (y0 y1 y2 y3 y4 y5 y6 y7 y8 y9 y10 y11 w12 w13:TV):ASt:=⟨[Jk,Pt 0,Pt 1] ++ Rj 37,[some (BC.cells [CA.t y0,CA.t y1,CA.sref 2 0 [],CA.t y2,CA.t y3,CA.sref 3 0 [],CA.t y4,CA.t y5,CA.t y6,CA.t y7,CA.t y8,CA.t y9,CA.t y10,CA.t y11]),some (BC.cells [CA.junk,CA.junk,CA.junk,CA.junk,CA.junk,CA.junk,CA.junk,CA.junk,CA.junk,CA.junk,CA.junk,CA.junk,CA.junk,CA.junk]),Tr w12,Tr w13] ++ Rz 60,[]⟩
def f24_M (x0:TV):Prg TV :=
 chk (TV.isAgg x0 14) (
 call 41 [cell x0 2] fun v0 =>
 chk (ac zSl [v0] 0) (
 call 42 [cell x0 5] fun v1 =>
 chk (ac zSl [v1] 0) (
 tv (plen (.slice 55) v1) fun v2 =>
 jmp [0,0,1,0,1,1,1] (f24_0_S v2 (I 0) (cell x0 0) (cell x0 1) (cell x0 3) (cell x0 4) (cell x0 6) (cell x0 7) (cell x0 8) (cell x0 9) (cell x0 10) (cell x0 11) (cell x0 12) (cell x0 13) v0 v1))))
def f24_0  (x0 x1 y2 y3 y4 y5 y6 y7 y8 y9 y10 y11 y12 y13 w14 w15:TV):Prg TV :=
 tv (pbin (.int .i64) .lss x1 x0) fun v3 =>
 Prg.ite (asBool v3) (
 nat (slLen w15) fun n4 =>
 nat (aK x1) fun n5 =>
 chk (Bool.and (slSize w15 7) (Nat.blt n5 n4)) (
 tvs (pel w15 n5) fun e6 =>
 chk (ac zSl e6 6) (
 tv (aI [(n5,6)] w15) fun v7 =>
 call 43 [frz v7] fun v8 =>
 chk (ac zSl [v8] 0) (
 nat (slLen w15) fun n9 =>
 nat (aK x1) fun n10 =>
 chk (Bool.and (slSize w15 7) (Nat.blt n10 n9)) (
 tvs (pel w15 n10) fun e11 =>
 chk (Bool.and (b8 zSl e11 6) (ac zSl [v8] 0)) (
 tv (gW [] w15 n10 6 [v8]) fun v12 =>
 tv (pbin (.int .i64) .add x1 (I 1)) fun v13 =>
 jmp [0,0,1,0,1,1,1] (f24_0_S x0 v13 y2 y3 y4 y5 y6 y7 y8 y9 y10 y11 y12 y13 w14 v12))))))) (
 jmp [1,1,1,1] (f24_1_S y2 y3 y4 y5 y6 y7 y8 y9 y10 y11 y12 y13 w14 w15))
def f24_1  (y0 y1 y2 y3 y4 y5 y6 y7 y8 y9 y10 y11 w12 w13:TV):Prg TV :=
 call 43 [y8] fun v14 =>
 chk (ac zSl [v14] 0) (
 chk (bT (agg [y0,y1,w12,y2,y3,w13,y4,y5,y6,y7,v14,y9,y10,y11])) (
 ret (agg [y0,y1,w12,y2,y3,w13,y4,y5,y6,y7,v14,y9,y10,y11])))
theorem f24_MR (x0:TV):aE prog 24 [x0]=f24_M x0:=by kernel_rfl
theorem f24_0_J  {x0 x1 y2 y3 y4 y5 y6 y7 y8 y9 y10 y11 y12 y13 w14 w15:TV} {r:TV} (h:aa prog 24 (f24_0 x0 x1 y2 y3 y4 y5 y6 y7 y8 y9 y10 y11 y12 y13 w14 w15) r):aa prog 24 (.jmp [0,0,1,0,1,1,1] (f24_0_S x0 x1 y2 y3 y4 y5 y6 y7 y8 y9 y10 y11 y12 y13 w14 w15)) r:=aa.jmp (by kernel_rfl) h
theorem f24_1_J  {y0 y1 y2 y3 y4 y5 y6 y7 y8 y9 y10 y11 w12 w13:TV} {r:TV} (h:aa prog 24 (f24_1 y0 y1 y2 y3 y4 y5 y6 y7 y8 y9 y10 y11 w12 w13) r):aa prog 24 (.jmp [1,1,1,1] (f24_1_S y0 y1 y2 y3 y4 y5 y6 y7 y8 y9 y10 y11 w12 w13)) r:=aa.jmp (by kernel_rfl) h
def f25_M (x0 x1:TV):Prg TV :=
 chk (TV.isAgg x0 14) (
 call 27 [agg [cell x0 0,cell x0 1,cell x0 2,cell x0 3,cell x0 4,cell x0 5,cell x0 6,cell x0 7,cell x0 8,cell x0 9,cell x0 10,cell x0 11,cell x0 12,cell x0 13]] fun v0 =>
 chk (ac aD [v0] 0) (
 Prg.ite (asBool v0) (
 tvs (pidx 1 x1 (cell x0 9)) fun e1 =>
 chk (Nat.blt 0 (List.length e1)) (
 tv (pun .not (nth hole e1 0)) fun v2 =>
 ret v2)) (
 ret (B false))))
theorem f25_MR (x0 x1:TV):aE prog 25 [x0,x1]=f25_M x0 x1:=by kernel_rfl
def f27_M (x0:TV):Prg TV :=
 chk (TV.isAgg x0 14) (
 tv (pbin (.int .i64) .eql (cell x0 6) (I 4)) fun v0 =>
 ret v0)
theorem f27_MR (x0:TV):aE prog 27 [x0]=f27_M x0:=by kernel_rfl
def f28_0_S  (x0 y1 y2 y3 y4 y5 y6:TV):ASt:=⟨[Jk,Jk,Pt 0,Pt 1,Jk,AV.tv x0] ++ Rj 90,[some (BC.cells [CA.t y1,CA.t y2,CA.t y3]),some (BC.cells [CA.t y4,CA.t y5,CA.t y6])] ++ Rz 118,[]⟩
def f28_1_S  (x0 x1 y2 y3 y4 y5 y6 y7 y8 y9 y10 y11 y12 y13 y14 y15 y16 y17 y18 y19 y20 y21 y22 y23 y24 y25 y26 y27 y28 y29 y30 y31 y32 y33 y34 y35:TV):ASt:=⟨[Jk,Jk,Pt 0,Pt 1,Jk,AV.tv x0,Pt 2,Pt 3,AV.tv x1] ++ Rj 87,[some (BC.cells [CA.t y2,CA.t y3,CA.t y4]),some (BC.cells [CA.t y5,CA.t y6,CA.t y7]),some (BC.cells [CA.t y8,CA.t y9,CA.t y10,CA.t y11,CA.t y12,CA.t y13,CA.t y14,CA.t y15,CA.t y16,CA.t y17,CA.t y18,CA.t y19,CA.t y20,CA.t y21]),some (BC.cells [CA.t y22,CA.t y23,CA.t y24,CA.t y25,CA.t y26,CA.t y27,CA.t y28,CA.t y29,CA.t y30,CA.t y31,CA.t y32,CA.t y33,CA.t y34,CA.t y35])] ++ Rz 116,[]⟩
def f28_M (x0 x1:TV):Prg TV :=
 chk (TV.isAgg x0 3) (
 chk (TV.isAgg x1 3) (
 tv (pbin (.int .i64) .neq (cell x0 0) (cell x1 0)) fun v0 =>
 Prg.ite (asBool v0) (
 ret (B false)) (
 tv (pbin (.int .i64) .neq (cell x0 1) (cell x1 1)) fun v1 =>
 Prg.ite (asBool v1) (
 ret (B false)) (
 tv (plen (.slice 48) (cell x0 2)) fun v2 =>
 tv (plen (.slice 48) (cell x1 2)) fun v3 =>
 tv (pbin (.int .i64) .neq v2 v3) fun v4 =>
 Prg.ite (asBool v4) (
 ret (B false)) (
 jmp [0,0,1,0,1,1] (f28_0_S (I 0) (cell x0 0) (cell x0 1) (cell x0 2) (cell x1 0) (cell x1 1) (cell x1 2)))))))
def f28_0  (x0 y1 y2 y3 y4 y5 y6:TV):Prg TV :=
 tv (plen (.slice 48) y3) fun v5 =>
 tv (pbin (.int .i64) .lss x0 v5) fun v6 =>
 Prg.ite (asBool v6) (
 tvs (pidx 14 y3 x0) fun e7 =>
 chk (Nat.ble 14 (List.length e7)) (
 tvs (pidx 14 y6 x0) fun e8 =>
 chk (Nat.ble 14 (List.length e8)) (
 tv (pbin Kd.bool .neq (nth hole e7 0) (nth hole e8 0)) fun v9 =>
 Prg.ite (asBool v9) (
 ret (B false)) (
 call 44 [agg [nth hole e7 1,nth hole e7 2,nth hole e7 3,nth hole e7 4],agg [nth hole e8 1,nth hole e8 2,nth hole e8 3,nth hole e8 4]] fun v10 =>
 chk (ac aD [v10] 0) (
 tv (pun .not v10) fun v11 =>
 Prg.ite (asBool v11) (
 ret (B false)) (
 call 20 [agg [nth hole e7 6,nth hole e7 7,nth hole e7 8,nth hole e7 9,nth hole e7 10,nth hole e7 11,nth hole e7 12,nth hole e7 13],agg [nth hole e8 6,nth hole e8 7,nth hole e8 8,nth hole e8 9,nth hole e8 10,nth hole e8 11,nth hole e8 12,nth hole e8 13]] fun v12 =>
 chk (ac aD [v12] 0) (
 tv (pun .not v12) fun v13 =>
 Prg.ite (asBool v13) (
 ret (B false)) (
 tv (plen (.slice 55) (nth hole e7 5)) fun v14 =>
 tv (plen (.slice 55) (nth hole e8 5)) fun v15 =>
 tv (pbin (.int .i64) .neq v14 v15) fun v16 =>
 Prg.ite (asBool v16) (
 ret (B false)) (
 jmp [0,0,1,1,1,0,0,1,0,0,1,0,1,1] (f28_1_S x0 (I 0) y1 y2 y3 y4 y5 y6 (nth hole e7 0) (nth hole e7 1) (nth hole e7 2) (nth hole e7 3) (nth hole e7 4) (nth hole e7 5) (nth hole e7 6) (nth hole e7 7) (nth hole e7 8) (nth hole e7 9) (nth hole e7 10) (nth hole e7 11) (nth hole e7 12) (nth hole e7 13) (nth hole e8 0) (nth hole e8 1) (nth hole e8 2) (nth hole e8 3) (nth hole e8 4) (nth hole e8 5) (nth hole e8 6) (nth hole e8 7) (nth hole e8 8) (nth hole e8 9) (nth hole e8 10) (nth hole e8 11) (nth hole e8 12) (nth hole e8 13))))))))))) (
 ret (B true))
def f28_1  (x0 x1 y2 y3 y4 y5 y6 y7 y8 y9 y10 y11 y12 y13 y14 y15 y16 y17 y18 y19 y20 y21 y22 y23 y24 y25 y26 y27 y28 y29 y30 y31 y32 y33 y34 y35:TV):Prg TV :=
 tv (plen (.slice 55) y13) fun v17 =>
 tv (pbin (.int .i64) .lss x1 v17) fun v18 =>
 Prg.ite (asBool v18) (
 tvs (pidx 7 y13 x1) fun e19 =>
 chk (Nat.ble 7 (List.length e19)) (
 tvs (pidx 7 y27 x1) fun e20 =>
 chk (Nat.ble 7 (List.length e20)) (
 call 21 [agg [nth hole e19 0,nth hole e19 1,nth hole e19 2,nth hole e19 3,nth hole e19 4,nth hole e19 5,nth hole e19 6],agg [nth hole e20 0,nth hole e20 1,nth hole e20 2,nth hole e20 3,nth hole e20 4,nth hole e20 5,nth hole e20 6]] fun v21 =>
 chk (ac aD [v21] 0) (
 tv (pun .not v21) fun v22 =>
 Prg.ite (asBool v22) (
 ret (B false)) (
 tv (pbin (.int .i64) .add x1 (I 1)) fun v23 =>
 jmp [0,0,1,1,1,0,0,1,0,0,1,0,1,1] (f28_1_S x0 v23 y2 y3 y4 y5 y6 y7 y8 y9 y10 y11 y12 y13 y14 y15 y16 y17 y18 y19 y20 y21 y22 y23 y24 y25 y26 y27 y28 y29 y30 y31 y32 y33 y34 y35)))))) (
 tv (pbin (.int .i64) .add x0 (I 1)) fun v24 =>
 jmp [0,0,1,0,1,1] (f28_0_S v24 y2 y3 y4 y5 y6 y7))
theorem f28_MR (x0 x1:TV):aE prog 28 [x0,x1]=f28_M x0 x1:=by kernel_rfl
theorem f28_0_J  {x0 y1 y2 y3 y4 y5 y6:TV} {r:TV} (h:aa prog 28 (f28_0 x0 y1 y2 y3 y4 y5 y6) r):aa prog 28 (.jmp [0,0,1,0,1,1] (f28_0_S x0 y1 y2 y3 y4 y5 y6)) r:=aa.jmp (by kernel_rfl) h
theorem f28_1_J  {x0 x1 y2 y3 y4 y5 y6 y7 y8 y9 y10 y11 y12 y13 y14 y15 y16 y17 y18 y19 y20 y21 y22 y23 y24 y25 y26 y27 y28 y29 y30 y31 y32 y33 y34 y35:TV} {r:TV} (h:aa prog 28 (f28_1 x0 x1 y2 y3 y4 y5 y6 y7 y8 y9 y10 y11 y12 y13 y14 y15 y16 y17 y18 y19 y20 y21 y22 y23 y24 y25 y26 y27 y28 y29 y30 y31 y32 y33 y34 y35) r):aa prog 28 (.jmp [0,0,1,1,1,0,0,1,0,0,1,0,1,1] (f28_1_S x0 x1 y2 y3 y4 y5 y6 y7 y8 y9 y10 y11 y12 y13 y14 y15 y16 y17 y18 y19 y20 y21 y22 y23 y24 y25 y26 y27 y28 y29 y30 y31 y32 y33 y34 y35)) r:=aa.jmp (by kernel_rfl) h
def f32_0_S  (x0 x1 x2 y3 y4 y5 y6:TV):ASt:=⟨Rj 5 ++ [Pt 0] ++ Rj 44 ++ [AV.tv x0,AV.tv x1,AV.tv x2] ++ Rj 8,[some (BC.cells [CA.t y3,CA.t y4,CA.t y5,CA.t y6])] ++ Rz 84,[]⟩
def f32_M (x0 x1:TV):Prg TV :=
 chk (TV.isAgg x0 1) (
 chk (TV.isAgg x1 3) (
 tv (pbin (.int .i64) .lss (cell x1 0) (I 0)) fun v0 =>
 Prg.ite (asBool v0) (
 ret (B false)) (
 tv (pbin (.int .i64) .gtr (cell x1 0) (I 8)) fun v1 =>
 Prg.ite (asBool v1) (
 ret (B false)) (
 tv (pbin (.int .i64) .lss (cell x1 1) (cell x1 0)) fun v2 =>
 Prg.ite (asBool v2) (
 ret (B false)) (
 tv (pbin (.int .i64) .gtr (cell x1 1) (I 256)) fun v3 =>
 Prg.ite (asBool v3) (
 ret (B false)) (
 tv (plen (.slice 48) (cell x1 2)) fun v4 =>
 tv (pbin (.int .i64) .lss v4 (I 1)) fun v5 =>
 Prg.ite (asBool v5) (
 ret (B false)) (
 tv (plen (.slice 48) (cell x1 2)) fun v6 =>
 tv (pbin (.int .i64) .gtr v6 (I 64)) fun v7 =>
 Prg.ite (asBool v7) (
 ret (B false)) (
 tvs (pidx 14 (cell x1 2) (I 0)) fun e8 =>
 chk (Nat.blt 0 (List.length e8)) (
 Prg.ite (asBool (nth hole e8 0)) (
 ret (B false)) (
 tv (plen (.slice 48) (cell x1 2)) fun v9 =>
 jmp [0,0,1,0,1,1,1,1] (f32_0_S (cell x1 2) v9 (I 0) (cell x0 0) (cell x1 0) (cell x1 1) (cell x1 2))))))))))))
def f32_0  (x0 x1 x2 y3 y4 y5 y6:TV):Prg TV :=
 tv (pbin (.int .i64) .lss x2 x1) fun v10 =>
 Prg.ite (asBool v10) (
 tvs (pidx 14 x0 x2) fun e11 =>
 chk (Nat.ble 14 (List.length e11)) (
 call 49 [agg [y3,y4,y5,y6],agg [nth hole e11 0,nth hole e11 1,nth hole e11 2,nth hole e11 3,nth hole e11 4,nth hole e11 5,nth hole e11 6,nth hole e11 7,nth hole e11 8,nth hole e11 9,nth hole e11 10,nth hole e11 11,nth hole e11 12,nth hole e11 13]] fun v12 =>
 chk (ac aD [v12] 0) (
 tv (pun .not v12) fun v13 =>
 Prg.ite (asBool v13) (
 ret (B false)) (
 tv (pbin (.int .i64) .add x2 (I 1)) fun v14 =>
 jmp [0,0,1,0,1,1,1,1] (f32_0_S x0 x1 v14 y3 y4 y5 y6))))) (
 ret (B true))
theorem f32_MR (x0 x1:TV):aE prog 32 [x0,x1]=f32_M x0 x1:=by kernel_rfl
theorem f32_0_J  {x0 x1 x2 y3 y4 y5 y6:TV} {r:TV} (h:aa prog 32 (f32_0 x0 x1 x2 y3 y4 y5 y6) r):aa prog 32 (.jmp [0,0,1,0,1,1,1,1] (f32_0_S x0 x1 x2 y3 y4 y5 y6)) r:=aa.jmp (by kernel_rfl) h
def f35_0_S  (x0 x1 x2 y3:TV):ASt:=⟨[AV.tv x0,AV.clo 53 [CA.ptr 0 0]] ++ Rj 5 ++ [AV.tv x1,AV.tv x2] ++ Rj 10,[Ct y3] ++ Rz 60,Rj 18⟩
def f35_M (x0 x1:TV):Prg TV :=
 chk (TV.isAgg x0 14) (
 chk (TV.gx x1) (
 tv (plen (.slice 55) (cell x0 5)) fun v0 =>
 jmp [0,0,1,0,1,6,0,1,8,0,1] (f35_0_S (cell x0 5) v0 (I 0) x1)))
def f35_0  (x0 x1 x2 y3:TV):Prg TV :=
 tv (pbin (.int .i64) .lss x2 x1) fun v1 =>
 Prg.ite (asBool v1) (
 tvs (pidx 7 x0 x2) fun e2 =>
 chk (Nat.ble 7 (List.length e2)) (
 tv (pbin (.int .i64) .eql (nth hole e2 0) (I 11)) fun v3 =>
 Prg.ite (asBool v3) (
 tvs (pidx 1 y3 (nth hole e2 5)) fun e4 =>
 chk (Nat.blt 0 (List.length e4)) (
 Prg.ite (asBool (nth hole e4 0)) (
 tv (pbin (.int .i64) .geq x2 (I 0)) fun v5 =>
 ret v5) (
 tv (pbin (.int .i64) .add x2 (I 1)) fun v6 =>
 jmp [0,0,1,0,1,6,0,1,8,0,1] (f35_0_S x0 x1 v6 y3)))) (
 tv (pbin (.int .i64) .add x2 (I 1)) fun v7 =>
 jmp [0,0,1,0,1,6,0,1,8,0,1] (f35_0_S x0 x1 v7 y3)))) (
 tv (pbin (.int .i64) .geq (TV.lit (Value.int IntKind.i64 (-1))) (I 0)) fun v8 =>
 ret v8)
theorem f35_MR (x0 x1:TV):aE prog 35 [x0,x1]=f35_M x0 x1:=by kernel_rfl
theorem f35_0_J  {x0 x1 x2 y3:TV} {r:TV} (h:aa prog 35 (f35_0 x0 x1 x2 y3) r):aa prog 35 (.jmp [0,0,1,0,1,6,0,1,8,0,1] (f35_0_S x0 x1 x2 y3)) r:=aa.jmp (by kernel_rfl) h
def f36_M (x0 x1:TV):Prg TV :=
 chk (TV.isAgg x0 14) (
 tv (pbin (.int .i64) .eql (cell x0 6) (I 4)) fun v0 =>
 Prg.ite (asBool v0) (
 tvs (pidx 1 x1 (cell x0 9)) fun e1 =>
 chk (Nat.blt 0 (List.length e1)) (
 ret (nth hole e1 0))) (
 ret (B false)))
theorem f36_MR (x0 x1:TV):aE prog 36 [x0,x1]=f36_M x0 x1:=by kernel_rfl
def f40_0_S  (x0 x1 x2:TV):ASt:=⟨[AV.tv x0,AV.tv x1,Jk,Jk,Jk,AV.tv x2] ++ Rj 20,Rz 50,[]⟩
def f40_M (x0 x1:TV):Prg TV :=
 tv (plen (.slice 3) x0) fun v0 =>
 tv (plen (.slice 3) x1) fun v1 =>
 tv (pbin (.int .i64) .neq v0 v1) fun v2 =>
 Prg.ite (asBool v2) (
 ret (B false)) (
 jmp [0,0,1,0,1,1] (f40_0_S x0 x1 (I 0)))
def f40_0  (x0 x1 x2:TV):Prg TV :=
 tv (plen (.slice 3) x0) fun v3 =>
 tv (pbin (.int .i64) .lss x2 v3) fun v4 =>
 Prg.ite (asBool v4) (
 tvs (pidx 1 x0 x2) fun e5 =>
 chk (Nat.blt 0 (List.length e5)) (
 tvs (pidx 1 x1 x2) fun e6 =>
 chk (Nat.blt 0 (List.length e6)) (
 tv (pbin (.int .i64) .neq (nth hole e5 0) (nth hole e6 0)) fun v7 =>
 Prg.ite (asBool v7) (
 ret (B false)) (
 tv (pbin (.int .i64) .add x2 (I 1)) fun v8 =>
 jmp [0,0,1,0,1,1] (f40_0_S x0 x1 v8))))) (
 ret (B true))
theorem f40_MR (x0 x1:TV):aE prog 40 [x0,x1]=f40_M x0 x1:=by kernel_rfl
theorem f40_0_J  {x0 x1 x2:TV} {r:TV} (h:aa prog 40 (f40_0 x0 x1 x2) r):aa prog 40 (.jmp [0,0,1,0,1,1] (f40_0_S x0 x1 x2)) r:=aa.jmp (by kernel_rfl) h
def f41_M (x0:TV):Prg TV :=
 tv (pbin (.slice 53) .eql x0 (TV.lit bm)) fun v0 =>
 Prg.ite (asBool v0) (
 chk true (
 ret (TV.lit bm))) (
 tv (plen (.slice 53) x0) fun v1 =>
 nat (aK v1) fun n2 =>
 nat (aK v1) fun n3 =>
 chk (Bool.and (Nat.ble n2 n3) (Nat.ble n3 4294967296)) (
 rws (pelems 1 x0) fun r4 =>
 tv (pcopy 1 (TV.sl true 1 (List.replicate n2 [W 0])) r4) fun v5 =>
 nat (slLen (TV.sl true 1 (List.replicate n2 [W 0]))) fun n6 =>
 chk (bT v5) (
 ret v5)))
theorem f41_MR (x0:TV):aE prog 41 [x0]=f41_M x0:=by kernel_rfl
def f42_M (x0:TV):Prg TV :=
 tv (pbin (.slice 55) .eql x0 (TV.lit bm)) fun v0 =>
 Prg.ite (asBool v0) (
 ret (TV.lit bm)) (
 tv (plen (.slice 55) x0) fun v1 =>
 nat (aK v1) fun n2 =>
 nat (aK v1) fun n3 =>
 chk (Bool.and (Nat.ble n2 n3) (Nat.ble n3 4294967296)) (
 rws (pelems 7 x0) fun r4 =>
 tv (pcopy 7 (TV.sl true 7 (List.replicate n2 [I 0,I 0,I 0,I 0,W 0,I 0,TV.lit bm])) r4) fun v5 =>
 nat (slLen (TV.sl true 7 (List.replicate n2 [I 0,I 0,I 0,I 0,W 0,I 0,TV.lit bm]))) fun n6 =>
 ret v5))
theorem f42_MR (x0:TV):aE prog 42 [x0]=f42_M x0:=by kernel_rfl
def f43_M (x0:TV):Prg TV :=
 tv (pbin (.slice 3) .eql x0 (TV.lit bm)) fun v0 =>
 Prg.ite (asBool v0) (
 chk true (
 ret (TV.lit bm))) (
 tv (plen (.slice 3) x0) fun v1 =>
 nat (aK v1) fun n2 =>
 nat (aK v1) fun n3 =>
 chk (Bool.and (Nat.ble n2 n3) (Nat.ble n3 4294967296)) (
 rws (pelems 1 x0) fun r4 =>
 tv (pcopy 1 (TV.sl true 1 (List.replicate n2 [I 0])) r4) fun v5 =>
 nat (slLen (TV.sl true 1 (List.replicate n2 [I 0]))) fun n6 =>
 chk (bT v5) (
 ret v5)))
theorem f43_MR (x0:TV):aE prog 43 [x0]=f43_M x0:=by kernel_rfl
def f44_0_S  (x0 y1 y2 y3 y4 y5 y6 y7 y8:TV):ASt:=⟨[Jk,Jk,Pt 0,Pt 1,Jk,AV.tv x0] ++ Rj 46,[some (BC.cells [CA.t y1,CA.t y2,CA.t y3,CA.t y4]),some (BC.cells [CA.t y5,CA.t y6,CA.t y7,CA.t y8])] ++ Rz 74,[]⟩
def f44_M (x0 x1:TV):Prg TV :=
 chk (TV.isAgg x0 4) (
 chk (TV.isAgg x1 4) (
 tv (pbin (.int .i64) .neq (cell x0 0) (cell x1 0)) fun v0 =>
 Prg.ite (asBool v0) (
 ret (B false)) (
 tv (pbin Kd.bool .neq (cell x0 2) (cell x1 2)) fun v1 =>
 Prg.ite (asBool v1) (
 ret (B false)) (
 tv (pbin Kd.bool .neq (cell x0 3) (cell x1 3)) fun v2 =>
 Prg.ite (asBool v2) (
 ret (B false)) (
 tv (plen (.slice 53) (cell x0 1)) fun v3 =>
 tv (plen (.slice 53) (cell x1 1)) fun v4 =>
 tv (pbin (.int .i64) .neq v3 v4) fun v5 =>
 Prg.ite (asBool v5) (
 ret (B false)) (
 jmp [0,0,1,0,1,1] (f44_0_S (I 0) (cell x0 0) (cell x0 1) (cell x0 2) (cell x0 3) (cell x1 0) (cell x1 1) (cell x1 2) (cell x1 3))))))))
def f44_0  (x0 y1 y2 y3 y4 y5 y6 y7 y8:TV):Prg TV :=
 tv (plen (.slice 53) y2) fun v6 =>
 tv (pbin (.int .i64) .lss x0 v6) fun v7 =>
 Prg.ite (asBool v7) (
 tvs (pidx 1 y2 x0) fun e8 =>
 chk (Nat.blt 0 (List.length e8)) (
 tvs (pidx 1 y6 x0) fun e9 =>
 chk (Nat.blt 0 (List.length e9)) (
 tv (pbin (.int .u16) .neq (nth hole e8 0) (nth hole e9 0)) fun v10 =>
 Prg.ite (asBool v10) (
 ret (B false)) (
 tv (pbin (.int .i64) .add x0 (I 1)) fun v11 =>
 jmp [0,0,1,0,1,1] (f44_0_S v11 y1 y2 y3 y4 y5 y6 y7 y8))))) (
 ret (B true))
theorem f44_MR (x0 x1:TV):aE prog 44 [x0,x1]=f44_M x0 x1:=by kernel_rfl
theorem f44_0_J  {x0 y1 y2 y3 y4 y5 y6 y7 y8:TV} {r:TV} (h:aa prog 44 (f44_0 x0 y1 y2 y3 y4 y5 y6 y7 y8) r):aa prog 44 (.jmp [0,0,1,0,1,1] (f44_0_S x0 y1 y2 y3 y4 y5 y6 y7 y8)) r:=aa.jmp (by kernel_rfl) h
end Go.Ab.C14
end

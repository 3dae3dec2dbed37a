import Derived.Test.YthfcodidfelpoaaGD13T
set_option linter.all false
set_option maxRecDepth 100000
namespace Go.Ab.D13
open Go Go.Ab Go.Proofs
open Go.Ab.TV (hole cell comp isSl isSc isTup cellsL tup agg)
open Go.Ab.Prg (tv tvs rws nat chk call jmp ret)
def f13_0_S  (x0 y1:TV):ASt:=⟨[Jk,Pt 0,Jk,AV.tv x0] ++ Rj 33,[Ct y1] ++ Rz 60,[]⟩
def f13_M (x0:TV):Prg TV :=
 chk (TV.isAgg x0 1) (
 tv (plen (.slice 27) (cell x0 0)) fun v0 =>
 tv (pbin (.int .i64) .eql v0 (I 0)) fun v1 =>
 Prg.ite (asBool v1) (
 ret (B false)) (
 tv (plen (.slice 27) (cell x0 0)) fun v2 =>
 tv (pbin (.int .i64) .gtr v2 (I 16)) fun v3 =>
 Prg.ite (asBool v3) (
 ret (B false)) (
 tvs (pidx 3 (cell x0 0) (I 0)) fun e4 =>
 chk (Nat.blt 0 (List.length e4)) (
 tv (pbin (.int .i64) .neq (nth hole e4 0) (I 0)) fun v5 =>
 Prg.ite (asBool v5) (
 ret (B false)) (
 jmp [0,0,1,0,1,1] (f13_0_S (I 0) (cell x0 0)))))))
def f13_0  (x0 y1:TV):Prg TV :=
 tv (plen (.slice 27) y1) fun v6 =>
 tv (pbin (.int .i64) .lss x0 v6) fun v7 =>
 Prg.ite (asBool v7) (
 tvs (pidx 3 y1 x0) fun e8 =>
 chk (Nat.ble 3 (List.length e8)) (
 call 33 [agg [y1],agg [nth hole e8 0,nth hole e8 1,nth hole e8 2]] fun v9 =>
 chk (ab ao [v9] 0) (
 tv (pun .not v9) fun v10 =>
 Prg.ite (asBool v10) (
 ret (B false)) (
 tv (pbin (.int .i64) .add x0 (I 1)) fun v11 =>
 jmp [0,0,1,0,1,1] (f13_0_S v11 y1))))) (
 ret (B true))
theorem f13_MR (x0:TV):au prog 13 [x0]=f13_M x0:=by kernel_rfl
theorem f13_0_J  {x0 y1:TV} {r:TV} (h:aa prog 13 (f13_0 x0 y1) r):aa prog 13 (.jmp [0,0,1,0,1,1] (f13_0_S x0 y1)) r:=aa.jmp (by kernel_rfl) h
def f14_0_S  (x0 y1 w2:TV):ASt:=⟨[Jk,Pt 0,Pt 1,Pt 2,AV.tv x0] ++ Rj 134,[Ct y1,some (BC.cells [CA.junk]),some (BC.cells [CA.sref 3 0 []]),Tr w2] ++ Rz 159,[]⟩
def f14_1_S  (w0:TV):ASt:=⟨[Jk,Jk,Pt 0,Pt 1] ++ Rj 135,[some (BC.cells [CA.junk]),some (BC.cells [CA.sref 2 0 []]),Tr w0] ++ Rz 160,[]⟩
def f14_2_S  (x0 y1 w2 w3:TV):ASt:=⟨[Jk,Jk,Pt 0,Pt 1,Jk,Sr 2,Sr 3,AV.tv x0] ++ Rj 131,[some (BC.cells [CA.junk]),Ct y1,Tr w2,Tr w3] ++ Rz 159,[]⟩
def f14_3_S  (y0 w1:TV):ASt:=⟨[Jk,Jk,Pt 0,Pt 1,Jk,Jk,Sr 2] ++ Rj 132,[some (BC.cells [CA.junk]),Ct y0,Tr w1] ++ Rz 160,[]⟩
def f14_4_S  (x0 y1 w2 w3:TV):ASt:=⟨[Jk,Jk,Pt 0,Pt 1,Jk,Jk,Sr 2,Jk,Pt 3,AV.tv x0] ++ Rj 129,[some (BC.cells [CA.junk]),Ct y1,Tr w2,some (BC.cells [CA.sref 4 0 []]),Tr w3] ++ Rz 158,[]⟩
def f14_5_S  (x0 x1 y2 w3 y4 y5 y6 w7 w8:TV):ASt:=⟨[Jk,Jk,Pt 0,Pt 1,Jk,Jk,Sr 2,Jk,Pt 3,AV.tv x0,Pt 4,Sr 5,AV.tv x1] ++ Rj 126,[some (BC.cells [CA.junk]),Ct y2,Tr w3,some (BC.cells [CA.sref 6 0 []]),some (BC.cells [CA.t y4,CA.t y5,CA.t y6]),Tr w7,Tr w8] ++ Rz 156,[]⟩
def f14_6_S  (x0 x1 x2 y3 w4 y5 y6 y7 w8 y9 y10 y11 y12 y13 y14 y15 y16 y17 y18 y19 y20 y21 w22 w23:TV):ASt:=⟨[Jk,Jk,Pt 0,Pt 1,Jk,Jk,Sr 2,Jk,Pt 3,AV.tv x0,Pt 4,Sr 5,AV.tv x1,Pt 6,AV.tv x2] ++ Rj 124,[some (BC.cells [CA.junk]),Ct y3,Tr w4,some (BC.cells [CA.sref 7 0 []]),some (BC.cells [CA.t y5,CA.t y6,CA.t y7]),Tr w8,some (BC.cells [CA.t y9,CA.t y10,CA.t y11,CA.t y12,CA.t y13,CA.sref 8 0 [],CA.t y14,CA.t y15,CA.t y16,CA.t y17,CA.t y18,CA.t y19,CA.t y20,CA.t y21]),Tr w22,Tr w23] ++ Rz 154,[]⟩
def f14_7_S  (x0 y1 w2 y3 y4 y5 w6 w7:TV):ASt:=⟨[Jk,Jk,Pt 0,Pt 1,Jk,Jk,Sr 2,Jk,Pt 3,AV.tv x0,Pt 4,Sr 5] ++ Rj 127,[some (BC.cells [CA.junk]),Ct y1,Tr w2,some (BC.cells [CA.sref 6 0 []]),some (BC.cells [CA.t y3,CA.t y4,CA.t y5]),Tr w6,Tr w7] ++ Rz 156,[]⟩
def f14_8_S  (x0 x1 y2 w3 y4 y5 y6 w7 y8 y9 y10 y11 y12 y13 y14 y15 y16 y17 y18 y19 y20 w21 w22:TV):ASt:=⟨[Jk,Jk,Pt 0,Pt 1,Jk,Jk,Sr 2,Jk,Pt 3,AV.tv x0,Pt 4,Sr 5,AV.tv x1,Pt 6] ++ Rj 125,[some (BC.cells [CA.junk]),Ct y2,Tr w3,some (BC.cells [CA.sref 7 0 []]),some (BC.cells [CA.t y4,CA.t y5,CA.t y6]),Tr w7,some (BC.cells [CA.t y8,CA.t y9,CA.t y10,CA.t y11,CA.t y12,CA.sref 8 0 [],CA.t y13,CA.t y14,CA.t y15,CA.t y16,CA.t y17,CA.t y18,CA.t y19,CA.t y20]),Tr w21,Tr w22] ++ Rz 154,[]⟩
def f14_9_S  (x0 x1 y2 w3 y4 y5 y6 w7 y8 y9 y10 y11 y12 y13 y14 y15 y16 y17 y18 y19 y20 w21 w22:TV):ASt:=⟨[Jk,Jk,Pt 0,Pt 1,Jk,Jk,Sr 2,Jk,Pt 3,AV.tv x0,Pt 4,Sr 5,AV.tv x1,Pt 6] ++ Rj 125,[some (BC.cells [CA.junk]),Ct y2,Tr w3,some (BC.cells [CA.sref 7 0 []]),some (BC.cells [CA.t y4,CA.t y5,CA.t y6]),Tr w7,some (BC.cells [CA.t y8,CA.t y9,CA.t y10,CA.t y11,CA.t y12,CA.sref 8 0 [],CA.t y13,CA.t y14,CA.t y15,CA.t y16,CA.t y17,CA.t y18,CA.t y19,CA.t y20]),Tr w21,Tr w22] ++ Rz 154,[]⟩
def f14_M (x0:TV):Prg TV :=
 chk (TV.isAgg x0 1) (
 chk true (
 jmp [0,0,1,0,1,1] (f14_0_S (I 0) (cell x0 0) (TV.lit aB))))
def f14_0  (x0 y1 w2:TV):Prg TV :=
 tv (plen (.slice 27) y1) fun v0 =>
 tv (pbin (.int .i64) .lss x0 v0) fun v1 =>
 Prg.ite (asBool v1) (
 tvs (pidx 3 y1 x0) fun e2 =>
 chk (Nat.ble 3 (List.length e2)) (
 call 12 [agg [nth hole e2 0,nth hole e2 1,nth hole e2 2]] fun v3 =>
 chk (Bool.and (TV.isAgg v3 3) (ab ez (cellsL true v3) 0)) (
 rws (pelems 3 (TV.sl true 3 (chunks 3 1 [cell v3 0,cell v3 1,cell v3 2]))) fun r4 =>
 tv (papp 3 w2 r4) fun v5 =>
 tv (pbin (.int .i64) .add x0 (I 1)) fun v6 =>
 jmp [0,0,1,0,1,1] (f14_0_S v6 y1 v5)))) (
 jmp [1,1,1] (f14_1_S w2))
def f14_1  (w0:TV):Prg TV :=
 call 34 [agg [frz w0],I 0] fun v7 =>
 chk (ab zSl [v7] 0) (
 tv (plen (.slice 27) w0) fun v8 =>
 nat (af v8) fun n9 =>
 nat (af v8) fun n10 =>
 chk (Bool.and (Nat.ble n9 n10) (Nat.ble n10 4294967296)) (
 jmp [0,0,1,0,1,1,1,1,1] (f14_2_S (I 0) (frz w0) v7 (TV.sl true 1 (List.replicate n9 [B false])))))
def f14_2  (x0 y1 w2 w3:TV):Prg TV :=
 tv (plen (.slice 4) w3) fun v11 =>
 tv (pbin (.int .i64) .lss x0 v11) fun v12 =>
 Prg.ite (asBool v12) (
 tv (pbin (.int .i64) .eql x0 (I 0)) fun v13 =>
 Prg.ite (asBool v13) (
 nat (slLen w3) fun n14 =>
 nat (af x0) fun n15 =>
 chk (Bool.and (slSize w3 1) (Nat.blt n15 n14)) (
 tvs (pel w3 n15) fun e16 =>
 chk (ab ao e16 0) (
 tv (df [] w3 n15 0 [B true]) fun v17 =>
 tv (pbin (.int .i64) .add x0 (I 1)) fun v18 =>
 jmp [0,0,1,0,1,1,1,1,1] (f14_2_S v18 y1 w2 v17)))) (
 call 35 [frz w2,x0] fun v19 =>
 chk (ab ao [v19] 0) (
 nat (slLen w3) fun n20 =>
 nat (af x0) fun n21 =>
 chk (Bool.and (slSize w3 1) (Nat.blt n21 n20)) (
 tvs (pel w3 n21) fun e22 =>
 chk (ab ao e22 0) (
 tv (df [] w3 n21 0 [v19]) fun v23 =>
 tv (pbin (.int .i64) .add x0 (I 1)) fun v24 =>
 jmp [0,0,1,0,1,1,1,1,1] (f14_2_S v24 y1 w2 v23)))))) (
 jmp [1,1,1,1,1,1] (f14_3_S y1 w3))
def f14_3  (y0 w1:TV):Prg TV :=
 chk true (
 jmp [0,0,1,0,1,1,1,1,1,1,1] (f14_4_S (I 0) y0 w1 (TV.lit aB)))
def f14_4  (x0 y1 w2 w3:TV):Prg TV :=
 tv (plen (.slice 4) w2) fun v25 =>
 tv (pbin (.int .i64) .lss x0 v25) fun v26 =>
 Prg.ite (asBool v26) (
 nat (slLen w2) fun n27 =>
 nat (af x0) fun n28 =>
 chk (Bool.and (slSize w2 1) (Nat.blt n28 n27)) (
 tvs (pel w2 n28) fun e29 =>
 chk (ab ao e29 0) (
 tv (pun .not (nth hole e29 0)) fun v30 =>
 Prg.ite (asBool v30) (
 tv (pbin (.int .i64) .add x0 (I 1)) fun v31 =>
 jmp [0,0,1,0,1,1,1,1,1,1,1] (f14_4_S v31 y1 w2 w3)) (
 tvs (pidx 3 y1 x0) fun e32 =>
 chk (Nat.ble 3 (List.length e32)) (
 chk true (
 jmp [0,0,1,0,1,1,1,0,0,1,0,0,1,0,1,1,1,1,1,1,1] (f14_5_S x0 (I 0) y1 w2 (nth hole e32 0) (nth hole e32 1) (nth hole e32 2) (TV.lit aB) w3))))))) (
 ret (agg [w3]))
def f14_5  (x0 x1 y2 w3 y4 y5 y6 w7 w8:TV):Prg TV :=
 tv (plen (.slice 46) y6) fun v33 =>
 tv (pbin (.int .i64) .lss x1 v33) fun v34 =>
 Prg.ite (asBool v34) (
 tvs (pidx 14 y6 x1) fun e35 =>
 chk (Nat.ble 14 (List.length e35)) (
 rws (pelems 7 (nth hole e35 5)) fun r36 =>
 tv (papp 7 (TV.sl true 7 (chunks 7 0 [])) r36) fun v37 =>
 jmp [0,0,1,0,1,1,0,0,1,0,0,1,0,1,1,1,0,0,1,0,0,1,0,1,1,1,1,1,1,1] (f14_6_S x0 x1 (I 0) y2 w3 y4 y5 y6 w7 (nth hole e35 0) (nth hole e35 1) (nth hole e35 2) (nth hole e35 3) (nth hole e35 4) (nth hole e35 6) (nth hole e35 7) (nth hole e35 8) (nth hole e35 9) (nth hole e35 10) (nth hole e35 11) (nth hole e35 12) (nth hole e35 13) w8 v37))) (
 jmp [1,1,1,1,0,0,1,0,0,1,0,1,1,1,1,1,1,1] (f14_7_S x0 y2 w3 y4 y5 y6 w7 w8))
def f14_6  (x0 x1 x2 y3 w4 y5 y6 y7 w8 y9 y10 y11 y12 y13 y14 y15 y16 y17 y18 y19 y20 y21 w22 w23:TV):Prg TV :=
 tv (plen (.slice 50) w23) fun v38 =>
 tv (pbin (.int .i64) .lss x2 v38) fun v39 =>
 Prg.ite (asBool v39) (
 nat (slLen w23) fun n40 =>
 nat (af x2) fun n41 =>
 chk (Bool.and (slSize w23 7) (Nat.blt n41 n40)) (
 tvs (pel w23 n41) fun e42 =>
 chk (ab ct e42 0) (
 tv (pbin (.int .i64) .eql (nth hole e42 0) (I 11)) fun v43 =>
 Prg.ite (asBool v43) (
 nat (slLen w23) fun n44 =>
 nat (af x2) fun n45 =>
 chk (Bool.and (slSize w23 7) (Nat.blt n45 n44)) (
 tvs (pel w23 n45) fun e46 =>
 chk (ab ct e46 5) (
 call 32 [frz w4,nth hole e46 5] fun v47 =>
 chk (ab ct [v47] 0) (
 nat (slLen w23) fun n48 =>
 nat (af x2) fun n49 =>
 chk (Bool.and (slSize w23 7) (Nat.blt n49 n48)) (
 tvs (pel w23 n49) fun e50 =>
 chk (ab ct e50 5) (
 tv (df [] w23 n49 5 [v47]) fun v51 =>
 tv (pbin (.int .i64) .add x2 (I 1)) fun v52 =>
 jmp [0,0,1,0,1,1,0,0,1,0,0,1,0,1,1,1,0,0,1,0,0,1,0,1,1,1,1,1,1,1] (f14_6_S x0 x1 v52 y3 w4 y5 y6 y7 w8 y9 y10 y11 y12 y13 y14 y15 y16 y17 y18 y19 y20 y21 w22 v51))))))) (
 tv (pbin (.int .i64) .add x2 (I 1)) fun v53 =>
 jmp [0,0,1,0,1,1,0,0,1,0,0,1,0,1,1,1,0,0,1,0,0,1,0,1,1,1,1,1,1,1] (f14_6_S x0 x1 v53 y3 w4 y5 y6 y7 w8 y9 y10 y11 y12 y13 y14 y15 y16 y17 y18 y19 y20 y21 w22 w23))))) (
 jmp [1,1,1,0,0,1,0,0,1,0,1,1,1,0,0,1,0,0,1,0,1,1,1,1,1,1,1] (f14_8_S x0 x1 y3 w4 y5 y6 y7 w8 y9 y10 y11 y12 y13 y14 y15 y16 y17 y18 y19 y20 y21 w22 w23))
def f14_7  (x0 y1 w2 y3 y4 y5 w6 w7:TV):Prg TV :=
 rws (pelems 3 (TV.sl true 3 (chunks 3 1 [y3,y4,w6]))) fun r54 =>
 tv (papp 3 w7 r54) fun v55 =>
 tv (pbin (.int .i64) .add x0 (I 1)) fun v56 =>
 jmp [0,0,1,0,1,1,1,1,1,1,1] (f14_4_S v56 y1 w2 v55)
def f14_8  (x0 x1 y2 w3 y4 y5 y6 w7 y8 y9 y10 y11 y12 y13 y14 y15 y16 y17 y18 y19 y20 w21 w22:TV):Prg TV :=
 tv (pbin (.int .i64) .eql y13 (I 4)) fun v57 =>
 Prg.ite (asBool v57) (
 call 32 [frz w3,y16] fun v58 =>
 chk (ab ct [v58] 0) (
 jmp [1,1,1,1,0,0,1,0,0,1,0,1,1,1,0,0,1,0,0,1,0,1,1,1,1,1,1,1] (f14_9_S x0 x1 y2 w3 y4 y5 y6 w7 y8 y9 y10 y11 y12 y13 y14 y15 v58 y17 y18 y19 y20 w21 w22))) (
 jmp [1,1,1,1,0,0,1,0,0,1,0,1,1,1,0,0,1,0,0,1,0,1,1,1,1,1,1,1] (f14_9_S x0 x1 y2 w3 y4 y5 y6 w7 y8 y9 y10 y11 y12 y13 y14 y15 y16 y17 y18 y19 y20 w21 w22))
def f14_9  (x0 x1 y2 w3 y4 y5 y6 w7 y8 y9 y10 y11 y12 y13 y14 y15 y16 y17 y18 y19 y20 w21 w22:TV):Prg TV :=
 rws (pelems 14 (TV.sl true 14 (chunks 14 1 [y8,y9,y10,y11,y12,w22,y13,y14,y15,y16,y17,y18,y19,y20]))) fun r59 =>
 tv (papp 14 w7 r59) fun v60 =>
 tv (pbin (.int .i64) .add x1 (I 1)) fun v61 =>
 jmp [0,0,1,0,1,1,1,0,0,1,0,0,1,0,1,1,1,1,1,1,1] (f14_5_S x0 v61 y2 w3 y4 y5 y6 v60 w21)
theorem f14_MR (x0:TV):au prog 14 [x0]=f14_M x0:=by kernel_rfl
theorem f14_0_J  {x0 y1 w2:TV} {r:TV} (h:aa prog 14 (f14_0 x0 y1 w2) r):aa prog 14 (.jmp [0,0,1,0,1,1] (f14_0_S x0 y1 w2)) r:=aa.jmp (by kernel_rfl) h
theorem f14_1_J  {w0:TV} {r:TV} (h:aa prog 14 (f14_1 w0) r):aa prog 14 (.jmp [1,1,1] (f14_1_S w0)) r:=aa.jmp (by kernel_rfl) h
theorem f14_2_J  {x0 y1 w2 w3:TV} {r:TV} (h:aa prog 14 (f14_2 x0 y1 w2 w3) r):aa prog 14 (.jmp [0,0,1,0,1,1,1,1,1] (f14_2_S x0 y1 w2 w3)) r:=aa.jmp (by kernel_rfl) h
theorem f14_3_J  {y0 w1:TV} {r:TV} (h:aa prog 14 (f14_3 y0 w1) r):aa prog 14 (.jmp [1,1,1,1,1,1] (f14_3_S y0 w1)) r:=aa.jmp (by kernel_rfl) h
theorem f14_4_J  {x0 y1 w2 w3:TV} {r:TV} (h:aa prog 14 (f14_4 x0 y1 w2 w3) r):aa prog 14 (.jmp [0,0,1,0,1,1,1,1,1,1,1] (f14_4_S x0 y1 w2 w3)) r:=aa.jmp (by kernel_rfl) h
theorem f14_5_J  {x0 x1 y2 w3 y4 y5 y6 w7 w8:TV} {r:TV} (h:aa prog 14 (f14_5 x0 x1 y2 w3 y4 y5 y6 w7 w8) r):aa prog 14 (.jmp [0,0,1,0,1,1,1,0,0,1,0,0,1,0,1,1,1,1,1,1,1] (f14_5_S x0 x1 y2 w3 y4 y5 y6 w7 w8)) r:=aa.jmp (by kernel_rfl) h
theorem f14_6_J  {x0 x1 x2 y3 w4 y5 y6 y7 w8 y9 y10 y11 y12 y13 y14 y15 y16 y17 y18 y19 y20 y21 w22 w23:TV} {r:TV} (h:aa prog 14 (f14_6 x0 x1 x2 y3 w4 y5 y6 y7 w8 y9 y10 y11 y12 y13 y14 y15 y16 y17 y18 y19 y20 y21 w22 w23) r):aa prog 14 (.jmp [0,0,1,0,1,1,0,0,1,0,0,1,0,1,1,1,0,0,1,0,0,1,0,1,1,1,1,1,1,1] (f14_6_S x0 x1 x2 y3 w4 y5 y6 y7 w8 y9 y10 y11 y12 y13 y14 y15 y16 y17 y18 y19 y20 y21 w22 w23)) r:=aa.jmp (by kernel_rfl) h
theorem f14_7_J  {x0 y1 w2 y3 y4 y5 w6 w7:TV} {r:TV} (h:aa prog 14 (f14_7 x0 y1 w2 y3 y4 y5 w6 w7) r):aa prog 14 (.jmp [1,1,1,1,0,0,1,0,0,1,0,1,1,1,1,1,1,1] (f14_7_S x0 y1 w2 y3 y4 y5 w6 w7)) r:=aa.jmp (by kernel_rfl) h
theorem f14_8_J  {x0 x1 y2 w3 y4 y5 y6 w7 y8 y9 y10 y11 y12 y13 y14 y15 y16 y17 y18 y19 y20 w21 w22:TV} {r:TV} (h:aa prog 14 (f14_8 x0 x1 y2 w3 y4 y5 y6 w7 y8 y9 y10 y11 y12 y13 y14 y15 y16 y17 y18 y19 y20 w21 w22) r):aa prog 14 (.jmp [1,1,1,0,0,1,0,0,1,0,1,1,1,0,0,1,0,0,1,0,1,1,1,1,1,1,1] (f14_8_S x0 x1 y2 w3 y4 y5 y6 w7 y8 y9 y10 y11 y12 y13 y14 y15 y16 y17 y18 y19 y20 w21 w22)) r:=aa.jmp (by kernel_rfl) h
theorem f14_9_J  {x0 x1 y2 w3 y4 y5 y6 w7 y8 y9 y10 y11 y12 y13 y14 y15 y16 y17 y18 y19 y20 w21 w22:TV} {r:TV} (h:aa prog 14 (f14_9 x0 x1 y2 w3 y4 y5 y6 w7 y8 y9 y10 y11 y12 y13 y14 y15 y16 y17 y18 y19 y20 w21 w22) r):aa prog 14 (.jmp [1,1,1,1,0,0,1,0,0,1,0,1,1,1,0,0,1,0,0,1,0,1,1,1,1,1,1,1] (f14_9_S x0 x1 y2 w3 y4 y5 y6 w7 y8 y9 y10 y11 y12 y13 y14 y15 y16 y17 y18 y19 y20 w21 w22)) r:=aa.jmp (by kernel_rfl) h
def f15_0_S  (x0 x1 x2 y3:TV):ASt:=⟨[Jk,Pt 0] ++ Rj 22 ++ [AV.tv x0,AV.tv x1,AV.tv x2] ++ Rj 8,[Ct y3] ++ Rz 58,[]⟩
def f15_M (x0:TV):Prg TV :=
 chk (TV.isAgg x0 1) (
 tv (plen (.slice 27) (cell x0 0)) fun v0 =>
 tv (pbin (.int .i64) .lss v0 (I 1)) fun v1 =>
 Prg.ite (asBool v1) (
 ret (B false)) (
 tv (plen (.slice 27) (cell x0 0)) fun v2 =>
 tv (pbin (.int .i64) .gtr v2 (I 16)) fun v3 =>
 Prg.ite (asBool v3) (
 ret (B false)) (
 tvs (pidx 3 (cell x0 0) (I 0)) fun e4 =>
 chk (Nat.blt 0 (List.length e4)) (
 tv (pbin (.int .i64) .neq (nth hole e4 0) (I 0)) fun v5 =>
 Prg.ite (asBool v5) (
 ret (B false)) (
 tv (plen (.slice 27) (cell x0 0)) fun v6 =>
 jmp [0,0,1,0,1,1] (f15_0_S (cell x0 0) v6 (I 0) (cell x0 0)))))))
def f15_0  (x0 x1 x2 y3:TV):Prg TV :=
 tv (pbin (.int .i64) .lss x2 x1) fun v7 =>
 Prg.ite (asBool v7) (
 tvs (pidx 3 x0 x2) fun e8 =>
 chk (Nat.ble 3 (List.length e8)) (
 call 36 [agg [y3],agg [nth hole e8 0,nth hole e8 1,nth hole e8 2]] fun v9 =>
 chk (ab ao [v9] 0) (
 tv (pun .not v9) fun v10 =>
 Prg.ite (asBool v10) (
 ret (B false)) (
 tv (pbin (.int .i64) .add x2 (I 1)) fun v11 =>
 jmp [0,0,1,0,1,1] (f15_0_S x0 x1 v11 y3))))) (
 ret (B true))
theorem f15_MR (x0:TV):au prog 15 [x0]=f15_M x0:=by kernel_rfl
theorem f15_0_J  {x0 x1 x2 y3:TV} {r:TV} (h:aa prog 15 (f15_0 x0 x1 x2 y3) r):aa prog 15 (.jmp [0,0,1,0,1,1] (f15_0_S x0 x1 x2 y3)) r:=aa.jmp (by kernel_rfl) h
def f16_M (x0:TV):Prg TV :=
 tv (pbin (.slice 27) .eql x0 (TV.lit aB)) fun v0 =>
 Prg.ite (asBool v0) (
 ret (TV.lit aB)) (
 tv (plen (.slice 27) x0) fun v1 =>
 nat (af v1) fun n2 =>
 nat (af v1) fun n3 =>
 chk (Bool.and (Nat.ble n2 n3) (Nat.ble n3 4294967296)) (
 rws (pelems 3 x0) fun r4 =>
 tv (pcopy 3 (TV.sl true 3 (List.replicate n2 [I 0,I 0,TV.lit aB])) r4) fun v5 =>
 nat (slLen (TV.sl true 3 (List.replicate n2 [I 0,I 0,TV.lit aB]))) fun n6 =>
 ret v5))
theorem f16_MR (x0:TV):au prog 16 [x0]=f16_M x0:=by kernel_rfl
def f17_M (x0:TV):Prg TV :=
 tv (pbin (.slice 46) .eql x0 (TV.lit aB)) fun v0 =>
 Prg.ite (asBool v0) (
 ret (TV.lit aB)) (
 tv (plen (.slice 46) x0) fun v1 =>
 nat (af v1) fun n2 =>
 nat (af v1) fun n3 =>
 chk (Bool.and (Nat.ble n2 n3) (Nat.ble n3 4294967296)) (
 rws (pelems 14 x0) fun r4 =>
 tv (pcopy 14 (TV.sl true 14 (List.replicate n2 [B false,I 0,TV.lit aB,B false,B false,TV.lit aB,I 0,I 0,I 0,I 0,TV.lit aB,I 0,I 0,I 0])) r4) fun v5 =>
 nat (slLen (TV.sl true 14 (List.replicate n2 [B false,I 0,TV.lit aB,B false,B false,TV.lit aB,I 0,I 0,I 0,I 0,TV.lit aB,I 0,I 0,I 0]))) fun n6 =>
 ret v5))
theorem f17_MR (x0:TV):au prog 17 [x0]=f17_M x0:=by kernel_rfl
def f18_0_S  (x0 x1 y2 y3 y4 y5 y6 y7 y8 y9 y10 y11 y12 y13 w14 w15:TV):ASt:=⟨[Jk,Pt 0,Pt 1] ++ Rj 13 ++ [AV.tv x0,AV.tv x1] ++ Rj 22,[some (BC.cells [CA.t y2,CA.t y3,CA.sref 2 0 [],CA.t y4,CA.t y5,CA.sref 3 0 [],CA.t y6,CA.t y7,CA.t y8,CA.t y9,CA.t y10,CA.t y11,CA.t y12,CA.t y13]),some (BC.cells [CA.junk,CA.junk,CA.junk,CA.junk,CA.junk,CA.junk,CA.junk,CA.junk,CA.junk,CA.junk,CA.junk,CA.junk,CA.junk,CA.junk]),Tr w14,Tr w15] ++ Rz 60,[]⟩
def f18_1_S  (y0 y1 y2 y3 y4 y5 y6 y7 y8 y9 y10 y11 w12 w13:TV):ASt:=⟨[Jk,Pt 0,Pt 1] ++ Rj 37,[some (BC.cells [CA.t y0,CA.t y1,CA.sref 2 0 [],CA.t y2,CA.t y3,CA.sref 3 0 [],CA.t y4,CA.t y5,CA.t y6,CA.t y7,CA.t y8,CA.t y9,CA.t y10,CA.t y11]),some (BC.cells [CA.junk,CA.junk,CA.junk,CA.junk,CA.junk,CA.junk,CA.junk,CA.junk,CA.junk,CA.junk,CA.junk,CA.junk,CA.junk,CA.junk]),Tr w12,Tr w13] ++ Rz 60,[]⟩
def f18_M (x0:TV):Prg TV :=
 chk (TV.isAgg x0 14) (
 call 37 [cell x0 2] fun v0 =>
 chk (ab zSl [v0] 0) (
 call 38 [cell x0 5] fun v1 =>
 chk (ab zSl [v1] 0) (
 tv (plen (.slice 50) v1) fun v2 =>
 jmp [0,0,1,0,1,1,1] (f18_0_S v2 (I 0) (cell x0 0) (cell x0 1) (cell x0 3) (cell x0 4) (cell x0 6) (cell x0 7) (cell x0 8) (cell x0 9) (cell x0 10) (cell x0 11) (cell x0 12) (cell x0 13) v0 v1))))
def f18_0  (x0 x1 y2 y3 y4 y5 y6 y7 y8 y9 y10 y11 y12 y13 w14 w15:TV):Prg TV :=
 tv (pbin (.int .i64) .lss x1 x0) fun v3 =>
 Prg.ite (asBool v3) (
 nat (slLen w15) fun n4 =>
 nat (af x1) fun n5 =>
 chk (Bool.and (slSize w15 7) (Nat.blt n5 n4)) (
 tvs (pel w15 n5) fun e6 =>
 chk (ab zSl e6 6) (
 tv (aR [(n5,6)] w15) fun v7 =>
 call 39 [frz v7] fun v8 =>
 chk (ab zSl [v8] 0) (
 nat (slLen w15) fun n9 =>
 nat (af x1) fun n10 =>
 chk (Bool.and (slSize w15 7) (Nat.blt n10 n9)) (
 tvs (pel w15 n10) fun e11 =>
 chk (Bool.and (bQ zSl e11 6) (ab zSl [v8] 0)) (
 tv (df [] w15 n10 6 [v8]) fun v12 =>
 tv (pbin (.int .i64) .add x1 (I 1)) fun v13 =>
 jmp [0,0,1,0,1,1,1] (f18_0_S x0 v13 y2 y3 y4 y5 y6 y7 y8 y9 y10 y11 y12 y13 w14 v12))))))) (
 jmp [1,1,1,1] (f18_1_S y2 y3 y4 y5 y6 y7 y8 y9 y10 y11 y12 y13 w14 w15))
def f18_1  (y0 y1 y2 y3 y4 y5 y6 y7 y8 y9 y10 y11 w12 w13:TV):Prg TV :=
 call 39 [y8] fun v14 =>
 chk (ab zSl [v14] 0) (
 chk (bj (agg [y0,y1,w12,y2,y3,w13,y4,y5,y6,y7,v14,y9,y10,y11])) (
 ret (agg [y0,y1,w12,y2,y3,w13,y4,y5,y6,y7,v14,y9,y10,y11])))
theorem f18_MR (x0:TV):au prog 18 [x0]=f18_M x0:=by kernel_rfl
theorem f18_0_J  {x0 x1 y2 y3 y4 y5 y6 y7 y8 y9 y10 y11 y12 y13 w14 w15:TV} {r:TV} (h:aa prog 18 (f18_0 x0 x1 y2 y3 y4 y5 y6 y7 y8 y9 y10 y11 y12 y13 w14 w15) r):aa prog 18 (.jmp [0,0,1,0,1,1,1] (f18_0_S x0 x1 y2 y3 y4 y5 y6 y7 y8 y9 y10 y11 y12 y13 w14 w15)) r:=aa.jmp (by kernel_rfl) h
theorem f18_1_J  {y0 y1 y2 y3 y4 y5 y6 y7 y8 y9 y10 y11 w12 w13:TV} {r:TV} (h:aa prog 18 (f18_1 y0 y1 y2 y3 y4 y5 y6 y7 y8 y9 y10 y11 w12 w13) r):aa prog 18 (.jmp [1,1,1,1] (f18_1_S y0 y1 y2 y3 y4 y5 y6 y7 y8 y9 y10 y11 w12 w13)) r:=aa.jmp (by kernel_rfl) h
def f19_0_S  (w0 w1 y2 w3 w4 w5:TV):ASt:=⟨[Jk,Sr 0] ++ Rj 5 ++ [Pt 1] ++ Rj 22,[Tr w0,some (BC.cells [CA.fn1 41 3,CA.sref 4 0 [],CA.sref 5 0 [],CA.sref 6 0 []]),Tr w1,Ct y2,Tr w3,Tr w4,Tr w5] ++ Rz 71,([Jk,Jk,Jk,Sr 2] ++ Rj 20)⟩
def f19_1_S  (x0 x1 w2 w3 y4 w5 w6 w7:TV):ASt:=⟨Rj 7 ++ [Pt 0] ++ Rj 6 ++ [Sr 1,AV.tv x0,AV.tv x1] ++ Rj 13,[some (BC.cells [CA.fn1 41 3,CA.sref 4 0 [],CA.sref 5 0 [],CA.sref 6 0 []]),Tr w2,Tr w3,Ct y4,Tr w5,Tr w6,Tr w7] ++ Rz 71,([Jk,Jk,Jk,Sr 2] ++ Rj 20)⟩
def f19_2_S  (x0 x1 w2 w3 y4 w5 w6 w7:TV):ASt:=⟨Rj 7 ++ [Pt 0] ++ Rj 6 ++ [Sr 1,AV.tv x0,AV.tv x1] ++ Rj 13,[some (BC.cells [CA.fn1 41 3,CA.sref 4 0 [],CA.sref 5 0 [],CA.sref 6 0 []]),Tr w2,Tr w3,Ct y4,Tr w5,Tr w6,Tr w7] ++ Rz 71,([Jk,Jk,Jk,Sr 2] ++ Rj 20)⟩
def f19_3_S  (x0 x1 w2 w3:TV):ASt:=⟨[Jk,Jk,Jk,Sr 0] ++ Rj 9 ++ [Sr 1,AV.tv x0,AV.tv x1] ++ Rj 8,[Tr w2,Tr w3] ++ Rz 46,[]⟩
def f19_M (x0:TV):Prg TV :=
 chk (TV.gR x0) (
 tv (plen (.slice 27) x0) fun v0 =>
 nat (af v0) fun n1 =>
 nat (af v0) fun n2 =>
 chk (Bool.and (Nat.ble n1 n2) (Nat.ble n2 4294967296)) (
 tv (plen (.slice 27) x0) fun v3 =>
 nat (af v3) fun n4 =>
 nat (af v3) fun n5 =>
 chk (Bool.and (Nat.ble n4 n5) (Nat.ble n5 4294967296)) (
 chk true (
 chk true (
 jmp [1,1,10,0,0,1,1] (f19_0_S (TV.sl true 1 (chunks 1 1 [I 0])) (TV.sl true 1 (List.replicate n1 [B false])) x0 (TV.sl true 1 (List.replicate n4 [B false])) (TV.lit aB) (TV.lit aB)))))))
def f19_0  (w0 w1 y2 w3 w4 w5:TV):Prg TV :=
 tv (plen (.slice 3) w0) fun v6 =>
 jmp [0,0,1,0,1,1,10,0,0,1,1] (f19_1_S v6 (I 0) w0 w1 y2 w3 (bD w4) w5)
def f19_1  (x0 x1 w2 w3 y4 w5 w6 w7:TV):Prg TV :=
 tv (pbin (.int .i64) .lss x1 x0) fun v7 =>
 Prg.ite (asBool v7) (
 nat (slLen w2) fun n8 =>
 nat (af x1) fun n9 =>
 chk (Bool.and (slSize w2 1) (Nat.blt n9 n8)) (
 tvs (pel w2 n9) fun e10 =>
 chk (ab ct e10 0) (
 nat (slLen w5) fun n11 =>
 nat (af (nth hole e10 0)) fun n12 =>
 chk (Bool.and (slSize w5 1) (Nat.blt n12 n11)) (
 tvs (pel w5 n12) fun e13 =>
 chk (ab ao e13 0) (
 tv (pun .not (nth hole e13 0)) fun v14 =>
 Prg.ite (asBool v14) (
 nat (slLen w5) fun n15 =>
 nat (af (nth hole e10 0)) fun n16 =>
 chk (Bool.and (slSize w5 1) (Nat.blt n16 n15)) (
 tvs (pel w5 n16) fun e17 =>
 chk (ab ao e17 0) (
 tv (df [] w5 n16 0 [B true]) fun v18 =>
 call 41 [pt (nth hole e10 0),agg [y4]] fun v19 =>
 chk (ab zSl [v19] 0) (
 rws (pelems 2 (TV.sl true 2 (chunks 2 1 [nth hole e10 0,v19]))) fun r20 =>
 tv (papp 2 w6 r20) fun v21 =>
 jmp [0,0,1,1,0,0,1,1,0,0,1,0,1,1,10,0,0,1,1] (f19_2_S x0 x1 w2 w3 y4 v18 (bD v21) w7))))) (
 jmp [0,0,1,1,0,0,1,1,0,0,1,0,1,1,10,0,0,1,1] (f19_2_S x0 x1 w2 w3 y4 w5 (bD w6) w7))))))) (
 tv (plen (.slice 3) w7) fun v22 =>
 jmp [0,0,1,0,1,1] (f19_3_S v22 (I 0) w3 w7))
def f19_2  (x0 x1 w2 w3 y4 w5 w6 w7:TV):Prg TV :=
 tv (plen (.slice 109) w6) fun v23 =>
 tv (pbin (.int .i64) .gtr v23 (I 0)) fun v24 =>
 Prg.ite (asBool v24) (
 tv (plen (.slice 109) w6) fun v25 =>
 tv (pbin (.int .i64) .sub v25 (I 1)) fun v26 =>
 nat (slLen w6) fun n27 =>
 nat (af v26) fun n28 =>
 chk (Bool.and (slSize w6 2) (Nat.blt n28 n27)) (
 tvs (pel w6 n28) fun e29 =>
 chk (ab zSl e29 1) (
 tv (aR [(n28,1)] w6) fun v30 =>
 tv (plen (.slice 3) v30) fun v31 =>
 tv (pbin (.int .i64) .eql v31 (I 0)) fun v32 =>
 Prg.ite (asBool v32) (
 tv (plen (.slice 109) w6) fun v33 =>
 tv (pbin (.int .i64) .sub v33 (I 1)) fun v34 =>
 nat (slLen w6) fun n35 =>
 nat (af v34) fun n36 =>
 chk (Bool.and (slSize w6 2) (Nat.blt n36 n35)) (
 tvs (pel w6 n36) fun e37 =>
 chk (ab ct e37 0) (
 rws (pelems 1 (TV.sl true 1 (chunks 1 1 [nth hole e37 0]))) fun r38 =>
 tv (papp 1 w7 (jR r38)) fun v39 =>
 nat (slLen w6) fun n40 =>
 nat (af v34) fun n41 =>
 chk (Bool.and (Bool.and (slSize w6 2) (Nat.ble 0 (Option.getD (some n41) n40))) (Nat.ble (Option.getD (some n41) n40) n40)) (
 tv (fF 0 ((Option.getD (some n41) n40) - 0) w6) fun v42 =>
 jmp [0,0,1,1,0,0,1,1,0,0,1,0,1,1,10,0,0,1,1] (f19_2_S x0 x1 w2 w3 y4 w5 (bD v42) v39))))) (
 tvs (pel w6 n28) fun e43 =>
 chk (ab zSl e43 1) (
 tv (aR [(n28,1)] w6) fun v44 =>
 nat (slLen v44) fun n45 =>
 nat (af (I 0)) fun n46 =>
 chk (Bool.and (slSize v44 1) (Nat.blt n46 n45)) (
 tv (aR [(n28,1)] w6) fun v47 =>
 tvs (pel v47 n46) fun e48 =>
 chk (ab ct e48 0) (
 tvs (pel w6 n28) fun e49 =>
 chk (ab zSl e49 1) (
 tv (aR [(n28,1)] w6) fun v50 =>
 nat (slLen v50) fun n51 =>
 nat (af (I 1)) fun n52 =>
 chk (Bool.and (Bool.and (slSize v50 1) (Nat.ble (Option.getD (some n52) 0) (Option.getD none n51))) (Nat.ble (Option.getD none n51) n51)) (
 tv (aR [(n28,1)] w6) fun v53 =>
 tv (fF (Option.getD (some n52) 0) ((Option.getD none n51) - (Option.getD (some n52) 0)) v53) fun v54 =>
 chk (TV.gS v54) (
 tvs (pel w6 n28) fun e55 =>
 chk (Bool.and (bQ zSl e55 1) (ab zSl [v54] 0)) (
 tv (df [] w6 n28 1 [v54]) fun v56 =>
 nat (slLen w5) fun n57 =>
 nat (af (nth hole e48 0)) fun n58 =>
 chk (Bool.and (slSize w5 1) (Nat.blt n58 n57)) (
 tvs (pel w5 n58) fun e59 =>
 chk (ab ao e59 0) (
 tv (pun .not (nth hole e59 0)) fun v60 =>
 Prg.ite (asBool v60) (
 nat (slLen w5) fun n61 =>
 nat (af (nth hole e48 0)) fun n62 =>
 chk (Bool.and (slSize w5 1) (Nat.blt n62 n61)) (
 tvs (pel w5 n62) fun e63 =>
 chk (ab ao e63 0) (
 tv (df [] w5 n62 0 [B true]) fun v64 =>
 call 41 [pt (nth hole e48 0),agg [y4]] fun v65 =>
 chk (ab zSl [v65] 0) (
 rws (pelems 2 (TV.sl true 2 (chunks 2 1 [nth hole e48 0,v65]))) fun r66 =>
 tv (papp 2 v56 r66) fun v67 =>
 jmp [0,0,1,1,0,0,1,1,0,0,1,0,1,1,10,0,0,1,1] (f19_2_S x0 x1 w2 w3 y4 v64 (bD v67) w7))))) (
 jmp [0,0,1,1,0,0,1,1,0,0,1,0,1,1,10,0,0,1,1] (f19_2_S x0 x1 w2 w3 y4 w5 (bD v56) w7))))))))))))))) (
 tv (pbin (.int .i64) .add x1 (I 1)) fun v68 =>
 jmp [0,0,1,0,1,1,10,0,0,1,1] (f19_1_S x0 v68 w2 w3 y4 w5 (bD w6) w7))
def f19_3  (x0 x1 w2 w3:TV):Prg TV :=
 tv (pbin (.int .i64) .lss x1 x0) fun v69 =>
 Prg.ite (asBool v69) (
 nat (slLen w3) fun n70 =>
 nat (af x1) fun n71 =>
 chk (Bool.and (slSize w3 1) (Nat.blt n71 n70)) (
 tvs (pel w3 n71) fun e72 =>
 chk (ab ct e72 0) (
 nat (slLen w2) fun n73 =>
 nat (af (nth hole e72 0)) fun n74 =>
 chk (Bool.and (slSize w2 1) (Nat.blt n74 n73)) (
 tvs (pel w2 n74) fun e75 =>
 chk (ab ao e75 0) (
 tv (df [] w2 n74 0 [B true]) fun v76 =>
 tv (pbin (.int .i64) .add x1 (I 1)) fun v77 =>
 jmp [0,0,1,0,1,1] (f19_3_S x0 v77 v76 w3)))))) (
 chk (bj w2) (
 ret w2))
theorem f19_MR (x0:TV):au prog 19 [x0]=f19_M x0:=by kernel_rfl
theorem f19_0_J  {w0 w1 y2 w3 w4 w5:TV} {r:TV} (h:aa prog 19 (f19_0 w0 w1 y2 w3 w4 w5) r):aa prog 19 (.jmp [1,1,10,0,0,1,1] (f19_0_S w0 w1 y2 w3 w4 w5)) r:=aa.jmp (by kernel_rfl) h
theorem f19_1_J  {x0 x1 w2 w3 y4 w5 w6 w7:TV} {r:TV} (h:aa prog 19 (f19_1 x0 x1 w2 w3 y4 w5 w6 w7) r):aa prog 19 (.jmp [0,0,1,0,1,1,10,0,0,1,1] (f19_1_S x0 x1 w2 w3 y4 w5 w6 w7)) r:=aa.jmp (by kernel_rfl) h
theorem f19_2_J  {x0 x1 w2 w3 y4 w5 w6 w7:TV} {r:TV} (h:aa prog 19 (f19_2 x0 x1 w2 w3 y4 w5 w6 w7) r):aa prog 19 (.jmp [0,0,1,1,0,0,1,1,0,0,1,0,1,1,10,0,0,1,1] (f19_2_S x0 x1 w2 w3 y4 w5 w6 w7)) r:=aa.jmp (by kernel_rfl) h
theorem f19_3_J  {x0 x1 w2 w3:TV} {r:TV} (h:aa prog 19 (f19_3 x0 x1 w2 w3) r):aa prog 19 (.jmp [0,0,1,0,1,1] (f19_3_S x0 x1 w2 w3)) r:=aa.jmp (by kernel_rfl) h
def f20_0_S  (x0 x1 x2 x3 w4:TV):ASt:=⟨[Jk,Jk,Jk,Sr 0,AV.tv x0] ++ Rj 5 ++ [AV.tv x1,AV.tv x2,AV.tv x3] ++ Rj 13,[Tr w4] ++ Rz 49,[]⟩
def f20_M (x0:TV):Prg TV :=
 tv (plen (.slice 4) x0) fun v0 =>
 nat (af v0) fun n1 =>
 nat (af v0) fun n2 =>
 chk (Bool.and (Nat.ble n1 n2) (Nat.ble n2 4294967296)) (
 tv (plen (.slice 4) x0) fun v3 =>
 jmp [0,0,1,0,1,1,1] (f20_0_S (I 0) x0 v3 (I 0) (TV.sl true 1 (List.replicate n1 [I 0]))))
def f20_0  (x0 x1 x2 x3 w4:TV):Prg TV :=
 tv (pbin (.int .i64) .lss x3 x2) fun v4 =>
 Prg.ite (asBool v4) (
 tvs (pidx 1 x1 x3) fun e5 =>
 chk (Nat.blt 0 (List.length e5)) (
 Prg.ite (asBool (nth hole e5 0)) (
 nat (slLen w4) fun n6 =>
 nat (af x3) fun n7 =>
 chk (Bool.and (slSize w4 1) (Nat.blt n7 n6)) (
 chk (TV.gR x0) (
 tvs (pel w4 n7) fun e8 =>
 chk (ab ct e8 0) (
 tv (df [] w4 n7 0 [x0]) fun v9 =>
 tv (pbin (.int .i64) .add x0 (I 1)) fun v10 =>
 tv (pbin (.int .i64) .add x3 (I 1)) fun v11 =>
 jmp [0,0,1,0,1,1,1] (f20_0_S v10 x1 x2 v11 v9))))) (
 tv (pbin (.int .i64) .add x3 (I 1)) fun v12 =>
 jmp [0,0,1,0,1,1,1] (f20_0_S x0 x1 x2 v12 w4)))) (
 chk (bj w4) (
 ret w4))
theorem f20_MR (x0:TV):au prog 20 [x0]=f20_M x0:=by kernel_rfl
theorem f20_0_J  {x0 x1 x2 x3 w4:TV} {r:TV} (h:aa prog 20 (f20_0 x0 x1 x2 x3 w4) r):aa prog 20 (.jmp [0,0,1,0,1,1,1] (f20_0_S x0 x1 x2 x3 w4)) r:=aa.jmp (by kernel_rfl) h
def f23_0_S  (x0 y1 y2 y3 y4 y5 y6 y7 y8:TV):ASt:=⟨[Jk,Jk,Pt 0,Pt 1,Jk,AV.tv x0] ++ Rj 46,[some (BC.cells [CA.t y1,CA.t y2,CA.t y3,CA.t y4]),some (BC.cells [CA.t y5,CA.t y6,CA.t y7,CA.t y8])] ++ Rz 74,[]⟩
def f23_M (x0 x1:TV):Prg TV :=
 chk (TV.isAgg x0 4) (
 chk (TV.isAgg x1 4) (
 tv (pbin (.int .i64) .neq (cell x0 0) (cell x1 0)) fun v0 =>
 Prg.ite (asBool v0) (
 ret (B false)) (
 tv (pbin Kd.bool .neq (cell x0 2) (cell x1 2)) fun v1 =>
 Prg.ite (asBool v1) (
 ret (B false)) (
 tv (pbin Kd.bool .neq (cell x0 3) (cell x1 3)) fun v2 =>
 Prg.ite (asBool v2) (
 ret (B false)) (
 tv (plen (.slice 48) (cell x0 1)) fun v3 =>
 tv (plen (.slice 48) (cell x1 1)) fun v4 =>
 tv (pbin (.int .i64) .neq v3 v4) fun v5 =>
 Prg.ite (asBool v5) (
 ret (B false)) (
 jmp [0,0,1,0,1,1] (f23_0_S (I 0) (cell x0 0) (cell x0 1) (cell x0 2) (cell x0 3) (cell x1 0) (cell x1 1) (cell x1 2) (cell x1 3))))))))
def f23_0  (x0 y1 y2 y3 y4 y5 y6 y7 y8:TV):Prg TV :=
 tv (plen (.slice 48) y2) fun v6 =>
 tv (pbin (.int .i64) .lss x0 v6) fun v7 =>
 Prg.ite (asBool v7) (
 tvs (pidx 1 y2 x0) fun e8 =>
 chk (Nat.blt 0 (List.length e8)) (
 tvs (pidx 1 y6 x0) fun e9 =>
 chk (Nat.blt 0 (List.length e9)) (
 tv (pbin (.int .u16) .neq (nth hole e8 0) (nth hole e9 0)) fun v10 =>
 Prg.ite (asBool v10) (
 ret (B false)) (
 tv (pbin (.int .i64) .add x0 (I 1)) fun v11 =>
 jmp [0,0,1,0,1,1] (f23_0_S v11 y1 y2 y3 y4 y5 y6 y7 y8))))) (
 ret (B true))
theorem f23_MR (x0 x1:TV):au prog 23 [x0,x1]=f23_M x0 x1:=by kernel_rfl
theorem f23_0_J  {x0 y1 y2 y3 y4 y5 y6 y7 y8:TV} {r:TV} (h:aa prog 23 (f23_0 x0 y1 y2 y3 y4 y5 y6 y7 y8) r):aa prog 23 (.jmp [0,0,1,0,1,1] (f23_0_S x0 y1 y2 y3 y4 y5 y6 y7 y8)) r:=aa.jmp (by kernel_rfl) h
def f24_M (x0 x1:TV):Prg TV :=
 chk (TV.isAgg x0 8) (
 chk (TV.isAgg x1 8) (
 tv (pbin (.int .i64) .eql (cell x0 0) (cell x1 0)) fun v0 =>
 Prg.ite (asBool v0) (
 tv (pbin (.int .i64) .eql (cell x0 1) (cell x1 1)) fun v1 =>
 Prg.ite (asBool v1) (
 tv (pbin (.int .i64) .eql (cell x0 2) (cell x1 2)) fun v2 =>
 Prg.ite (asBool v2) (
 tv (pbin (.int .i64) .eql (cell x0 3) (cell x1 3)) fun v3 =>
 Prg.ite (asBool v3) (
 call 44 [cell x0 4,cell x1 4] fun v4 =>
 chk (ab ao [v4] 0) (
 Prg.ite (asBool v4) (
 tv (pbin (.int .i64) .eql (cell x0 5) (cell x1 5)) fun v5 =>
 Prg.ite (asBool v5) (
 tv (pbin (.int .i64) .eql (cell x0 6) (cell x1 6)) fun v6 =>
 Prg.ite (asBool v6) (
 tv (pbin (.int .i64) .eql (cell x0 7) (cell x1 7)) fun v7 =>
 ret v7) (
 ret (B false))) (
 ret (B false))) (
 ret (B false)))) (
 ret (B false))) (
 ret (B false))) (
 ret (B false))) (
 ret (B false))))
theorem f24_MR (x0 x1:TV):au prog 24 [x0,x1]=f24_M x0 x1:=by kernel_rfl
def f25_M (x0 x1:TV):Prg TV :=
 chk (TV.isAgg x0 7) (
 chk (TV.isAgg x1 7) (
 tv (pbin (.int .i64) .eql (cell x0 0) (cell x1 0)) fun v0 =>
 Prg.ite (asBool v0) (
 tv (pbin (.int .i64) .eql (cell x0 1) (cell x1 1)) fun v1 =>
 Prg.ite (asBool v1) (
 tv (pbin (.int .i64) .eql (cell x0 2) (cell x1 2)) fun v2 =>
 Prg.ite (asBool v2) (
 tv (pbin (.int .i64) .eql (cell x0 3) (cell x1 3)) fun v3 =>
 Prg.ite (asBool v3) (
 tv (pbin (.int .u16) .eql (cell x0 4) (cell x1 4)) fun v4 =>
 Prg.ite (asBool v4) (
 tv (pbin (.int .i64) .eql (cell x0 5) (cell x1 5)) fun v5 =>
 Prg.ite (asBool v5) (
 call 44 [cell x0 6,cell x1 6] fun v6 =>
 chk (ab ao [v6] 0) (
 ret v6)) (
 ret (B false))) (
 ret (B false))) (
 ret (B false))) (
 ret (B false))) (
 ret (B false))) (
 ret (B false))))
theorem f25_MR (x0 x1:TV):au prog 25 [x0,x1]=f25_M x0 x1:=by kernel_rfl
def f26_0_S  (x0 x1 w2 w3:TV):ASt:=⟨[Jk,Jk,Jk,Sr 0] ++ Rj 7 ++ [Sr 1,AV.tv x0,AV.tv x1] ++ Rj 8,[Tr w2,Tr w3] ++ Rz 44,[]⟩
def f26_M (x0:TV):Prg TV :=
 chk (TV.isAgg x0 3) (
 tv (plen (.slice 46) (cell x0 2)) fun v0 =>
 nat (af v0) fun n1 =>
 nat (af v0) fun n2 =>
 chk (Bool.and (Nat.ble n1 n2) (Nat.ble n2 4294967296)) (
 call 45 [agg [cell x0 0,cell x0 1,cell x0 2]] fun v3 =>
 chk (ab zSl [v3] 0) (
 tv (plen (.slice 3) v3) fun v4 =>
 jmp [0,0,1,0,1,1] (f26_0_S v4 (I 0) (TV.sl true 1 (List.replicate n1 [B false])) v3))))
def f26_0  (x0 x1 w2 w3:TV):Prg TV :=
 tv (pbin (.int .i64) .lss x1 x0) fun v5 =>
 Prg.ite (asBool v5) (
 nat (slLen w3) fun n6 =>
 nat (af x1) fun n7 =>
 chk (Bool.and (slSize w3 1) (Nat.blt n7 n6)) (
 tvs (pel w3 n7) fun e8 =>
 chk (ab ct e8 0) (
 nat (slLen w2) fun n9 =>
 nat (af (nth hole e8 0)) fun n10 =>
 chk (Bool.and (slSize w2 1) (Nat.blt n10 n9)) (
 tvs (pel w2 n10) fun e11 =>
 chk (ab ao e11 0) (
 tv (df [] w2 n10 0 [B true]) fun v12 =>
 tv (pbin (.int .i64) .add x1 (I 1)) fun v13 =>
 jmp [0,0,1,0,1,1] (f26_0_S x0 v13 v12 w3)))))) (
 ret w2)
theorem f26_MR (x0:TV):au prog 26 [x0]=f26_M x0:=by kernel_rfl
theorem f26_0_J  {x0 x1 w2 w3:TV} {r:TV} (h:aa prog 26 (f26_0 x0 x1 w2 w3) r):aa prog 26 (.jmp [0,0,1,0,1,1] (f26_0_S x0 x1 w2 w3)) r:=aa.jmp (by kernel_rfl) h
def f27_0_S  (x0 x1 x2 x3 y4 y5 y6:TV):ASt:=⟨[Jk,AV.tv x0,Pt 0] ++ Rj 6 ++ [AV.tv x1,AV.tv x2,AV.tv x3] ++ Rj 30,[some (BC.cells [CA.t y4,CA.t y5,CA.t y6])] ++ Rz 65,[]⟩
def f27_1_S  (x0 x1 x2 x3 x4 y5 y6 y7 w8:TV):ASt:=⟨[Jk,AV.tv x0,Pt 0,Jk,Jk,AV.tv x1,Jk,Sr 1,Jk,AV.tv x2,AV.tv x3,AV.tv x4] ++ Rj 30,[some (BC.cells [CA.t y5,CA.t y6,CA.t y7]),Tr w8] ++ Rz 64,[]⟩
def f27_M (x0 x1:TV):Prg TV :=
 chk (TV.isAgg x0 3) (
 tv (plen (.slice 46) (cell x0 2)) fun v0 =>
 jmp [0,0,1,0,1] (f27_0_S x1 (cell x0 2) v0 (I 0) (cell x0 0) (cell x0 1) (cell x0 2)))
def f27_0  (x0 x1 x2 x3 y4 y5 y6:TV):Prg TV :=
 tv (pbin (.int .i64) .lss x3 x2) fun v1 =>
 Prg.ite (asBool v1) (
 tvs (pidx 14 x1 x3) fun e2 =>
 chk (Nat.ble 14 (List.length e2)) (
 call 46 [agg [nth hole e2 0,nth hole e2 1,nth hole e2 2,nth hole e2 3,nth hole e2 4,nth hole e2 5,nth hole e2 6,nth hole e2 7,nth hole e2 8,nth hole e2 9,nth hole e2 10,nth hole e2 11,nth hole e2 12,nth hole e2 13]] fun v3 =>
 chk (ab zSl [v3] 0) (
 tv (pbin (.int .i64) .eql (nth hole e2 6) (I 4)) fun v4 =>
 Prg.ite (asBool v4) (
 rws (pelems 1 (TV.sl true 1 (chunks 1 1 [nth hole e2 13]))) fun r5 =>
 tv (papp 1 v3 (jR r5)) fun v6 =>
 jmp [1,1,1,0,0,1,1,0,0,1,0,1] (f27_1_S x0 x3 x1 x2 x3 y4 y5 y6 v6)) (
 jmp [1,1,1,0,0,1,1,0,0,1,0,1] (f27_1_S x0 x3 x1 x2 x3 y4 y5 y6 v3))))) (
 ret (B false))
def f27_1  (x0 x1 x2 x3 x4 y5 y6 y7 w8:TV):Prg TV :=
 tvs (pidx 1 x0 x1) fun e7 =>
 chk (Nat.blt 0 (List.length e7)) (
 Prg.ite (asBool (nth hole e7 0)) (
 call 47 [agg [y5,y6,y7],x1] fun v8 =>
 chk (ab zSl [v8] 0) (
 tv (plen (.slice 3) v8) fun v9 =>
 tv (plen (.slice 3) w8) fun v10 =>
 tv (pbin (.int .i64) .lss v9 v10) fun v11 =>
 Prg.ite (asBool v11) (
 ret (B true)) (
 tv (pbin (.int .i64) .add x4 (I 1)) fun v12 =>
 jmp [0,0,1,0,1] (f27_0_S x0 x2 x3 v12 y5 y6 y7)))) (
 tv (pbin (.int .i64) .add x4 (I 1)) fun v13 =>
 jmp [0,0,1,0,1] (f27_0_S x0 x2 x3 v13 y5 y6 y7)))
theorem f27_MR (x0 x1:TV):au prog 27 [x0,x1]=f27_M x0 x1:=by kernel_rfl
theorem f27_0_J  {x0 x1 x2 x3 y4 y5 y6:TV} {r:TV} (h:aa prog 27 (f27_0 x0 x1 x2 x3 y4 y5 y6) r):aa prog 27 (.jmp [0,0,1,0,1] (f27_0_S x0 x1 x2 x3 y4 y5 y6)) r:=aa.jmp (by kernel_rfl) h
theorem f27_1_J  {x0 x1 x2 x3 x4 y5 y6 y7 w8:TV} {r:TV} (h:aa prog 27 (f27_1 x0 x1 x2 x3 x4 y5 y6 y7 w8) r):aa prog 27 (.jmp [1,1,1,0,0,1,1,0,0,1,0,1] (f27_1_S x0 x1 x2 x3 x4 y5 y6 y7 w8)) r:=aa.jmp (by kernel_rfl) h
def f28_0_S  (x0 x1 x2 x3 w4:TV):ASt:=⟨[Jk,AV.tv x0,Jk,Jk,Jk,Sr 0,Jk,Jk,AV.tv x1,AV.tv x2,AV.tv x3] ++ Rj 14,[Tr w4] ++ Rz 48,[]⟩
def f28_M (x0 x1:TV):Prg TV :=
 tv (plen (.slice 46) x0) fun v0 =>
 chk true (
 jmp [0,0,1,0,1,1] (f28_0_S x1 x0 v0 (I 0) (TV.lit aB)))
def f28_0  (x0 x1 x2 x3 w4:TV):Prg TV :=
 tv (pbin (.int .i64) .lss x3 x2) fun v1 =>
 Prg.ite (asBool v1) (
 tvs (pidx 14 x1 x3) fun e2 =>
 chk (Nat.ble 14 (List.length e2)) (
 tvs (pidx 1 x0 x3) fun e3 =>
 chk (Nat.blt 0 (List.length e3)) (
 Prg.ite (asBool (nth hole e3 0)) (
 rws (pelems 14 (TV.sl true 14 (chunks 14 1 [nth hole e2 0,nth hole e2 1,nth hole e2 2,nth hole e2 3,nth hole e2 4,nth hole e2 5,nth hole e2 6,nth hole e2 7,nth hole e2 8,nth hole e2 9,nth hole e2 10,nth hole e2 11,nth hole e2 12,nth hole e2 13]))) fun r4 =>
 tv (papp 14 w4 r4) fun v5 =>
 tv (pbin (.int .i64) .add x3 (I 1)) fun v6 =>
 jmp [0,0,1,0,1,1] (f28_0_S x0 x1 x2 v6 v5)) (
 tv (pbin (.int .i64) .add x3 (I 1)) fun v7 =>
 jmp [0,0,1,0,1,1] (f28_0_S x0 x1 x2 v7 w4))))) (
 ret w4)
theorem f28_MR (x0 x1:TV):au prog 28 [x0,x1]=f28_M x0 x1:=by kernel_rfl
theorem f28_0_J  {x0 x1 x2 x3 w4:TV} {r:TV} (h:aa prog 28 (f28_0 x0 x1 x2 x3 w4) r):aa prog 28 (.jmp [0,0,1,0,1,1] (f28_0_S x0 x1 x2 x3 w4)) r:=aa.jmp (by kernel_rfl) h
def f29_0_S  (x0 y1 y2 y3 y4 y5 y6 y7 y8:TV):ASt:=⟨[Jk,AV.tv x0,Pt 0,Jk,Pt 1] ++ Rj 33,[some (BC.cells [CA.t y1,CA.t y2,CA.t y3,CA.t y4,CA.t y5,CA.t y6,CA.t y7,CA.t y8]),some (BC.cells [CA.junk,CA.junk,CA.junk,CA.junk,CA.junk,CA.junk,CA.junk,CA.junk])] ++ Rz 60,[]⟩
def f29_M (x0 x1:TV):Prg TV :=
 chk (TV.isAgg x0 8) (
 tv (pbin (.int .i64) .eql (cell x0 0) (I 3)) fun v0 =>
 Prg.ite (asBool v0) (
 tvs (pidx 1 x1 (cell x0 5)) fun e1 =>
 chk (Nat.blt 0 (List.length e1)) (
 tvs (pidx 1 x1 (cell x0 6)) fun e2 =>
 chk (Nat.blt 0 (List.length e2)) (
 ret (agg [cell x0 0,cell x0 1,cell x0 2,cell x0 3,cell x0 4,nth hole e1 0,nth hole e2 0,cell x0 7])))) (
 tv (pbin (.int .i64) .eql (cell x0 0) (I 4)) fun v3 =>
 Prg.ite (asBool v3) (
 tvs (pidx 1 x1 (cell x0 7)) fun e4 =>
 chk (Nat.blt 0 (List.length e4)) (
 jmp [1,0,1,0,1] (f29_0_S x1 (cell x0 0) (cell x0 1) (cell x0 2) (cell x0 3) (cell x0 4) (cell x0 5) (cell x0 6) (nth hole e4 0)))) (
 tv (pbin (.int .i64) .eql (cell x0 0) (I 2)) fun v5 =>
 Prg.ite (asBool v5) (
 jmp [1,0,1,0,1] (f29_0_S x1 (cell x0 0) (cell x0 1) (cell x0 2) (cell x0 3) (cell x0 4) (cell x0 5) (cell x0 6) (cell x0 7))) (
 ret (agg [cell x0 0,cell x0 1,cell x0 2,cell x0 3,cell x0 4,cell x0 5,cell x0 6,cell x0 7])))))
def f29_0  (x0 y1 y2 y3 y4 y5 y6 y7 y8:TV):Prg TV :=
 tvs (pidx 1 x0 y6) fun e6 =>
 chk (Nat.blt 0 (List.length e6)) (
 ret (agg [y1,y2,y3,y4,y5,nth hole e6 0,y7,y8]))
theorem f29_MR (x0 x1:TV):au prog 29 [x0,x1]=f29_M x0 x1:=by kernel_rfl
theorem f29_0_J  {x0 y1 y2 y3 y4 y5 y6 y7 y8:TV} {r:TV} (h:aa prog 29 (f29_0 x0 y1 y2 y3 y4 y5 y6 y7 y8) r):aa prog 29 (.jmp [1,0,1,0,1] (f29_0_S x0 y1 y2 y3 y4 y5 y6 y7 y8)) r:=aa.jmp (by kernel_rfl) h
def f30_M (x0:TV):Prg TV :=
 chk (TV.isAgg x0 3) (
 call 48 [agg [cell x0 0,cell x0 1,cell x0 2],TV.lit (Value.int IntKind.i64 (-1))] fun v0 =>
 chk (ab zSl [v0] 0) (
 ret v0))
theorem f30_MR (x0:TV):au prog 30 [x0]=f30_M x0:=by kernel_rfl
def f31_0_S  (x0 y1 y2 y3 y4 y5 y6 y7 y8 y9 y10 y11 w12:TV):ASt:=⟨[Jk,Jk,Pt 0,Jk,Jk,Pt 1,Sr 2] ++ Rj 29 ++ [AV.tv x0] ++ Rj 50,[some (BC.cells [CA.t y1,CA.t y2,CA.t y3]),some (BC.cells [CA.t y4,CA.t y5,CA.t y6,CA.t y7,CA.t y8,CA.t y9,CA.t y10,CA.t y11]),Tr w12] ++ Rz 108,[]⟩
def f31_1_S  (x0 y1 y2 y3 y4 y5 y6 y7 y8 y9 y10 y11 w12:TV):ASt:=⟨[Jk,Jk,Pt 0,Jk,Jk,Pt 1,Sr 2] ++ Rj 37 ++ [AV.tv x0] ++ Rj 42,[some (BC.cells [CA.t y1,CA.t y2,CA.t y3]),some (BC.cells [CA.t y4,CA.t y5,CA.t y6,CA.t y7,CA.t y8,CA.t y9,CA.t y10,CA.t y11]),Tr w12] ++ Rz 108,[]⟩
def f31_2_S  (x0 y1 y2 y3 y4 y5 y6 y7 y8 y9 y10 y11 w12:TV):ASt:=⟨[Jk,Jk,Pt 0,Jk,Jk,Pt 1,Sr 2] ++ Rj 45 ++ [AV.tv x0] ++ Rj 34,[some (BC.cells [CA.t y1,CA.t y2,CA.t y3]),some (BC.cells [CA.t y4,CA.t y5,CA.t y6,CA.t y7,CA.t y8,CA.t y9,CA.t y10,CA.t y11]),Tr w12] ++ Rz 108,[]⟩
def f31_3_S  (x0 y1 y2 y3 w4 w5:TV):ASt:=⟨[Jk,Jk,Pt 0,Jk,Jk,Jk,Sr 1,Sr 2,AV.tv x0] ++ Rj 78,[some (BC.cells [CA.t y1,CA.t y2,CA.t y3]),Tr w4,Tr w5] ++ Rz 108,[]⟩
def f31_4_S  (x0 y1 y2 y3 w4 w5:TV):ASt:=⟨[Jk,Jk,Pt 0,Jk,Jk,Jk,Sr 1,Sr 2,AV.tv x0] ++ Rj 78,[some (BC.cells [CA.t y1,CA.t y2,CA.t y3]),Tr w4,Tr w5] ++ Rz 108,[]⟩
def f31_M (x0 x1:TV):Prg TV :=
 chk (TV.isAgg x0 3) (
 tv (pbin (.int .i64) .lss x1 (I 0)) fun v0 =>
 Prg.ite (asBool v0) (
 ret (TV.lit aB)) (
 tv (plen (.slice 46) (cell x0 2)) fun v1 =>
 tv (pbin (.int .i64) .geq x1 v1) fun v2 =>
 Prg.ite (asBool v2) (
 ret (TV.lit aB)) (
 tvs (pidx 14 (cell x0 2) x1) fun e3 =>
 chk (Nat.ble 14 (List.length e3)) (
 tv (pbin (.int .i64) .eql (nth hole e3 6) (I 2)) fun v4 =>
 Prg.ite (asBool v4) (
 chk true (
 jmp [1,0,1,1,1,1] (f31_0_S (B true) (cell x0 0) (cell x0 1) (cell x0 2) (nth hole e3 6) (nth hole e3 7) (nth hole e3 8) (nth hole e3 9) (nth hole e3 10) (nth hole e3 11) (nth hole e3 12) (nth hole e3 13) (TV.lit aB)))) (
 tv (pbin (.int .i64) .eql (nth hole e3 6) (I 3)) fun v5 =>
 Prg.ite (asBool v5) (
 chk true (
 jmp [1,0,1,1,1,1] (f31_0_S (B true) (cell x0 0) (cell x0 1) (cell x0 2) (nth hole e3 6) (nth hole e3 7) (nth hole e3 8) (nth hole e3 9) (nth hole e3 10) (nth hole e3 11) (nth hole e3 12) (nth hole e3 13) (TV.lit aB)))) (
 tv (pbin (.int .i64) .eql (nth hole e3 6) (I 4)) fun v6 =>
 chk true (
 jmp [1,0,1,1,1,1] (f31_0_S v6 (cell x0 0) (cell x0 1) (cell x0 2) (nth hole e3 6) (nth hole e3 7) (nth hole e3 8) (nth hole e3 9) (nth hole e3 10) (nth hole e3 11) (nth hole e3 12) (nth hole e3 13) (TV.lit aB)))))))))
def f31_0  (x0 y1 y2 y3 y4 y5 y6 y7 y8 y9 y10 y11 w12:TV):Prg TV :=
 Prg.ite (asBool x0) (
 rws (pelems 1 (TV.sl true 1 (chunks 1 1 [y9]))) fun r7 =>
 tv (papp 1 w12 (jR r7)) fun v8 =>
 tv (pbin (.int .i64) .eql y4 (I 3)) fun v9 =>
 jmp [1,0,1,1,1,1,1] (f31_1_S v9 y1 y2 y3 y4 y5 y6 y7 y8 y9 y10 y11 v8)) (
 tv (pbin (.int .i64) .eql y4 (I 3)) fun v10 =>
 jmp [1,0,1,1,1,1,1] (f31_1_S v10 y1 y2 y3 y4 y5 y6 y7 y8 y9 y10 y11 w12))
def f31_1  (x0 y1 y2 y3 y4 y5 y6 y7 y8 y9 y10 y11 w12:TV):Prg TV :=
 Prg.ite (asBool x0) (
 rws (pelems 1 (TV.sl true 1 (chunks 1 1 [y10]))) fun r11 =>
 tv (papp 1 w12 (jR r11)) fun v12 =>
 tv (pbin (.int .i64) .eql y4 (I 4)) fun v13 =>
 jmp [1,0,1,1,1,1,1,1] (f31_2_S v13 y1 y2 y3 y4 y5 y6 y7 y8 y9 y10 y11 v12)) (
 tv (pbin (.int .i64) .eql y4 (I 4)) fun v14 =>
 jmp [1,0,1,1,1,1,1,1] (f31_2_S v14 y1 y2 y3 y4 y5 y6 y7 y8 y9 y10 y11 w12))
def f31_2  (x0 y1 y2 y3 y4 y5 y6 y7 y8 y9 y10 y11 w12:TV):Prg TV :=
 Prg.ite (asBool x0) (
 rws (pelems 1 (TV.sl true 1 (chunks 1 1 [y11]))) fun r15 =>
 tv (papp 1 w12 (jR r15)) fun v16 =>
 chk true (
 jmp [1,0,1,1,1,1,1,1,1,1] (f31_3_S (I 0) y1 y2 y3 v16 (TV.lit aB)))) (
 chk true (
 jmp [1,0,1,1,1,1,1,1,1,1] (f31_3_S (I 0) y1 y2 y3 w12 (TV.lit aB))))
def f31_3  (x0 y1 y2 y3 w4 w5:TV):Prg TV :=
 jmp [0,0,1,0,1,1,1,1,1,1,1,1] (f31_4_S x0 y1 y2 y3 w4 w5)
def f31_4  (x0 y1 y2 y3 w4 w5:TV):Prg TV :=
 tv (plen (.slice 3) w4) fun v17 =>
 tv (pbin (.int .i64) .lss x0 v17) fun v18 =>
 Prg.ite (asBool v18) (
 nat (slLen w4) fun n19 =>
 nat (af x0) fun n20 =>
 chk (Bool.and (slSize w4 1) (Nat.blt n20 n19)) (
 tvs (pel w4 n20) fun e21 =>
 chk (ab ct e21 0) (
 tv (pbin (.int .i64) .geq (nth hole e21 0) (I 0)) fun v22 =>
 Prg.ite (asBool v22) (
 nat (slLen w4) fun n23 =>
 nat (af x0) fun n24 =>
 chk (Bool.and (slSize w4 1) (Nat.blt n24 n23)) (
 tvs (pel w4 n24) fun e25 =>
 chk (ab ct e25 0) (
 tv (plen (.slice 46) y3) fun v26 =>
 tv (pbin (.int .i64) .lss (nth hole e25 0) v26) fun v27 =>
 Prg.ite (asBool v27) (
 nat (slLen w4) fun n28 =>
 nat (af x0) fun n29 =>
 chk (Bool.and (slSize w4 1) (Nat.blt n29 n28)) (
 tvs (pel w4 n29) fun e30 =>
 chk (ab ct e30 0) (
 rws (pelems 1 (TV.sl true 1 (chunks 1 1 [nth hole e30 0]))) fun r31 =>
 tv (papp 1 w5 (jR r31)) fun v32 =>
 tv (pbin (.int .i64) .add x0 (I 1)) fun v33 =>
 jmp [0,0,1,0,1,1,1,1,1,1,1,1] (f31_4_S v33 y1 y2 y3 w4 v32)))) (
 tv (pbin (.int .i64) .add x0 (I 1)) fun v34 =>
 jmp [0,0,1,0,1,1,1,1,1,1,1,1] (f31_4_S v34 y1 y2 y3 w4 w5))))) (
 tv (pbin (.int .i64) .add x0 (I 1)) fun v35 =>
 jmp [0,0,1,0,1,1,1,1,1,1,1,1] (f31_4_S v35 y1 y2 y3 w4 w5))))) (
 ret w5)
theorem f31_MR (x0 x1:TV):au prog 31 [x0,x1]=f31_M x0 x1:=by kernel_rfl
theorem f31_0_J  {x0 y1 y2 y3 y4 y5 y6 y7 y8 y9 y10 y11 w12:TV} {r:TV} (h:aa prog 31 (f31_0 x0 y1 y2 y3 y4 y5 y6 y7 y8 y9 y10 y11 w12) r):aa prog 31 (.jmp [1,0,1,1,1,1] (f31_0_S x0 y1 y2 y3 y4 y5 y6 y7 y8 y9 y10 y11 w12)) r:=aa.jmp (by kernel_rfl) h
theorem f31_1_J  {x0 y1 y2 y3 y4 y5 y6 y7 y8 y9 y10 y11 w12:TV} {r:TV} (h:aa prog 31 (f31_1 x0 y1 y2 y3 y4 y5 y6 y7 y8 y9 y10 y11 w12) r):aa prog 31 (.jmp [1,0,1,1,1,1,1] (f31_1_S x0 y1 y2 y3 y4 y5 y6 y7 y8 y9 y10 y11 w12)) r:=aa.jmp (by kernel_rfl) h
theorem f31_2_J  {x0 y1 y2 y3 y4 y5 y6 y7 y8 y9 y10 y11 w12:TV} {r:TV} (h:aa prog 31 (f31_2 x0 y1 y2 y3 y4 y5 y6 y7 y8 y9 y10 y11 w12) r):aa prog 31 (.jmp [1,0,1,1,1,1,1,1] (f31_2_S x0 y1 y2 y3 y4 y5 y6 y7 y8 y9 y10 y11 w12)) r:=aa.jmp (by kernel_rfl) h
theorem f31_3_J  {x0 y1 y2 y3 w4 w5:TV} {r:TV} (h:aa prog 31 (f31_3 x0 y1 y2 y3 w4 w5) r):aa prog 31 (.jmp [1,0,1,1,1,1,1,1,1,1] (f31_3_S x0 y1 y2 y3 w4 w5)) r:=aa.jmp (by kernel_rfl) h
theorem f31_4_J  {x0 y1 y2 y3 w4 w5:TV} {r:TV} (h:aa prog 31 (f31_4 x0 y1 y2 y3 w4 w5) r):aa prog 31 (.jmp [0,0,1,0,1,1,1,1,1,1,1,1] (f31_4_S x0 y1 y2 y3 w4 w5)) r:=aa.jmp (by kernel_rfl) h
end Go.Ab.D13

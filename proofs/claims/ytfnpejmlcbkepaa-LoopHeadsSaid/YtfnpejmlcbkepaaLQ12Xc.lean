import Derived.Test.YtfnpejmlcbkepaaLQ12T
set_option linter.all false
section
set_option maxRecDepth 100000
namespace Go.Ab.Q12
open Go Go.Ab Go.Proofs
open Go.Ab.TV (hole cell comp isSl isSc isTup cellsL tup agg)
open Go.Ab.Prg (tv tvs rws nat chk call jmp ret)
def f12_0_S  (x0 y1 y2 y3 w4:TV):ASt:=⟨[Jk,Pt 0,Jk,Sr 1,AV.tv x0] ++ Rj 150,[some (BC.cells [CA.t y1,CA.t y2,CA.t y3]),Tr w4] ++ Rz 177,[]⟩
def f12_1_S  (x0:TV) (k1:Nat) (x2 y3 y4 y5 w6:TV):ASt:=⟨[Jk,Pt 0,Jk,Sr 1,AV.tv x0,AV.one (CA.sref 1 0 [(k1,1)]),AV.tv x2] ++ Rj 148,[some (BC.cells [CA.t y3,CA.t y4,CA.t y5]),Tr w6] ++ Rz 177,[]⟩
def f12_2_S  (x0:TV) (k1:Nat) (x2 y3 y4 y5 w6:TV):ASt:=⟨[Jk,Pt 0,Jk,Sr 1,AV.tv x0,AV.one (CA.sref 1 0 [(k1,1)]),AV.tv x2] ++ Rj 148,[some (BC.cells [CA.t y3,CA.t y4,CA.t y5]),Tr w6] ++ Rz 177,[]⟩
def f12_3_S  (x0:TV) (k1:Nat) (x2 y3 y4 y5 w6:TV):ASt:=⟨[Jk,Pt 0,Jk,Sr 1,AV.tv x0,AV.one (CA.sref 1 0 [(k1,1)]),AV.tv x2] ++ Rj 148,[some (BC.cells [CA.t y3,CA.t y4,CA.t y5]),Tr w6] ++ Rz 177,[]⟩
def f12_4_S  (x0:TV) (k1:Nat) (x2 x3 y4 y5 y6 w7 w8:TV):ASt:=⟨[Jk,Pt 0,Jk,Sr 1,AV.tv x0,AV.one (CA.sref 1 0 [(k1,1)]),AV.tv x2,Sr 2,AV.tv x3] ++ Rj 146,[some (BC.cells [CA.t y4,CA.t y5,CA.t y6]),Tr w7,Tr w8] ++ Rz 176,[]⟩
def f12_5_S  (x0:TV) (k1:Nat) (x2 y3 y4 y5 w6:TV):ASt:=⟨[Jk,Pt 0,Jk,Sr 1,AV.tv x0,AV.one (CA.sref 1 0 [(k1,1)]),AV.tv x2] ++ Rj 148,[some (BC.cells [CA.t y3,CA.t y4,CA.t y5]),Tr w6] ++ Rz 177,[]⟩
def f12_6_S  (x0:TV) (k1:Nat) (x2 x3 x4 y5 y6 y7 w8 w9:TV):ASt:=⟨[Jk,Pt 0,Jk,Sr 1,AV.tv x0,AV.one (CA.sref 1 0 [(k1,1)]),AV.tv x2,Jk,Jk,Sr 2,AV.tv x3,AV.tv x4] ++ Rj 143,[some (BC.cells [CA.t y5,CA.t y6,CA.t y7]),Tr w8,Tr w9] ++ Rz 176,[]⟩
def f12_7_S  (x0:TV) (k1:Nat) (x2 x3 y4 y5 y6 w7:TV):ASt:=⟨[Jk,Pt 0,Jk,Sr 1,AV.tv x0,AV.one (CA.sref 1 0 [(k1,1)]),AV.tv x2,Jk,Jk,Jk,AV.tv x3] ++ Rj 144,[some (BC.cells [CA.t y4,CA.t y5,CA.t y6]),Tr w7] ++ Rz 177,[]⟩
def f12_M (x0:TV):Prg TV :=
 chk (TV.isAgg x0 3) (
 call 37 [] fun v0 =>
 chk (ab cN [v0] 0) (
 tv (pun .not v0) fun v1 =>
 Prg.ite (asBool v1) (
 ret (B false)) (
 tv (plen (.slice 59) (cell x0 2)) fun v2 =>
 tv (pbin (.int .i64) .gtr v2 (I 30)) fun v3 =>
 Prg.ite (asBool v3) (
 ret (B true)) (
 call 38 [agg [cell x0 0,cell x0 1,cell x0 2]] fun v4 =>
 chk (ab zSl [v4] 0) (
 jmp [0,0,1,0,1,1,1,1] (f12_0_S (I 0) (cell x0 0) (cell x0 1) (cell x0 2) v4))))))
def f12_0  (x0 y1 y2 y3 w4:TV):Prg TV :=
 tv (plen (.slice 67) w4) fun v5 =>
 tv (pbin (.int .i64) .lss x0 v5) fun v6 =>
 Prg.ite (asBool v6) (
 nat (slLen w4) fun n7 =>
 nat (ac x0) fun n8 =>
 chk (Bool.and (slSize w4 2) (Nat.blt n8 n7)) (
 tvs (pel w4 n8) fun e9 =>
 chk (ab zSl e9 1) (
 nat (slLen w4) fun n10 =>
 nat (ac x0) fun n11 =>
 chk (Bool.and (slSize w4 2) (Nat.blt n11 n10)) (
 tvs (pel w4 n11) fun e12 =>
 chk (ab aR e12 0) (
 tv (bh [(n8,1)] w4) fun v13 =>
 call 26 [frz v13,nth hole e12 0] fun v14 =>
 chk (ab cN [v14] 0) (
 tv (pun .not v14) fun v15 =>
 Prg.ite (asBool v15) (
 ret (B false)) (
 tv (pbin (.int .i64) .gtr x0 (I 0)) fun v16 =>
 Prg.ite (asBool v16) (
 nat (slLen w4) fun n17 =>
 nat (ac x0) fun n18 =>
 chk (Bool.and (slSize w4 2) (Nat.blt n18 n17)) (
 tvs (pel w4 n18) fun e19 =>
 chk (ab aR e19 0) (
 tv (pbin (.int .i64) .sub x0 (I 1)) fun v20 =>
 nat (slLen w4) fun n21 =>
 nat (ac v20) fun n22 =>
 chk (Bool.and (slSize w4 2) (Nat.blt n22 n21)) (
 tvs (pel w4 n22) fun e23 =>
 chk (ab aR e23 0) (
 tv (pbin (.int .i64) .leq (nth hole e19 0) (nth hole e23 0)) fun v24 =>
 Prg.ite (asBool v24) (
 ret (B false)) (
 jmp [1,1,1,0,0,1,0,0,1,0,1,1,1,1] (f12_1_S x0 n8 (I 0) y1 y2 y3 w4))))))) (
 jmp [1,1,1,0,0,1,0,0,1,0,1,1,1,1] (f12_1_S x0 n8 (I 0) y1 y2 y3 w4))))))))) (
 ret (B true))
def f12_1  (x0:TV) (k1:Nat) (x2 y3 y4 y5 w6:TV):Prg TV :=
 jmp [0,0,1,1,1,0,0,1,0,0,1,0,1,1,1,1] (f12_2_S x0 k1 x2 y3 y4 y5 w6)
def f12_2  (x0:TV) (k1:Nat) (x2 y3 y4 y5 w6:TV):Prg TV :=
 tv (bh [(k1,1)] w6) fun v25 =>
 tv (plen (.slice 3) v25) fun v26 =>
 tv (pbin (.int .i64) .lss x2 v26) fun v27 =>
 Prg.ite (asBool v27) (
 nat (slLen w6) fun n28 =>
 nat (ac x0) fun n29 =>
 chk (Bool.and (slSize w6 2) (Nat.blt n29 n28)) (
 tvs (pel w6 n29) fun e30 =>
 chk (ab aR e30 0) (
 tv (bh [(k1,1)] w6) fun v31 =>
 nat (slLen v31) fun n32 =>
 nat (ac x2) fun n33 =>
 chk (Bool.and (slSize v31 1) (Nat.blt n33 n32)) (
 tv (bh [(k1,1)] w6) fun v34 =>
 tvs (pel v34 n33) fun e35 =>
 chk (ab aR e35 0) (
 call 33 [agg [y3,y4,y5],nth hole e30 0,nth hole e35 0] fun v36 =>
 chk (ab cN [v36] 0) (
 tv (pun .not v36) fun v37 =>
 Prg.ite (asBool v37) (
 ret (B false)) (
 tv (pbin (.int .i64) .gtr x2 (I 0)) fun v38 =>
 Prg.ite (asBool v38) (
 tv (bh [(k1,1)] w6) fun v39 =>
 nat (slLen v39) fun n40 =>
 nat (ac x2) fun n41 =>
 chk (Bool.and (slSize v39 1) (Nat.blt n41 n40)) (
 tv (bh [(k1,1)] w6) fun v42 =>
 tvs (pel v42 n41) fun e43 =>
 chk (ab aR e43 0) (
 tv (pbin (.int .i64) .sub x2 (I 1)) fun v44 =>
 tv (bh [(k1,1)] w6) fun v45 =>
 nat (slLen v45) fun n46 =>
 nat (ac v44) fun n47 =>
 chk (Bool.and (slSize v45 1) (Nat.blt n47 n46)) (
 tv (bh [(k1,1)] w6) fun v48 =>
 tvs (pel v48 n47) fun e49 =>
 chk (ab aR e49 0) (
 tv (pbin (.int .i64) .leq (nth hole e43 0) (nth hole e49 0)) fun v50 =>
 Prg.ite (asBool v50) (
 ret (B false)) (
 jmp [1,0,0,1,0,0,1,1,1,0,0,1,0,0,1,0,1,1,1,1] (f12_3_S x0 k1 x2 y3 y4 y5 w6))))))) (
 jmp [1,0,0,1,0,0,1,1,1,0,0,1,0,0,1,0,1,1,1,1] (f12_3_S x0 k1 x2 y3 y4 y5 w6))))))))) (
 tv (pbin (.int .i64) .add x0 (I 1)) fun v51 =>
 jmp [0,0,1,0,1,1,1,1] (f12_0_S v51 y3 y4 y5 w6))
def f12_3  (x0:TV) (k1:Nat) (x2 y3 y4 y5 w6:TV):Prg TV :=
 tv (bh [(k1,1)] w6) fun v52 =>
 nat (slLen v52) fun n53 =>
 nat (ac x2) fun n54 =>
 chk (Bool.and (slSize v52 1) (Nat.blt n54 n53)) (
 tv (bh [(k1,1)] w6) fun v55 =>
 tvs (pel v55 n54) fun e56 =>
 chk (ab aR e56 0) (
 call 19 [agg [y3,y4,y5],nth hole e56 0] fun v57 =>
 chk (ab zSl [v57] 0) (
 jmp [0,0,1,0,1,1,0,0,1,0,0,1,1,1,0,0,1,0,0,1,0,1,1,1,1] (f12_4_S x0 k1 x2 (I 0) y3 y4 y5 w6 v57))))
def f12_4  (x0:TV) (k1:Nat) (x2 x3 y4 y5 y6 w7 w8:TV):Prg TV :=
 tv (plen (.slice 3) w8) fun v58 =>
 tv (pbin (.int .i64) .lss x3 v58) fun v59 =>
 Prg.ite (asBool v59) (
 tv (bh [(k1,1)] w7) fun v60 =>
 nat (slLen v60) fun n61 =>
 nat (ac x2) fun n62 =>
 chk (Bool.and (slSize v60 1) (Nat.blt n62 n61)) (
 tv (bh [(k1,1)] w7) fun v63 =>
 tvs (pel v63 n62) fun e64 =>
 chk (ab aR e64 0) (
 nat (slLen w7) fun n65 =>
 nat (ac x0) fun n66 =>
 chk (Bool.and (slSize w7 2) (Nat.blt n66 n65)) (
 tvs (pel w7 n66) fun e67 =>
 chk (ab aR e67 0) (
 tv (pbin (.int .i64) .neq (nth hole e64 0) (nth hole e67 0)) fun v68 =>
 Prg.ite (asBool v68) (
 call 22 [agg [y4,y5,y6]] fun v69 =>
 chk (ab zSl [v69] 0) (
 nat (slLen w8) fun n70 =>
 nat (ac x3) fun n71 =>
 chk (Bool.and (slSize w8 1) (Nat.blt n71 n70)) (
 tvs (pel w8 n71) fun e72 =>
 chk (ab aR e72 0) (
 nat (slLen v69) fun n73 =>
 nat (ac (nth hole e72 0)) fun n74 =>
 chk (Bool.and (slSize v69 1) (Nat.blt n74 n73)) (
 tvs (pel v69 n74) fun e75 =>
 chk (ab cN e75 0) (
 Prg.ite (asBool (nth hole e75 0)) (
 nat (slLen w8) fun n76 =>
 nat (ac x3) fun n77 =>
 chk (Bool.and (slSize w8 1) (Nat.blt n77 n76)) (
 tvs (pel w8 n77) fun e78 =>
 chk (ab aR e78 0) (
 tv (bh [(k1,1)] w7) fun v79 =>
 call 26 [frz v79,nth hole e78 0] fun v80 =>
 chk (ab cN [v80] 0) (
 tv (pun .not v80) fun v81 =>
 Prg.ite (asBool v81) (
 ret (B false)) (
 tv (pbin (.int .i64) .add x3 (I 1)) fun v82 =>
 jmp [0,0,1,0,1,1,0,0,1,0,0,1,1,1,0,0,1,0,0,1,0,1,1,1,1] (f12_4_S x0 k1 x2 v82 y4 y5 y6 w7 w8)))))) (
 tv (pbin (.int .i64) .add x3 (I 1)) fun v83 =>
 jmp [0,0,1,0,1,1,0,0,1,0,0,1,1,1,0,0,1,0,0,1,0,1,1,1,1] (f12_4_S x0 k1 x2 v83 y4 y5 y6 w7 w8)))))))) (
 tv (pbin (.int .i64) .add x3 (I 1)) fun v84 =>
 jmp [0,0,1,0,1,1,0,0,1,0,0,1,1,1,0,0,1,0,0,1,0,1,1,1,1] (f12_4_S x0 k1 x2 v84 y4 y5 y6 w7 w8))))))) (
 jmp [1,1,1,0,0,1,0,0,1,1,1,0,0,1,0,0,1,0,1,1,1,1] (f12_5_S x0 k1 x2 y4 y5 y6 w7))
def f12_5  (x0:TV) (k1:Nat) (x2 y3 y4 y5 w6:TV):Prg TV :=
 tv (bh [(k1,1)] w6) fun v85 =>
 nat (slLen v85) fun n86 =>
 nat (ac x2) fun n87 =>
 chk (Bool.and (slSize v85 1) (Nat.blt n87 n86)) (
 tv (bh [(k1,1)] w6) fun v88 =>
 tvs (pel v88 n87) fun e89 =>
 chk (ab aR e89 0) (
 call 17 [agg [y3,y4,y5],nth hole e89 0] fun v90 =>
 chk (ab zSl [v90] 0) (
 jmp [0,0,1,0,1,1,1,1,0,0,1,0,0,1,1,1,0,0,1,0,0,1,0,1,1,1,1] (f12_6_S x0 k1 x2 (B false) (I 0) y3 y4 y5 w6 v90))))
def f12_6  (x0:TV) (k1:Nat) (x2 x3 x4 y5 y6 y7 w8 w9:TV):Prg TV :=
 tv (plen (.slice 3) w9) fun v91 =>
 tv (pbin (.int .i64) .lss x4 v91) fun v92 =>
 Prg.ite (asBool v92) (
 Prg.ite (asBool x3) (
 tv (pbin (.int .i64) .add x4 (I 1)) fun v93 =>
 jmp [0,0,1,0,1,1,1,1,0,0,1,0,0,1,1,1,0,0,1,0,0,1,0,1,1,1,1] (f12_6_S x0 k1 x2 (B true) v93 y5 y6 y7 w8 w9)) (
 nat (slLen w9) fun n94 =>
 nat (ac x4) fun n95 =>
 chk (Bool.and (slSize w9 1) (Nat.blt n95 n94)) (
 tvs (pel w9 n95) fun e96 =>
 chk (ab aR e96 0) (
 tv (bh [(k1,1)] w8) fun v97 =>
 call 26 [frz v97,nth hole e96 0] fun v98 =>
 chk (ab cN [v98] 0) (
 tv (pbin (.int .i64) .add x4 (I 1)) fun v99 =>
 jmp [0,0,1,0,1,1,1,1,0,0,1,0,0,1,1,1,0,0,1,0,0,1,0,1,1,1,1] (f12_6_S x0 k1 x2 v98 v99 y5 y6 y7 w8 w9)))))) (
 jmp [1,1,1,1,1,0,0,1,0,0,1,1,1,0,0,1,0,0,1,0,1,1,1,1] (f12_7_S x0 k1 x2 x3 y5 y6 y7 w8))
def f12_7  (x0:TV) (k1:Nat) (x2 x3 y4 y5 y6 w7:TV):Prg TV :=
 tv (pun .not x3) fun v100 =>
 Prg.ite (asBool v100) (
 ret (B false)) (
 tv (pbin (.int .i64) .add x2 (I 1)) fun v101 =>
 jmp [0,0,1,1,1,0,0,1,0,0,1,0,1,1,1,1] (f12_2_S x0 k1 v101 y4 y5 y6 w7))
theorem f12_MR (x0:TV):bm prog 12 [x0]=f12_M x0:=by kernel_rfl
theorem f12_0_J  {x0 y1 y2 y3 w4:TV} {r:TV} (h:aa prog 12 (f12_0 x0 y1 y2 y3 w4) r):aa prog 12 (.jmp [0,0,1,0,1,1,1,1] (f12_0_S x0 y1 y2 y3 w4)) r:=aa.jmp (by kernel_rfl) h
theorem f12_1_J  {x0:TV} {k1:Nat} {x2 y3 y4 y5 w6:TV} {r:TV} (h:aa prog 12 (f12_1 x0 k1 x2 y3 y4 y5 w6) r):aa prog 12 (.jmp [1,1,1,0,0,1,0,0,1,0,1,1,1,1] (f12_1_S x0 k1 x2 y3 y4 y5 w6)) r:=aa.jmp (by kernel_rfl) h
theorem f12_2_J  {x0:TV} {k1:Nat} {x2 y3 y4 y5 w6:TV} {r:TV} (h:aa prog 12 (f12_2 x0 k1 x2 y3 y4 y5 w6) r):aa prog 12 (.jmp [0,0,1,1,1,0,0,1,0,0,1,0,1,1,1,1] (f12_2_S x0 k1 x2 y3 y4 y5 w6)) r:=aa.jmp (by kernel_rfl) h
theorem f12_3_J  {x0:TV} {k1:Nat} {x2 y3 y4 y5 w6:TV} {r:TV} (h:aa prog 12 (f12_3 x0 k1 x2 y3 y4 y5 w6) r):aa prog 12 (.jmp [1,0,0,1,0,0,1,1,1,0,0,1,0,0,1,0,1,1,1,1] (f12_3_S x0 k1 x2 y3 y4 y5 w6)) r:=aa.jmp (by kernel_rfl) h
theorem f12_4_J  {x0:TV} {k1:Nat} {x2 x3 y4 y5 y6 w7 w8:TV} {r:TV} (h:aa prog 12 (f12_4 x0 k1 x2 x3 y4 y5 y6 w7 w8) r):aa prog 12 (.jmp [0,0,1,0,1,1,0,0,1,0,0,1,1,1,0,0,1,0,0,1,0,1,1,1,1] (f12_4_S x0 k1 x2 x3 y4 y5 y6 w7 w8)) r:=aa.jmp (by kernel_rfl) h
theorem f12_5_J  {x0:TV} {k1:Nat} {x2 y3 y4 y5 w6:TV} {r:TV} (h:aa prog 12 (f12_5 x0 k1 x2 y3 y4 y5 w6) r):aa prog 12 (.jmp [1,1,1,0,0,1,0,0,1,1,1,0,0,1,0,0,1,0,1,1,1,1] (f12_5_S x0 k1 x2 y3 y4 y5 w6)) r:=aa.jmp (by kernel_rfl) h
theorem f12_6_J  {x0:TV} {k1:Nat} {x2 x3 x4 y5 y6 y7 w8 w9:TV} {r:TV} (h:aa prog 12 (f12_6 x0 k1 x2 x3 x4 y5 y6 y7 w8 w9) r):aa prog 12 (.jmp [0,0,1,0,1,1,1,1,0,0,1,0,0,1,1,1,0,0,1,0,0,1,0,1,1,1,1] (f12_6_S x0 k1 x2 x3 x4 y5 y6 y7 w8 w9)) r:=aa.jmp (by kernel_rfl) h
theorem f12_7_J  {x0:TV} {k1:Nat} {x2 x3 y4 y5 y6 w7:TV} {r:TV} (h:aa prog 12 (f12_7 x0 k1 x2 x3 y4 y5 y6 w7) r):aa prog 12 (.jmp [1,1,1,1,1,0,0,1,0,0,1,1,1,0,0,1,0,0,1,0,1,1,1,1] (f12_7_S x0 k1 x2 x3 y4 y5 y6 w7)) r:=aa.jmp (by kernel_rfl) h
def f16_0_S  (x0 x1 x2:TV):ASt:=⟨[AV.tv x0,AV.tv x1,Jk,Jk,Jk,AV.tv x2] ++ Rj 20,Rz 50,[]⟩
def f16_M (x0 x1:TV):Prg TV :=
 tv (plen (.slice 3) x0) fun v0 =>
 tv (plen (.slice 3) x1) fun v1 =>
 tv (pbin (.int .i64) .neq v0 v1) fun v2 =>
 Prg.ite (asBool v2) (
 ret (B false)) (
 jmp [0,0,1,0,1,1] (f16_0_S x0 x1 (I 0)))
def f16_0  (x0 x1 x2:TV):Prg TV :=
 tv (plen (.slice 3) x0) fun v3 =>
 tv (pbin (.int .i64) .lss x2 v3) fun v4 =>
 Prg.ite (asBool v4) (
 tvs (pidx 1 x0 x2) fun e5 =>
 chk (Nat.blt 0 (List.length e5)) (
 tvs (pidx 1 x1 x2) fun e6 =>
 chk (Nat.blt 0 (List.length e6)) (
 tv (pbin (.int .i64) .neq (nth hole e5 0) (nth hole e6 0)) fun v7 =>
 Prg.ite (asBool v7) (
 ret (B false)) (
 tv (pbin (.int .i64) .add x2 (I 1)) fun v8 =>
 jmp [0,0,1,0,1,1] (f16_0_S x0 x1 v8))))) (
 ret (B true))
theorem f16_MR (x0 x1:TV):bm prog 16 [x0,x1]=f16_M x0 x1:=by kernel_rfl
theorem f16_0_J  {x0 x1 x2:TV} {r:TV} (h:aa prog 16 (f16_0 x0 x1 x2) r):aa prog 16 (.jmp [0,0,1,0,1,1] (f16_0_S x0 x1 x2)) r:=aa.jmp (by kernel_rfl) h
def f17_0_S  (y0 y1 y2 w3:TV):ASt:=⟨[Jk,Jk,Pt 0,Jk,Jk,Jk,Sr 1] ++ Rj 24,[some (BC.cells [CA.t y0,CA.t y1,CA.t y2]),Tr w3] ++ Rz 53,[]⟩
def f17_1_S  (x0 x1 w2 y3 y4 y5:TV):ASt:=⟨[Sr 0,AV.clo 44 [CA.ptr 1 0]] ++ Rj 5 ++ [AV.tv x0,AV.tv x1] ++ Rj 10,[Tr w2,some (BC.cells [CA.t y3,CA.t y4,CA.t y5])] ++ Rz 114,(Rj 31 ++ [Sr 0,AV.clo 44 [CA.ptr 1 0]] ++ Rj 40)⟩
def f17_2_S  (x0 x1 w2 y3 y4 y5:TV):ASt:=⟨[Sr 0,AV.clo 44 [CA.ptr 1 0],Jk,Jk,Jk,AV.tv x0,AV.tv x1] ++ Rj 35,[Tr w2,some (BC.cells [CA.t y3,CA.t y4,CA.t y5])] ++ Rz 95,Rj 31⟩
def f17_3_S  (x0 w1:TV):ASt:=⟨[Sr 0] ++ Rj 4 ++ [AV.tv x0] ++ Rj 36,[Tr w1] ++ Rz 96,Rj 31⟩
def f17_M (x0 x1:TV):Prg TV :=
 chk (TV.isAgg x0 3) (
 call 41 [agg [cell x0 0,cell x0 1,cell x0 2],x1] fun v0 =>
 chk (ab cN [v0] 0) (
 tv (pun .not v0) fun v1 =>
 Prg.ite (asBool v1) (
 chk true (
 ret (TV.lit aI))) (
 tvs (pidx 14 (cell x0 2) x1) fun e2 =>
 chk (Nat.ble 14 (List.length e2)) (
 call 42 [agg [nth hole e2 0,nth hole e2 1,nth hole e2 2,nth hole e2 3,nth hole e2 4,nth hole e2 5,nth hole e2 6,nth hole e2 7,nth hole e2 8,nth hole e2 9,nth hole e2 10,nth hole e2 11,nth hole e2 12,nth hole e2 13]] fun v3 =>
 chk (ab zSl [v3] 0) (
 tv (pbin (.int .i64) .eql (nth hole e2 6) (I 4)) fun v4 =>
 Prg.ite (asBool v4) (
 rws (pelems 1 (TV.sl true 1 (chunks 1 1 [nth hole e2 13]))) fun r5 =>
 tv (papp 1 v3 (lq r5)) fun v6 =>
 jmp [1,1,1,1,1] (f17_0_S (cell x0 0) (cell x0 1) (cell x0 2) v6)) (
 jmp [1,1,1,1,1] (f17_0_S (cell x0 0) (cell x0 1) (cell x0 2) v3)))))))
def f17_0  (y0 y1 y2 w3:TV):Prg TV :=
 tv (plen (.slice 3) w3) fun v7 =>
 jmp [0,0,1,0,1,6,0,1,6,0,1,1,1,1,1] (f17_1_S v7 (I 0) w3 y0 y1 y2)
def f17_1  (x0 x1 w2 y3 y4 y5:TV):Prg TV :=
 tv (pbin (.int .i64) .lss x1 x0) fun v8 =>
 Prg.ite (asBool v8) (
 nat (slLen w2) fun n9 =>
 nat (ac x1) fun n10 =>
 chk (Bool.and (slSize w2 1) (Nat.blt n10 n9)) (
 tvs (pel w2 n10) fun e11 =>
 chk (ab aR e11 0) (
 call 41 [agg [y3,y4,y5],nth hole e11 0] fun v12 =>
 chk (ab cN [v12] 0) (
 tv (pun .not v12) fun v13 =>
 Prg.ite (asBool v13) (
 tv (pbin (.int .i64) .eql x1 (TV.lit (Value.int IntKind.i64 (-1)))) fun v14 =>
 Prg.ite (asBool v14) (
 chk (bC w2) (
 ret w2)) (
 tv (pbin (.int .i64) .add x1 (I 1)) fun v15 =>
 jmp [0,0,1,0,1,1,1,6,0,1,1,1,1,1] (f17_2_S x1 v15 w2 y3 y4 y5))) (
 tv (pbin (.int .i64) .add x1 (I 1)) fun v16 =>
 jmp [0,0,1,0,1,6,0,1,6,0,1,1,1,1,1] (f17_1_S x0 v16 w2 y3 y4 y5)))))) (
 tv (pbin (.int .i64) .eql (TV.lit (Value.int IntKind.i64 (-1))) (TV.lit (Value.int IntKind.i64 (-1)))) fun v17 =>
 Prg.ite (asBool v17) (
 chk (bC w2) (
 ret w2)) (
 tv (pbin (.int .i64) .add (TV.lit (Value.int IntKind.i64 (-1))) (I 1)) fun v18 =>
 jmp [0,0,1,0,1,1,1,6,0,1,1,1,1,1] (f17_2_S (TV.lit (Value.int IntKind.i64 (-1))) v18 w2 y3 y4 y5)))
def f17_2  (x0 x1 w2 y3 y4 y5:TV):Prg TV :=
 tv (plen (.slice 3) w2) fun v19 =>
 tv (pbin (.int .i64) .lss x1 v19) fun v20 =>
 Prg.ite (asBool v20) (
 nat (slLen w2) fun n21 =>
 nat (ac x1) fun n22 =>
 chk (Bool.and (slSize w2 1) (Nat.blt n22 n21)) (
 tvs (pel w2 n22) fun e23 =>
 chk (ab aR e23 0) (
 call 41 [agg [y3,y4,y5],nth hole e23 0] fun v24 =>
 chk (ab cN [v24] 0) (
 tv (pun .not v24) fun v25 =>
 tv (pun .not v25) fun v26 =>
 Prg.ite (asBool v26) (
 nat (slLen w2) fun n27 =>
 nat (ac x0) fun n28 =>
 chk (Bool.and (slSize w2 1) (Nat.blt n28 n27)) (
 tvs (pel w2 n28) fun e29 =>
 chk (ab aR e29 0) (
 tv (cX [] w2 n28 0 [nth hole e23 0]) fun v30 =>
 tv (pbin (.int .i64) .add x0 (I 1)) fun v31 =>
 tv (pbin (.int .i64) .add x1 (I 1)) fun v32 =>
 jmp [0,0,1,0,1,1,1,6,0,1,1,1,1,1] (f17_2_S v31 v32 v30 y3 y4 y5)))) (
 tv (pbin (.int .i64) .add x1 (I 1)) fun v33 =>
 jmp [0,0,1,0,1,1,1,6,0,1,1,1,1,1] (f17_2_S x0 v33 w2 y3 y4 y5)))))) (
 jmp [1,1,1,1,6,0,1,1,1,1,1] (f17_3_S x0 w2))
def f17_3  (x0 w1:TV):Prg TV :=
 nat (slLen w1) fun n34 =>
 nat (ac x0) fun n35 =>
 chk (Bool.and (Bool.and (slSize w1 1) (Nat.ble (Option.getD (some n35) 0) (Option.getD none n34))) (Nat.ble (Option.getD none n34) n34)) (
 tv (pclear 1 [I 0] (Option.getD (some n35) 0) ((Option.getD none n34) - (Option.getD (some n35) 0)) w1) fun v36 =>
 nat (slLen v36) fun n37 =>
 nat (ac x0) fun n38 =>
 chk (Bool.and (Bool.and (slSize v36 1) (Nat.ble 0 (Option.getD (some n38) n37))) (Nat.ble (Option.getD (some n38) n37) n37)) (
 tv (fF 0 ((Option.getD (some n38) n37) - 0) v36) fun v39 =>
 chk (bC v39) (
 ret v39)))
theorem f17_MR (x0 x1:TV):bm prog 17 [x0,x1]=f17_M x0 x1:=by kernel_rfl
theorem f17_0_J  {y0 y1 y2 w3:TV} {r:TV} (h:aa prog 17 (f17_0 y0 y1 y2 w3) r):aa prog 17 (.jmp [1,1,1,1,1] (f17_0_S y0 y1 y2 w3)) r:=aa.jmp (by kernel_rfl) h
theorem f17_1_J  {x0 x1 w2 y3 y4 y5:TV} {r:TV} (h:aa prog 17 (f17_1 x0 x1 w2 y3 y4 y5) r):aa prog 17 (.jmp [0,0,1,0,1,6,0,1,6,0,1,1,1,1,1] (f17_1_S x0 x1 w2 y3 y4 y5)) r:=aa.jmp (by kernel_rfl) h
theorem f17_2_J  {x0 x1 w2 y3 y4 y5:TV} {r:TV} (h:aa prog 17 (f17_2 x0 x1 w2 y3 y4 y5) r):aa prog 17 (.jmp [0,0,1,0,1,1,1,6,0,1,1,1,1,1] (f17_2_S x0 x1 w2 y3 y4 y5)) r:=aa.jmp (by kernel_rfl) h
theorem f17_3_J  {x0 w1:TV} {r:TV} (h:aa prog 17 (f17_3 x0 w1) r):aa prog 17 (.jmp [1,1,1,1,6,0,1,1,1,1,1] (f17_3_S x0 w1)) r:=aa.jmp (by kernel_rfl) h
end Go.Ab.Q12
end
section
set_option maxRecDepth 100000
namespace Go.Ab.Q12
open Go Go.Ab Go.Proofs
open Go.Ab.TV (hole cell comp isSl isSc isTup cellsL tup agg)
open Go.Ab.Prg (tv tvs rws nat chk call jmp ret)
def f19_0_S  (x0 x1 x2 y3 y4 y5 w6:TV):ASt:=⟨[Jk,AV.tv x0,Pt 0,Jk,Jk,Sr 1,Jk,Jk,Jk,AV.tv x1,AV.tv x2] ++ Rj 13,[some (BC.cells [CA.t y3,CA.t y4,CA.t y5]),Tr w6] ++ Rz 46,[]⟩
def f19_M (x0 x1:TV):Prg TV :=
 chk (TV.isAgg x0 3) (
 tv (plen (.slice 59) (cell x0 2)) fun v0 =>
 chk true (
 jmp [0,0,1,0,1,1] (f19_0_S x1 v0 (I 0) (cell x0 0) (cell x0 1) (cell x0 2) (TV.lit aI))))
def f19_0  (x0 x1 x2 y3 y4 y5 w6:TV):Prg TV :=
 tv (pbin (.int .i64) .lss x2 x1) fun v1 =>
 Prg.ite (asBool v1) (
 call 17 [agg [y3,y4,y5],x2] fun v2 =>
 chk (ab zSl [v2] 0) (
 call 45 [frz v2,x0] fun v3 =>
 chk (ab cN [v3] 0) (
 Prg.ite (asBool v3) (
 chk (TV.cW x2) (
 rws (pelems 1 (TV.sl true 1 (chunks 1 1 [x2]))) fun r4 =>
 tv (papp 1 w6 (lq r4)) fun v5 =>
 tv (pbin (.int .i64) .add x2 (I 1)) fun v6 =>
 jmp [0,0,1,0,1,1] (f19_0_S x0 x1 v6 y3 y4 y5 v5))) (
 tv (pbin (.int .i64) .add x2 (I 1)) fun v7 =>
 jmp [0,0,1,0,1,1] (f19_0_S x0 x1 v7 y3 y4 y5 w6))))) (
 chk (bC w6) (
 ret w6))
theorem f19_MR (x0 x1:TV):bm prog 19 [x0,x1]=f19_M x0 x1:=by kernel_rfl
theorem f19_0_J  {x0 x1 x2 y3 y4 y5 w6:TV} {r:TV} (h:aa prog 19 (f19_0 x0 x1 x2 y3 y4 y5 w6) r):aa prog 19 (.jmp [0,0,1,0,1,1] (f19_0_S x0 x1 x2 y3 y4 y5 w6)) r:=aa.jmp (by kernel_rfl) h
def f22_0_S  (x0 x1 w2 w3:TV):ASt:=⟨[Jk,Jk,Jk,Sr 0] ++ Rj 7 ++ [Sr 1,AV.tv x0,AV.tv x1] ++ Rj 8,[Tr w2,Tr w3] ++ Rz 44,[]⟩
def f22_M (x0:TV):Prg TV :=
 chk (TV.isAgg x0 3) (
 tv (plen (.slice 59) (cell x0 2)) fun v0 =>
 nat (ac v0) fun n1 =>
 nat (ac v0) fun n2 =>
 chk (Bool.and (Nat.ble n1 n2) (Nat.ble n2 4294967296)) (
 call 24 [agg [cell x0 0,cell x0 1,cell x0 2]] fun v3 =>
 chk (ab zSl [v3] 0) (
 tv (plen (.slice 3) v3) fun v4 =>
 jmp [0,0,1,0,1,1] (f22_0_S v4 (I 0) (TV.sl true 1 (List.replicate n1 [B false])) v3))))
def f22_0  (x0 x1 w2 w3:TV):Prg TV :=
 tv (pbin (.int .i64) .lss x1 x0) fun v5 =>
 Prg.ite (asBool v5) (
 nat (slLen w3) fun n6 =>
 nat (ac x1) fun n7 =>
 chk (Bool.and (slSize w3 1) (Nat.blt n7 n6)) (
 tvs (pel w3 n7) fun e8 =>
 chk (ab aR e8 0) (
 nat (slLen w2) fun n9 =>
 nat (ac (nth hole e8 0)) fun n10 =>
 chk (Bool.and (slSize w2 1) (Nat.blt n10 n9)) (
 tvs (pel w2 n10) fun e11 =>
 chk (ab cN e11 0) (
 tv (cX [] w2 n10 0 [B true]) fun v12 =>
 tv (pbin (.int .i64) .add x1 (I 1)) fun v13 =>
 jmp [0,0,1,0,1,1] (f22_0_S x0 v13 v12 w3)))))) (
 ret w2)
theorem f22_MR (x0:TV):bm prog 22 [x0]=f22_M x0:=by kernel_rfl
theorem f22_0_J  {x0 x1 w2 w3:TV} {r:TV} (h:aa prog 22 (f22_0 x0 x1 w2 w3) r):aa prog 22 (.jmp [0,0,1,0,1,1] (f22_0_S x0 x1 w2 w3)) r:=aa.jmp (by kernel_rfl) h
def f24_0_S  (w0 y1 y2 y3 w4 w5 w6:TV):ASt:=⟨[Jk,Sr 0] ++ Rj 5 ++ [Pt 1] ++ Rj 22,[Tr w0,some (BC.cells [CA.fn1 48 2,CA.sref 3 0 [],CA.sref 4 0 [],CA.sref 5 0 []]),some (BC.cells [CA.t y1,CA.t y2,CA.t y3]),Tr w4,Tr w5,Tr w6] ++ Rz 65,Rj 17⟩
def f24_1_S  (x0 x1 w2 y3 y4 y5 w6 w7 w8:TV):ASt:=⟨Rj 7 ++ [Pt 0] ++ Rj 6 ++ [Sr 1,AV.tv x0,AV.tv x1] ++ Rj 13,[some (BC.cells [CA.fn1 48 2,CA.sref 3 0 [],CA.sref 4 0 [],CA.sref 5 0 []]),Tr w2,some (BC.cells [CA.t y3,CA.t y4,CA.t y5]),Tr w6,Tr w7,Tr w8] ++ Rz 65,Rj 17⟩
def f24_2_S  (x0 x1 w2 y3 y4 y5 w6 w7 w8:TV):ASt:=⟨Rj 7 ++ [Pt 0] ++ Rj 6 ++ [Sr 1,AV.tv x0,AV.tv x1] ++ Rj 13,[some (BC.cells [CA.fn1 48 2,CA.sref 3 0 [],CA.sref 4 0 [],CA.sref 5 0 []]),Tr w2,some (BC.cells [CA.t y3,CA.t y4,CA.t y5]),Tr w6,Tr w7,Tr w8] ++ Rz 65,Rj 17⟩
def f24_3_S  (x0 x1 w2:TV):ASt:=⟨[Sr 0,Jk,AV.tv x0,AV.tv x1] ++ Rj 24,[Tr w2] ++ Rz 68,([Jk,Jk,Jk,Sr 0] ++ Rj 13)⟩
def f24_M (x0:TV):Prg TV :=
 chk (TV.isAgg x0 3) (
 tv (plen (.slice 59) (cell x0 2)) fun v0 =>
 tv (pbin (.int .i64) .eql v0 (I 0)) fun v1 =>
 Prg.ite (asBool v1) (
 chk true (
 ret (TV.lit aI))) (
 tv (plen (.slice 59) (cell x0 2)) fun v2 =>
 nat (ac v2) fun n3 =>
 nat (ac v2) fun n4 =>
 chk (Bool.and (Nat.ble n3 n4) (Nat.ble n4 4294967296)) (
 chk true (
 chk true (
 jmp [1,1,12,0,1,1] (f24_0_S (TV.sl true 1 (chunks 1 1 [I 0])) (cell x0 0) (cell x0 1) (cell x0 2) (TV.sl true 1 (List.replicate n3 [B false])) (TV.lit aI) (TV.lit aI)))))))
def f24_0  (w0 y1 y2 y3 w4 w5 w6:TV):Prg TV :=
 tv (plen (.slice 3) w0) fun v5 =>
 jmp [0,0,1,0,1,1,12,0,1,1] (f24_1_S v5 (I 0) w0 y1 y2 y3 w4 (dK w5) w6)
def f24_1  (x0 x1 w2 y3 y4 y5 w6 w7 w8:TV):Prg TV :=
 tv (pbin (.int .i64) .lss x1 x0) fun v6 =>
 Prg.ite (asBool v6) (
 nat (slLen w2) fun n7 =>
 nat (ac x1) fun n8 =>
 chk (Bool.and (slSize w2 1) (Nat.blt n8 n7)) (
 tvs (pel w2 n8) fun e9 =>
 chk (ab aR e9 0) (
 nat (slLen w6) fun n10 =>
 nat (ac (nth hole e9 0)) fun n11 =>
 chk (Bool.and (slSize w6 1) (Nat.blt n11 n10)) (
 tvs (pel w6 n11) fun e12 =>
 chk (ab cN e12 0) (
 tv (pun .not (nth hole e12 0)) fun v13 =>
 Prg.ite (asBool v13) (
 nat (slLen w6) fun n14 =>
 nat (ac (nth hole e9 0)) fun n15 =>
 chk (Bool.and (slSize w6 1) (Nat.blt n15 n14)) (
 tvs (pel w6 n15) fun e16 =>
 chk (ab cN e16 0) (
 tv (cX [] w6 n15 0 [B true]) fun v17 =>
 call 48 [uX (nth hole e9 0),agg [y3,y4,y5]] fun v18 =>
 chk (ab zSl [v18] 0) (
 rws (pelems 2 (TV.sl true 2 (chunks 2 1 [nth hole e9 0,v18]))) fun r19 =>
 tv (papp 2 w7 r19) fun v20 =>
 jmp [0,0,1,1,0,0,1,1,0,0,1,0,1,1,12,0,1,1] (f24_2_S x0 x1 w2 y3 y4 y5 v17 (dK v20) w8))))) (
 jmp [0,0,1,1,0,0,1,1,0,0,1,0,1,1,12,0,1,1] (f24_2_S x0 x1 w2 y3 y4 y5 w6 (dK w7) w8))))))) (
 tv (plen (.slice 3) w8) fun v21 =>
 tv (pbin (.int .i64) .sub v21 (I 1)) fun v22 =>
 jmp [0,0,1,4,0,1,1,1] (f24_3_S (I 0) v22 w8))
def f24_2  (x0 x1 w2 y3 y4 y5 w6 w7 w8:TV):Prg TV :=
 tv (plen (.slice 126) w7) fun v23 =>
 tv (pbin (.int .i64) .gtr v23 (I 0)) fun v24 =>
 Prg.ite (asBool v24) (
 tv (plen (.slice 126) w7) fun v25 =>
 tv (pbin (.int .i64) .sub v25 (I 1)) fun v26 =>
 nat (slLen w7) fun n27 =>
 nat (ac v26) fun n28 =>
 chk (Bool.and (slSize w7 2) (Nat.blt n28 n27)) (
 tvs (pel w7 n28) fun e29 =>
 chk (ab zSl e29 1) (
 tv (bh [(n28,1)] w7) fun v30 =>
 tv (plen (.slice 3) v30) fun v31 =>
 tv (pbin (.int .i64) .eql v31 (I 0)) fun v32 =>
 Prg.ite (asBool v32) (
 tv (plen (.slice 126) w7) fun v33 =>
 tv (pbin (.int .i64) .sub v33 (I 1)) fun v34 =>
 nat (slLen w7) fun n35 =>
 nat (ac v34) fun n36 =>
 chk (Bool.and (slSize w7 2) (Nat.blt n36 n35)) (
 tvs (pel w7 n36) fun e37 =>
 chk (ab aR e37 0) (
 rws (pelems 1 (TV.sl true 1 (chunks 1 1 [nth hole e37 0]))) fun r38 =>
 tv (papp 1 w8 (lq r38)) fun v39 =>
 nat (slLen w7) fun n40 =>
 nat (ac v34) fun n41 =>
 chk (Bool.and (Bool.and (slSize w7 2) (Nat.ble 0 (Option.getD (some n41) n40))) (Nat.ble (Option.getD (some n41) n40) n40)) (
 tv (fF 0 ((Option.getD (some n41) n40) - 0) w7) fun v42 =>
 jmp [0,0,1,1,0,0,1,1,0,0,1,0,1,1,12,0,1,1] (f24_2_S x0 x1 w2 y3 y4 y5 w6 (dK v42) v39))))) (
 tvs (pel w7 n28) fun e43 =>
 chk (ab zSl e43 1) (
 tv (bh [(n28,1)] w7) fun v44 =>
 nat (slLen v44) fun n45 =>
 nat (ac (I 0)) fun n46 =>
 chk (Bool.and (slSize v44 1) (Nat.blt n46 n45)) (
 tv (bh [(n28,1)] w7) fun v47 =>
 tvs (pel v47 n46) fun e48 =>
 chk (ab aR e48 0) (
 tvs (pel w7 n28) fun e49 =>
 chk (ab zSl e49 1) (
 tv (bh [(n28,1)] w7) fun v50 =>
 nat (slLen v50) fun n51 =>
 nat (ac (I 1)) fun n52 =>
 chk (Bool.and (Bool.and (slSize v50 1) (Nat.ble (Option.getD (some n52) 0) (Option.getD none n51))) (Nat.ble (Option.getD none n51) n51)) (
 tv (bh [(n28,1)] w7) fun v53 =>
 tv (fF (Option.getD (some n52) 0) ((Option.getD none n51) - (Option.getD (some n52) 0)) v53) fun v54 =>
 chk (TV.ig v54) (
 tvs (pel w7 n28) fun e55 =>
 chk (Bool.and (eM zSl e55 1) (ab zSl [v54] 0)) (
 tv (cX [] w7 n28 1 [v54]) fun v56 =>
 nat (slLen w6) fun n57 =>
 nat (ac (nth hole e48 0)) fun n58 =>
 chk (Bool.and (slSize w6 1) (Nat.blt n58 n57)) (
 tvs (pel w6 n58) fun e59 =>
 chk (ab cN e59 0) (
 tv (pun .not (nth hole e59 0)) fun v60 =>
 Prg.ite (asBool v60) (
 nat (slLen w6) fun n61 =>
 nat (ac (nth hole e48 0)) fun n62 =>
 chk (Bool.and (slSize w6 1) (Nat.blt n62 n61)) (
 tvs (pel w6 n62) fun e63 =>
 chk (ab cN e63 0) (
 tv (cX [] w6 n62 0 [B true]) fun v64 =>
 call 48 [uX (nth hole e48 0),agg [y3,y4,y5]] fun v65 =>
 chk (ab zSl [v65] 0) (
 rws (pelems 2 (TV.sl true 2 (chunks 2 1 [nth hole e48 0,v65]))) fun r66 =>
 tv (papp 2 v56 r66) fun v67 =>
 jmp [0,0,1,1,0,0,1,1,0,0,1,0,1,1,12,0,1,1] (f24_2_S x0 x1 w2 y3 y4 y5 v64 (dK v67) w8))))) (
 jmp [0,0,1,1,0,0,1,1,0,0,1,0,1,1,12,0,1,1] (f24_2_S x0 x1 w2 y3 y4 y5 w6 (dK v56) w8))))))))))))))) (
 tv (pbin (.int .i64) .add x1 (I 1)) fun v68 =>
 jmp [0,0,1,0,1,1,12,0,1,1] (f24_1_S x0 v68 w2 y3 y4 y5 w6 (dK w7) w8))
def f24_3  (x0 x1 w2:TV):Prg TV :=
 tv (pbin (.int .i64) .lss x0 x1) fun v69 =>
 Prg.ite (asBool v69) (
 nat (slLen w2) fun n70 =>
 nat (ac x1) fun n71 =>
 chk (Bool.and (slSize w2 1) (Nat.blt n71 n70)) (
 tvs (pel w2 n71) fun e72 =>
 chk (ab aR e72 0) (
 nat (slLen w2) fun n73 =>
 nat (ac x0) fun n74 =>
 chk (Bool.and (slSize w2 1) (Nat.blt n74 n73)) (
 tvs (pel w2 n74) fun e75 =>
 chk (ab aR e75 0) (
 nat (slLen w2) fun n76 =>
 nat (ac x0) fun n77 =>
 chk (Bool.and (slSize w2 1) (Nat.blt n77 n76)) (
 tvs (pel w2 n77) fun e78 =>
 chk (ab aR e78 0) (
 tv (cX [] w2 n77 0 [nth hole e72 0]) fun v79 =>
 nat (slLen v79) fun n80 =>
 nat (ac x1) fun n81 =>
 chk (Bool.and (slSize v79 1) (Nat.blt n81 n80)) (
 tvs (pel v79 n81) fun e82 =>
 chk (ab aR e82 0) (
 tv (cX [] v79 n81 0 [nth hole e75 0]) fun v83 =>
 tv (pbin (.int .i64) .add x0 (I 1)) fun v84 =>
 tv (pbin (.int .i64) .sub x1 (I 1)) fun v85 =>
 jmp [0,0,1,4,0,1,1,1] (f24_3_S v84 v85 v83)))))))))) (
 chk (bC w2) (
 ret w2))
theorem f24_MR (x0:TV):bm prog 24 [x0]=f24_M x0:=by kernel_rfl
theorem f24_0_J  {w0 y1 y2 y3 w4 w5 w6:TV} {r:TV} (h:aa prog 24 (f24_0 w0 y1 y2 y3 w4 w5 w6) r):aa prog 24 (.jmp [1,1,12,0,1,1] (f24_0_S w0 y1 y2 y3 w4 w5 w6)) r:=aa.jmp (by kernel_rfl) h
theorem f24_1_J  {x0 x1 w2 y3 y4 y5 w6 w7 w8:TV} {r:TV} (h:aa prog 24 (f24_1 x0 x1 w2 y3 y4 y5 w6 w7 w8) r):aa prog 24 (.jmp [0,0,1,0,1,1,12,0,1,1] (f24_1_S x0 x1 w2 y3 y4 y5 w6 w7 w8)) r:=aa.jmp (by kernel_rfl) h
theorem f24_2_J  {x0 x1 w2 y3 y4 y5 w6 w7 w8:TV} {r:TV} (h:aa prog 24 (f24_2 x0 x1 w2 y3 y4 y5 w6 w7 w8) r):aa prog 24 (.jmp [0,0,1,1,0,0,1,1,0,0,1,0,1,1,12,0,1,1] (f24_2_S x0 x1 w2 y3 y4 y5 w6 w7 w8)) r:=aa.jmp (by kernel_rfl) h
theorem f24_3_J  {x0 x1 w2:TV} {r:TV} (h:aa prog 24 (f24_3 x0 x1 w2) r):aa prog 24 (.jmp [0,0,1,4,0,1,1,1] (f24_3_S x0 x1 w2)) r:=aa.jmp (by kernel_rfl) h
def f26_0_S  (x0 x1 x2:TV):ASt:=⟨[AV.tv x0,AV.tv x1,Jk,Jk,Jk,AV.tv x2] ++ Rj 12,Rz 42,[]⟩
def f26_M (x0 x1:TV):Prg TV :=
 jmp [0,0,1,0,1] (f26_0_S x0 x1 (I 0))
def f26_0  (x0 x1 x2:TV):Prg TV :=
 tv (plen (.slice 3) x0) fun v0 =>
 tv (pbin (.int .i64) .lss x2 v0) fun v1 =>
 Prg.ite (asBool v1) (
 tvs (pidx 1 x0 x2) fun e2 =>
 chk (Nat.blt 0 (List.length e2)) (
 tv (pbin (.int .i64) .eql (nth hole e2 0) x1) fun v3 =>
 Prg.ite (asBool v3) (
 ret (B true)) (
 tv (pbin (.int .i64) .add x2 (I 1)) fun v4 =>
 jmp [0,0,1,0,1] (f26_0_S x0 x1 v4)))) (
 ret (B false))
theorem f26_MR (x0 x1:TV):bm prog 26 [x0,x1]=f26_M x0 x1:=by kernel_rfl
theorem f26_0_J  {x0 x1 x2:TV} {r:TV} (h:aa prog 26 (f26_0 x0 x1 x2) r):aa prog 26 (.jmp [0,0,1,0,1] (f26_0_S x0 x1 x2)) r:=aa.jmp (by kernel_rfl) h
def f31_0_S  (y0 y1 y2 w3 w4 w5:TV):ASt:=⟨[Jk,Pt 0,Jk,Pt 1] ++ Rj 44,[some (BC.cells [CA.t y0,CA.t y1,CA.t y2]),some (BC.cells [CA.sref 2 0 [],CA.sref 2 1 [],CA.sref 2 2 []]),some (BC.tree [w3,w4,w5])] ++ Rz 69,[]⟩
def f31_1_S  (x0 x1 y2 y3 y4 w5 w6 w7:TV):ASt:=⟨[Jk,Pt 0,Jk,AV.tv x0,AV.tv x1] ++ Rj 28,[some (BC.cells [CA.sref 3 0 [],CA.sref 3 1 [],CA.sref 3 2 []]),some (BC.cells [CA.t y2,CA.t y3,CA.t y4]),some (BC.cells [CA.sref 3 0 [],CA.sref 3 1 [],CA.sref 3 2 []]),some (BC.tree [w5,w6,w7])] ++ Rz 101,([Jk,Pt 1,Jk,Pt 2] ++ Rj 44)⟩
def f31_2_S  (y0 y1 y2 w3 w4 w5:TV):ASt:=⟨[Jk,Pt 0,Jk,Pt 1] ++ Rj 44,[some (BC.cells [CA.t y0,CA.t y1,CA.t y2]),some (BC.cells [CA.sref 2 0 [],CA.sref 2 1 [],CA.sref 2 2 []]),some (BC.tree [w3,w4,w5])] ++ Rz 69,[]⟩
def f31_3_S  (x0 x1 w2 w3 w4 w5:TV):ASt:=⟨[Jk,Jk,Jk,Pt 0,Sr 1] ++ Rj 11 ++ [AV.tv x0,AV.tv x1] ++ Rj 30,[some (BC.cells [CA.sref 2 0 [],CA.sref 2 1 [],CA.sref 2 2 []]),Tr w2,some (BC.tree [w3,w4,w5])] ++ Rz 69,[]⟩
def f31_4_S  (w0 w1 w2 w3:TV):ASt:=⟨[Jk,Jk,Jk,Pt 0,Sr 1] ++ Rj 43,[some (BC.cells [CA.sref 2 0 [],CA.sref 2 1 [],CA.sref 2 2 []]),Tr w0,some (BC.tree [w1,w2,w3])] ++ Rz 69,[]⟩
def f31_5_S  (x0 w1 w2 w3 w4:TV):ASt:=⟨[Jk,Jk,Jk,Pt 0,Sr 1,Jk,AV.tv x0] ++ Rj 41,[some (BC.cells [CA.sref 2 0 [],CA.sref 2 1 [],CA.sref 2 2 []]),Tr w1,some (BC.tree [w2,w3,w4])] ++ Rz 69,[]⟩
def f31_M (x0:TV):Prg TV :=
 chk (TV.isAgg x0 3) (
 call 55 [agg [cell x0 0,cell x0 1,cell x0 2]] fun v0 =>
 chk (Bool.and (TV.isAgg v0 3) (ab z84 (cellsL true v0) 0)) (
 jmp [0,0,0,1,1] (f31_0_S (cell x0 0) (cell x0 1) (cell x0 2) (cell v0 0) (cell v0 1) (cell v0 2))))
def f31_0  (y0 y1 y2 w3 w4 w5:TV):Prg TV :=
 jmp [0,0,1,0,1,1,4,0,0,0,0,0,1,1] (f31_1_S (B false) (I 1) y0 y1 y2 w3 w4 w5)
def f31_1  (x0 x1 y2 y3 y4 w5 w6 w7:TV):Prg TV :=
 tv (plen (.slice 3) w7) fun v1 =>
 tv (pbin (.int .i64) .lss x1 v1) fun v2 =>
 Prg.ite (asBool v2) (
 nat (slLen w6) fun n3 =>
 nat (ac x1) fun n4 =>
 chk (Bool.and (slSize w6 1) (Nat.blt n4 n3)) (
 tvs (pel w6 n4) fun e5 =>
 chk (ab zSl e5 0) (
 tv (bh [(n4,0)] w6) fun v6 =>
 call 75 [agg [frz w5,frz w6,frz w7],frz v6] fun v7 =>
 chk (ab aR [v7] 0) (
 nat (slLen w7) fun n8 =>
 nat (ac x1) fun n9 =>
 chk (Bool.and (slSize w7 1) (Nat.blt n9 n8)) (
 tvs (pel w7 n9) fun e10 =>
 chk (ab aR e10 0) (
 tv (pbin (.int .i64) .neq v7 (nth hole e10 0)) fun v11 =>
 Prg.ite (asBool v11) (
 nat (slLen w7) fun n12 =>
 nat (ac x1) fun n13 =>
 chk (Bool.and (slSize w7 1) (Nat.blt n13 n12)) (
 tvs (pel w7 n13) fun e14 =>
 chk (ab aR e14 0) (
 tv (cX [] w7 n13 0 [v7]) fun v15 =>
 tv (pbin (.int .i64) .add x1 (I 1)) fun v16 =>
 jmp [0,0,1,0,1,1,4,0,0,0,0,0,1,1] (f31_1_S (B true) v16 y2 y3 y4 w5 w6 v15)))) (
 tv (pbin (.int .i64) .add x1 (I 1)) fun v17 =>
 jmp [0,0,1,0,1,1,4,0,0,0,0,0,1,1] (f31_1_S x0 v17 y2 y3 y4 w5 w6 w7)))))))) (
 Prg.ite (asBool x0) (
 jmp [0,0,0,1,1] (f31_0_S y2 y3 y4 w5 w6 w7)) (
 jmp [1,1,1] (f31_2_S y2 y3 y4 w5 w6 w7)))
def f31_2  (y0 y1 y2 w3 w4 w5:TV):Prg TV :=
 tv (plen (.slice 59) y2) fun v18 =>
 nat (ac v18) fun n19 =>
 nat (ac v18) fun n20 =>
 chk (Bool.and (Nat.ble n19 n20) (Nat.ble n20 4294967296)) (
 tv (plen (.slice 3) (TV.sl true 1 (List.replicate n19 [I 0]))) fun v21 =>
 jmp [0,0,1,0,1,1,1,1] (f31_3_S v21 (I 0) (TV.sl true 1 (List.replicate n19 [I 0])) w3 w4 w5))
def f31_3  (x0 x1 w2 w3 w4 w5:TV):Prg TV :=
 tv (pbin (.int .i64) .lss x1 x0) fun v22 =>
 Prg.ite (asBool v22) (
 nat (slLen w2) fun n23 =>
 nat (ac x1) fun n24 =>
 chk (Bool.and (slSize w2 1) (Nat.blt n24 n23)) (
 tvs (pel w2 n24) fun e25 =>
 chk (ab aR e25 0) (
 tv (cX [] w2 n24 0 [TV.lit (Value.int IntKind.i64 (-1))]) fun v26 =>
 tv (pbin (.int .i64) .add x1 (I 1)) fun v27 =>
 jmp [0,0,1,0,1,1,1,1] (f31_3_S x0 v27 v26 w3 w4 w5)))) (
 jmp [1,1,1,1,1] (f31_4_S w2 w3 w4 w5))
def f31_4  (w0 w1 w2 w3:TV):Prg TV :=
 jmp [0,0,1,0,1,1,1,1,1] (f31_5_S (I 1) w0 w1 w2 w3)
def f31_5  (x0 w1 w2 w3 w4:TV):Prg TV :=
 tv (plen (.slice 3) w2) fun v28 =>
 tv (pbin (.int .i64) .lss x0 v28) fun v29 =>
 Prg.ite (asBool v29) (
 nat (slLen w2) fun n30 =>
 nat (ac x0) fun n31 =>
 chk (Bool.and (slSize w2 1) (Nat.blt n31 n30)) (
 tvs (pel w2 n31) fun e32 =>
 chk (ab aR e32 0) (
 nat (slLen w4) fun n33 =>
 nat (ac x0) fun n34 =>
 chk (Bool.and (slSize w4 1) (Nat.blt n34 n33)) (
 tvs (pel w4 n34) fun e35 =>
 chk (ab aR e35 0) (
 nat (slLen w2) fun n36 =>
 nat (ac (nth hole e35 0)) fun n37 =>
 chk (Bool.and (slSize w2 1) (Nat.blt n37 n36)) (
 tvs (pel w2 n37) fun e38 =>
 chk (ab aR e38 0) (
 nat (slLen w1) fun n39 =>
 nat (ac (nth hole e32 0)) fun n40 =>
 chk (Bool.and (slSize w1 1) (Nat.blt n40 n39)) (
 tvs (pel w1 n40) fun e41 =>
 chk (ab aR e41 0) (
 tv (cX [] w1 n40 0 [nth hole e38 0]) fun v42 =>
 tv (pbin (.int .i64) .add x0 (I 1)) fun v43 =>
 jmp [0,0,1,0,1,1,1,1,1] (f31_5_S v43 v42 w2 w3 w4)))))))))) (
 chk (bC w1) (
 ret w1))
theorem f31_MR (x0:TV):bm prog 31 [x0]=f31_M x0:=by kernel_rfl
theorem f31_0_J  {y0 y1 y2 w3 w4 w5:TV} {r:TV} (h:aa prog 31 (f31_0 y0 y1 y2 w3 w4 w5) r):aa prog 31 (.jmp [0,0,0,1,1] (f31_0_S y0 y1 y2 w3 w4 w5)) r:=aa.jmp (by kernel_rfl) h
theorem f31_1_J  {x0 x1 y2 y3 y4 w5 w6 w7:TV} {r:TV} (h:aa prog 31 (f31_1 x0 x1 y2 y3 y4 w5 w6 w7) r):aa prog 31 (.jmp [0,0,1,0,1,1,4,0,0,0,0,0,1,1] (f31_1_S x0 x1 y2 y3 y4 w5 w6 w7)) r:=aa.jmp (by kernel_rfl) h
theorem f31_2_J  {y0 y1 y2 w3 w4 w5:TV} {r:TV} (h:aa prog 31 (f31_2 y0 y1 y2 w3 w4 w5) r):aa prog 31 (.jmp [1,1,1] (f31_2_S y0 y1 y2 w3 w4 w5)) r:=aa.jmp (by kernel_rfl) h
theorem f31_3_J  {x0 x1 w2 w3 w4 w5:TV} {r:TV} (h:aa prog 31 (f31_3 x0 x1 w2 w3 w4 w5) r):aa prog 31 (.jmp [0,0,1,0,1,1,1,1] (f31_3_S x0 x1 w2 w3 w4 w5)) r:=aa.jmp (by kernel_rfl) h
theorem f31_4_J  {w0 w1 w2 w3:TV} {r:TV} (h:aa prog 31 (f31_4 w0 w1 w2 w3) r):aa prog 31 (.jmp [1,1,1,1,1] (f31_4_S w0 w1 w2 w3)) r:=aa.jmp (by kernel_rfl) h
theorem f31_5_J  {x0 w1 w2 w3 w4:TV} {r:TV} (h:aa prog 31 (f31_5 x0 w1 w2 w3 w4) r):aa prog 31 (.jmp [0,0,1,0,1,1,1,1,1] (f31_5_S x0 w1 w2 w3 w4)) r:=aa.jmp (by kernel_rfl) h
def f33_M (x0 x1 x2:TV):Prg TV :=
 chk (TV.isAgg x0 3) (
 call 58 [agg [cell x0 0,cell x0 1,cell x0 2],x1] fun v0 =>
 chk (ab zSl [v0] 0) (
 tv (pbin (.int .i64) .leq (I 0) x2) fun v1 =>
 Prg.ite (asBool v1) (
 tv (plen (.slice 4) v0) fun v2 =>
 tv (pbin (.int .i64) .lss x2 v2) fun v3 =>
 Prg.ite (asBool v3) (
 nat (slLen v0) fun n4 =>
 nat (ac x2) fun n5 =>
 chk (Bool.and (slSize v0 1) (Nat.blt n5 n4)) (
 tvs (pel v0 n5) fun e6 =>
 chk (ab cN e6 0) (
 ret (nth hole e6 0)))) (
 ret (B false))) (
 ret (B false))))
theorem f33_MR (x0 x1 x2:TV):bm prog 33 [x0,x1,x2]=f33_M x0 x1 x2:=by kernel_rfl
def f37_M:Prg TV :=
 call 38 [agg [I 0,I 1,frz (TV.sl true 14 (chunks 14 3 [B false,I 0,TV.lit aI,B false,B false,TV.lit aI,I 2,I 0,I 0,I 0,TV.lit aI,I 1,I 0,I 0,B false,I 0,TV.lit aI,B false,B false,TV.lit aI,I 3,I 0,I 0,I 0,TV.lit aI,I 1,I 2,I 0,B false,I 0,TV.lit aI,B false,B false,TV.lit aI,I 1,I 0,I 0,I 0,TV.lit aI,I 0,I 0,I 0]))]] fun v0 =>
 chk (ab zSl [v0] 0) (
 tv (plen (.slice 67) v0) fun v1 =>
 tv (pbin (.int .i64) .eql v1 (I 1)) fun v2 =>
 Prg.ite (asBool v2) (
 nat (slLen v0) fun n3 =>
 nat (ac (I 0)) fun n4 =>
 chk (Bool.and (slSize v0 2) (Nat.blt n4 n3)) (
 tvs (pel v0 n4) fun e5 =>
 chk (ab aR e5 0) (
 tv (pbin (.int .i64) .eql (nth hole e5 0) (I 1)) fun v6 =>
 Prg.ite (asBool v6) (
 nat (slLen v0) fun n7 =>
 nat (ac (I 0)) fun n8 =>
 chk (Bool.and (slSize v0 2) (Nat.blt n8 n7)) (
 tvs (pel v0 n8) fun e9 =>
 chk (ab zSl e9 1) (
 tv (bh [(n8,1)] v0) fun v10 =>
 call 16 [frz v10,frz (TV.sl true 1 (chunks 1 1 [I 1]))] fun v11 =>
 chk (ab cN [v11] 0) (
 Prg.ite (asBool v11) (
 call 40 [agg [I 0,I 1,frz (TV.sl true 14 (chunks 14 3 [B false,I 0,TV.lit aI,B false,B false,TV.lit aI,I 2,I 0,I 0,I 0,TV.lit aI,I 1,I 0,I 0,B false,I 0,TV.lit aI,B false,B false,TV.lit aI,I 3,I 0,I 0,I 0,TV.lit aI,I 1,I 2,I 0,B false,I 0,TV.lit aI,B false,B false,TV.lit aI,I 1,I 0,I 0,I 0,TV.lit aI,I 0,I 0,I 0]))],I 1] fun v12 =>
 chk (ab aR [v12] 0) (
 tv (pbin (.int .i64) .eql v12 (I 1)) fun v13 =>
 Prg.ite (asBool v13) (
 call 40 [agg [I 0,I 1,frz (TV.sl true 14 (chunks 14 3 [B false,I 0,TV.lit aI,B false,B false,TV.lit aI,I 2,I 0,I 0,I 0,TV.lit aI,I 1,I 0,I 0,B false,I 0,TV.lit aI,B false,B false,TV.lit aI,I 3,I 0,I 0,I 0,TV.lit aI,I 1,I 2,I 0,B false,I 0,TV.lit aI,B false,B false,TV.lit aI,I 1,I 0,I 0,I 0,TV.lit aI,I 0,I 0,I 0]))],I 2] fun v14 =>
 chk (ab aR [v14] 0) (
 tv (pbin (.int .i64) .eql v14 (I 0)) fun v15 =>
 ret v15)) (
 ret (B false)))) (
 ret (B false)))))) (
 ret (B false))))) (
 ret (B false)))
theorem f37_MR:bm prog 37 []=f37_M  := by kernel_rfl
def f38_0_S  (x0 x1 w2 w3 w4 w5 w6 w7 w8:TV):ASt:=⟨[Jk,Jk,Jk,Pt 0,Pt 1] ++ Rj 13 ++ [AV.tv x0,AV.tv x1] ++ Rj 35,[some (BC.cells [CA.sref 2 0 [],CA.sref 2 1 [],CA.sref 2 2 [],CA.sref 2 3 [],CA.sref 2 4 [],CA.sref 2 5 []]),some (BC.cells [CA.sref 3 0 []]),some (BC.tree [w2,w3,w4,w5,w6,w7]),Tr w8] ++ Rz 75,[]⟩
def f38_1_S  (x0 y1 y2 w3 w4 w5 w6 w7 w8 w9 x10 x11:TV):ASt:=⟨[AV.one (CA.yl 0),Pt 0,Jk,Jk,AV.tv x0] ++ Rj 23,[some (BC.cells [CA.sref 5 0 [],CA.sref 5 1 [],CA.sref 5 2 [],CA.sref 5 3 [],CA.sref 5 4 [],CA.sref 5 5 []]),some (BC.cells [CA.sref 5 0 [],CA.sref 5 1 [],CA.sref 5 2 [],CA.sref 5 3 [],CA.sref 5 4 [],CA.sref 5 5 []]),some (BC.cells [CA.sref 6 0 []]),Ct y1,Ct y2,some (BC.tree [w3,w4,w5,w6,w7,w8]),Tr w9] ++ Rz 100,([Jk,Jk,Jk,Pt 1,Pt 2,Pt 3] ++ Rj 12 ++ [AV.tv x10,AV.tv x11] ++ Rj 4 ++ [AV.clo 79 [CA.ptr 0 0,CA.ptr 4 0]] ++ Rj 30)⟩
def f38_2_S  (w0:TV):ASt:=⟨Rj 4 ++ [Pt 0] ++ Rj 50,[some (BC.cells [CA.sref 1 0 []]),Tr w0] ++ Rz 77,[]⟩
def f38_3_S  (x0 y1 y2 w3 w4 w5 w6 w7 w8 w9 x10 x11:TV):ASt:=⟨[AV.one (CA.yl 0),Pt 0,Jk,Jk,AV.tv x0] ++ Rj 23,[some (BC.cells [CA.sref 5 0 [],CA.sref 5 1 [],CA.sref 5 2 [],CA.sref 5 3 [],CA.sref 5 4 [],CA.sref 5 5 []]),some (BC.cells [CA.sref 5 0 [],CA.sref 5 1 [],CA.sref 5 2 [],CA.sref 5 3 [],CA.sref 5 4 [],CA.sref 5 5 []]),some (BC.cells [CA.sref 6 0 []]),Ct y1,Ct y2,some (BC.tree [w3,w4,w5,w6,w7,w8]),Tr w9] ++ Rz 100,([Jk,Jk,Jk,Pt 1,Pt 2,Pt 3] ++ Rj 12 ++ [AV.tv x10,AV.tv x11] ++ Rj 4 ++ [AV.clo 79 [CA.ptr 0 0,CA.ptr 4 0]] ++ Rj 30)⟩
def f38_4_S  (x0 x1 w2 w3:TV):ASt:=⟨Rj 7 ++ [Sr 0] ++ Rj 29 ++ [Sr 1,AV.tv x0,AV.tv x1] ++ Rj 15,[Tr w2,Tr w3] ++ Rz 77,[]⟩
def f38_M (x0:TV):Prg TV :=
 chk (TV.isAgg x0 3) (
 call 59 [agg [cell x0 0,cell x0 1,cell x0 2]] fun v0 =>
 chk (Bool.and (TV.isAgg v0 6) (ab z91 (cellsL true v0) 0)) (
 tv (plen (.slice 59) (cell x0 2)) fun v1 =>
 nat (ac v1) fun n2 =>
 nat (ac v1) fun n3 =>
 chk (Bool.and (Nat.ble n2 n3) (Nat.ble n3 4294967296)) (
 tv (plen (.slice 59) (cell x0 2)) fun v4 =>
 jmp [0,0,1,0,1,1,1] (f38_0_S v4 (I 0) (cell v0 0) (cell v0 1) (cell v0 2) (cell v0 3) (cell v0 4) (cell v0 5) (TV.sl true 1 (List.replicate n2 [TV.lit aI]))))))
def f38_0  (x0 x1 w2 w3 w4 w5 w6 w7 w8:TV):Prg TV :=
 tv (pbin (.int .i64) .lss x1 x0) fun v5 =>
 Prg.ite (asBool v5) (
 chk (TV.cW x1) (
 nat (slLen w6) fun n6 =>
 nat (ac x1) fun n7 =>
 chk (Bool.and (slSize w6 1) (Nat.blt n7 n6)) (
 tvs (pel w6 n7) fun e8 =>
 chk (ab aR e8 0) (
 nat (slLen w5) fun n9 =>
 nat (ac x1) fun n10 =>
 chk (Bool.and (slSize w5 1) (Nat.blt n10 n9)) (
 tvs (pel w5 n10) fun e11 =>
 chk (ab cN e11 0) (
 Prg.ite (asBool (nth hole e11 0)) (
 jmp [1,1,79,0,1,1,0,0,1,1,0,0,1,0,1,1,1] (f38_1_S x1 x1 x1 w2 w3 w4 w5 w6 w7 w8 x0 x1)) (
 jmp [1,1,79,0,1,1,0,0,1,1,0,0,1,0,1,1,1] (f38_1_S (nth hole e8 0) x1 x1 w2 w3 w4 w5 w6 w7 w8 x0 x1)))))))) (
 jmp [1,1,1,1] (f38_2_S w8))
def f38_1  (x0 y1 y2 w3 w4 w5 w6 w7 w8 w9 x10 x11:TV):Prg TV :=
 jmp [0,0,1,1,79,0,1,1,0,0,1,1,0,0,1,0,1,1,1] (f38_3_S x0 y1 y2 w3 w4 w5 w6 w7 w8 w9 x10 x11)
def f38_2  (w0:TV):Prg TV :=
 tv (plen (.slice 27) w0) fun v12 =>
 chk true (
 jmp [0,0,1,0,1,1,1,1,1] (f38_4_S v12 (I 0) (TV.lit aI) w0))
def f38_3  (x0 y1 y2 w3 w4 w5 w6 w7 w8 w9 x10 x11:TV):Prg TV :=
 tv (pbin (.int .i64) .geq x0 (I 0)) fun v13 =>
 Prg.ite (asBool v13) (
 nat (slLen w9) fun n14 =>
 nat (ac x0) fun n15 =>
 chk (Bool.and (slSize w9 1) (Nat.blt n15 n14)) (
 tvs (pel w9 n15) fun e16 =>
 chk (ab zSl e16 0) (
 rws (pelems 1 (TV.sl true 1 (chunks 1 1 [y1]))) fun r17 =>
 tv (bh [(n15,0)] w9) fun v18 =>
 tv (papp 1 v18 (lq r17)) fun v19 =>
 tv (ie [(n15,0)] w9 hole) fun v20 =>
 nat (slLen v20) fun n21 =>
 nat (ac x0) fun n22 =>
 chk (Bool.and (slSize v20 1) (Nat.blt n22 n21)) (
 tvs (pel v20 n22) fun e23 =>
 chk (Bool.and (eM zSl e23 0) (ab zSl [v19] 0)) (
 tv (cX [] v20 n22 0 [v19]) fun v24 =>
 nat (slLen w7) fun n25 =>
 nat (ac x0) fun n26 =>
 chk (Bool.and (slSize w7 1) (Nat.blt n26 n25)) (
 tvs (pel w7 n26) fun e27 =>
 chk (ab aR e27 0) (
 jmp [0,0,1,1,79,0,1,1,0,0,1,1,0,0,1,0,1,1,1] (f38_3_S (nth hole e27 0) y1 y2 w3 w4 w5 w6 w7 w8 v24 x10 x11)))))))) (
 tv (pbin (.int .i64) .add x11 (I 1)) fun v28 =>
 jmp [0,0,1,0,1,1,1] (f38_0_S x10 v28 w3 w4 w5 w6 w7 w8 w9))
def f38_4  (x0 x1 w2 w3:TV):Prg TV :=
 tv (pbin (.int .i64) .lss x1 x0) fun v29 =>
 Prg.ite (asBool v29) (
 nat (slLen w3) fun n30 =>
 nat (ac x1) fun n31 =>
 chk (Bool.and (slSize w3 1) (Nat.blt n31 n30)) (
 tvs (pel w3 n31) fun e32 =>
 chk (ab zSl e32 0) (
 tv (bh [(n31,0)] w3) fun v33 =>
 tv (plen (.slice 3) v33) fun v34 =>
 tv (pbin (.int .i64) .gtr v34 (I 0)) fun v35 =>
 Prg.ite (asBool v35) (
 chk (TV.cW x1) (
 tv (bh [(n31,0)] w3) fun v36 =>
 Prg.ite (frB v36) (
 rws (pelems 2 (TV.sl true 2 (chunks 2 1 [x1,v36]))) fun r37 =>
 tv (papp 2 w2 r37) fun v38 =>
 tv (pbin (.int .i64) .add x1 (I 1)) fun v39 =>
 jmp [0,0,1,0,1,1,1,1,1] (f38_4_S x0 v39 v38 w3)) (
 tv (ie [(n31,0)] w3 hole) fun v40 =>
 rws (pelems 2 (TV.sl true 2 (chunks 2 1 [x1,v36]))) fun r41 =>
 tv (papp 2 w2 r41) fun v42 =>
 tv (pbin (.int .i64) .add x1 (I 1)) fun v43 =>
 jmp [0,0,1,0,1,1,1,1,1] (f38_4_S x0 v43 v42 v40)))) (
 tv (pbin (.int .i64) .add x1 (I 1)) fun v44 =>
 jmp [0,0,1,0,1,1,1,1,1] (f38_4_S x0 v44 w2 w3))))) (
 chk (bC w2) (
 ret w2))
theorem f38_MR (x0:TV):bm prog 38 [x0]=f38_M x0:=by kernel_rfl
theorem f38_0_J  {x0 x1 w2 w3 w4 w5 w6 w7 w8:TV} {r:TV} (h:aa prog 38 (f38_0 x0 x1 w2 w3 w4 w5 w6 w7 w8) r):aa prog 38 (.jmp [0,0,1,0,1,1,1] (f38_0_S x0 x1 w2 w3 w4 w5 w6 w7 w8)) r:=aa.jmp (by kernel_rfl) h
theorem f38_1_J  {x0 y1 y2 w3 w4 w5 w6 w7 w8 w9 x10 x11:TV} {r:TV} (h:aa prog 38 (f38_1 x0 y1 y2 w3 w4 w5 w6 w7 w8 w9 x10 x11) r):aa prog 38 (.jmp [1,1,79,0,1,1,0,0,1,1,0,0,1,0,1,1,1] (f38_1_S x0 y1 y2 w3 w4 w5 w6 w7 w8 w9 x10 x11)) r:=aa.jmp (by kernel_rfl) h
theorem f38_2_J  {w0:TV} {r:TV} (h:aa prog 38 (f38_2 w0) r):aa prog 38 (.jmp [1,1,1,1] (f38_2_S w0)) r:=aa.jmp (by kernel_rfl) h
theorem f38_3_J  {x0 y1 y2 w3 w4 w5 w6 w7 w8 w9 x10 x11:TV} {r:TV} (h:aa prog 38 (f38_3 x0 y1 y2 w3 w4 w5 w6 w7 w8 w9 x10 x11) r):aa prog 38 (.jmp [0,0,1,1,79,0,1,1,0,0,1,1,0,0,1,0,1,1,1] (f38_3_S x0 y1 y2 w3 w4 w5 w6 w7 w8 w9 x10 x11)) r:=aa.jmp (by kernel_rfl) h
theorem f38_4_J  {x0 x1 w2 w3:TV} {r:TV} (h:aa prog 38 (f38_4 x0 x1 w2 w3) r):aa prog 38 (.jmp [0,0,1,0,1,1,1,1,1] (f38_4_S x0 x1 w2 w3)) r:=aa.jmp (by kernel_rfl) h
def f40_0_S  (x0 y1 y2 w3 w4 w5 w6 w7 w8:TV):ASt:=⟨[AV.one (CA.yl 0),Pt 0,Jk,Jk,AV.tv x0] ++ Rj 23,[some (BC.cells [CA.sref 3 0 [],CA.sref 3 1 [],CA.sref 3 2 [],CA.sref 3 3 [],CA.sref 3 4 [],CA.sref 3 5 []]),Ct y1,Ct y2,some (BC.tree [w3,w4,w5,w6,w7,w8])] ++ Rz 71,(Rj 5 ++ [Pt 1] ++ Rj 12 ++ [AV.clo 79 [CA.ptr 0 0,CA.ptr 2 0]] ++ Rj 4)⟩
def f40_1_S  (x0 y1 y2 w3 w4 w5 w6 w7 w8:TV):ASt:=⟨[AV.one (CA.yl 0),Pt 0,Jk,Jk,AV.tv x0] ++ Rj 23,[some (BC.cells [CA.sref 3 0 [],CA.sref 3 1 [],CA.sref 3 2 [],CA.sref 3 3 [],CA.sref 3 4 [],CA.sref 3 5 []]),Ct y1,Ct y2,some (BC.tree [w3,w4,w5,w6,w7,w8])] ++ Rz 71,(Rj 5 ++ [Pt 1] ++ Rj 12 ++ [AV.clo 79 [CA.ptr 0 0,CA.ptr 2 0]] ++ Rj 4)⟩
def f40_M (x0 x1:TV):Prg TV :=
 chk (TV.isAgg x0 3) (
 tv (pbin (.int .i64) .lss x1 (I 0)) fun v0 =>
 Prg.ite (asBool v0) (
 ret (I 0)) (
 tv (plen (.slice 59) (cell x0 2)) fun v1 =>
 tv (pbin (.int .i64) .geq x1 v1) fun v2 =>
 Prg.ite (asBool v2) (
 ret (I 0)) (
 call 59 [agg [cell x0 0,cell x0 1,cell x0 2]] fun v3 =>
 chk (Bool.and (TV.isAgg v3 6) (ab z91 (cellsL true v3) 0)) (
 chk (TV.cW x1) (
 nat (slLen (cell v3 4)) fun n4 =>
 nat (ac x1) fun n5 =>
 chk (Bool.and (slSize (cell v3 4) 1) (Nat.blt n5 n4)) (
 tvs (pel (cell v3 4) n5) fun e6 =>
 chk (ab aR e6 0) (
 nat (slLen (cell v3 3)) fun n7 =>
 nat (ac x1) fun n8 =>
 chk (Bool.and (slSize (cell v3 3) 1) (Nat.blt n8 n7)) (
 tvs (pel (cell v3 3) n8) fun e9 =>
 chk (ab cN e9 0) (
 Prg.ite (asBool (nth hole e9 0)) (
 jmp [1,1,79,0,1,0,1,1,1] (f40_0_S x1 (I 0) x1 (cell v3 0) (cell v3 1) (cell v3 2) (cell v3 3) (cell v3 4) (cell v3 5))) (
 jmp [1,1,79,0,1,0,1,1,1] (f40_0_S (nth hole e6 0) (I 0) x1 (cell v3 0) (cell v3 1) (cell v3 2) (cell v3 3) (cell v3 4) (cell v3 5))))))))))))
def f40_0  (x0 y1 y2 w3 w4 w5 w6 w7 w8:TV):Prg TV :=
 jmp [0,0,1,1,79,0,1,0,1,1,1] (f40_1_S x0 y1 y2 w3 w4 w5 w6 w7 w8)
def f40_1  (x0 y1 y2 w3 w4 w5 w6 w7 w8:TV):Prg TV :=
 tv (pbin (.int .i64) .geq x0 (I 0)) fun v10 =>
 Prg.ite (asBool v10) (
 tv (pbin (.int .i64) .add y1 (I 1)) fun v11 =>
 nat (slLen w7) fun n12 =>
 nat (ac x0) fun n13 =>
 chk (Bool.and (slSize w7 1) (Nat.blt n13 n12)) (
 tvs (pel w7 n13) fun e14 =>
 chk (ab aR e14 0) (
 jmp [0,0,1,1,79,0,1,0,1,1,1] (f40_1_S (nth hole e14 0) v11 y2 w3 w4 w5 w6 w7 w8)))) (
 ret y1)
theorem f40_MR (x0 x1:TV):bm prog 40 [x0,x1]=f40_M x0 x1:=by kernel_rfl
theorem f40_0_J  {x0 y1 y2 w3 w4 w5 w6 w7 w8:TV} {r:TV} (h:aa prog 40 (f40_0 x0 y1 y2 w3 w4 w5 w6 w7 w8) r):aa prog 40 (.jmp [1,1,79,0,1,0,1,1,1] (f40_0_S x0 y1 y2 w3 w4 w5 w6 w7 w8)) r:=aa.jmp (by kernel_rfl) h
theorem f40_1_J  {x0 y1 y2 w3 w4 w5 w6 w7 w8:TV} {r:TV} (h:aa prog 40 (f40_1 x0 y1 y2 w3 w4 w5 w6 w7 w8) r):aa prog 40 (.jmp [0,0,1,1,79,0,1,0,1,1,1] (f40_1_S x0 y1 y2 w3 w4 w5 w6 w7 w8)) r:=aa.jmp (by kernel_rfl) h
def f41_M (x0 x1:TV):Prg TV :=
 chk (TV.isAgg x0 3) (
 tv (pbin (.int .i64) .leq (I 0) x1) fun v0 =>
 Prg.ite (asBool v0) (
 tv (plen (.slice 59) (cell x0 2)) fun v1 =>
 tv (pbin (.int .i64) .lss x1 v1) fun v2 =>
 ret v2) (
 ret (B false)))
theorem f41_MR (x0 x1:TV):bm prog 41 [x0,x1]=f41_M x0 x1:=by kernel_rfl
def f42_0_S  (x0 y1 y2 y3 y4 y5 y6 y7 y8 y9 y10 y11 y12 y13 y14 w15:TV):ASt:=⟨[Jk,Pt 0,Jk,Jk,Sr 1] ++ Rj 13 ++ [AV.tv x0] ++ Rj 7,[some (BC.cells [CA.t y1,CA.t y2,CA.t y3,CA.t y4,CA.t y5,CA.t y6,CA.t y7,CA.t y8,CA.t y9,CA.t y10,CA.t y11,CA.t y12,CA.t y13,CA.t y14]),Tr w15] ++ Rz 48,[]⟩
def f42_M (x0:TV):Prg TV :=
 chk (TV.isAgg x0 14) (
 call 62 [cell x0 6] fun v0 =>
 chk (ab aR [v0] 0) (
 call 63 [v0,I 64] fun v1 =>
 chk (ab cN [v1] 0) (
 Prg.ite (asBool v1) (
 rws (pelems 1 (TV.sl true 1 (chunks 1 1 [cell x0 11]))) fun r2 =>
 tv (papp 1 (TV.lit aI) (lq r2)) fun v3 =>
 call 63 [v0,I 128] fun v4 =>
 chk (ab cN [v4] 0) (
 jmp [1,0,1,1,1,1] (f42_0_S v4 (cell x0 0) (cell x0 1) (cell x0 2) (cell x0 3) (cell x0 4) (cell x0 5) (cell x0 6) (cell x0 7) (cell x0 8) (cell x0 9) (cell x0 10) (cell x0 11) (cell x0 12) (cell x0 13) v3))) (
 call 63 [v0,I 128] fun v5 =>
 chk (ab cN [v5] 0) (
 chk true (
 jmp [1,0,1,1,1,1] (f42_0_S v5 (cell x0 0) (cell x0 1) (cell x0 2) (cell x0 3) (cell x0 4) (cell x0 5) (cell x0 6) (cell x0 7) (cell x0 8) (cell x0 9) (cell x0 10) (cell x0 11) (cell x0 12) (cell x0 13) (TV.lit aI))))))))
def f42_0  (x0 y1 y2 y3 y4 y5 y6 y7 y8 y9 y10 y11 y12 y13 y14 w15:TV):Prg TV :=
 Prg.ite (asBool x0) (
 rws (pelems 1 (TV.sl true 1 (chunks 1 1 [y13]))) fun r6 =>
 tv (papp 1 w15 (lq r6)) fun v7 =>
 chk (bC v7) (
 ret v7)) (
 chk (bC w15) (
 ret w15))
theorem f42_MR (x0:TV):bm prog 42 [x0]=f42_M x0:=by kernel_rfl
theorem f42_0_J  {x0 y1 y2 y3 y4 y5 y6 y7 y8 y9 y10 y11 y12 y13 y14 w15:TV} {r:TV} (h:aa prog 42 (f42_0 x0 y1 y2 y3 y4 y5 y6 y7 y8 y9 y10 y11 y12 y13 y14 w15) r):aa prog 42 (.jmp [1,0,1,1,1,1] (f42_0_S x0 y1 y2 y3 y4 y5 y6 y7 y8 y9 y10 y11 y12 y13 y14 w15)) r:=aa.jmp (by kernel_rfl) h
end Go.Ab.Q12
end
section
set_option maxRecDepth 100000
namespace Go.Ab.Q12
open Go Go.Ab Go.Proofs
open Go.Ab.TV (hole cell comp isSl isSc isTup cellsL tup agg)
open Go.Ab.Prg (tv tvs rws nat chk call jmp ret)
def f45_M (x0 x1:TV):Prg TV :=
 call 65 [x0,x1] fun v0 =>
 chk (ab aR [v0] 0) (
 tv (pbin (.int .i64) .geq v0 (I 0)) fun v1 =>
 ret v1)
theorem f45_MR (x0 x1:TV):bm prog 45 [x0,x1]=f45_M x0 x1:=by kernel_rfl
def f48_M (c0 c1 c2 x0:TV):Prg TV :=
 chk (Nat.ble 3 (List.length [c0,c1,c2])) (
 call 17 [agg [c0,c1,c2],x0] fun v0 =>
 chk (ab zSl [v0] 0) (
 chk (bC v0) (
 ret v0)))
theorem f48_MR (c0 c1 c2 x0:TV):bm prog 48 [x0,agg [c0,c1,c2]]=f48_M c0 c1 c2 x0:=by kernel_rfl
def f55_0_S  (x0 w1 w2 w3:TV):ASt:=⟨[Jk,Jk,Pt 0,Sr 1,Pt 2,AV.tv x0] ++ Rj 28,[some (BC.cells [CA.junk,CA.junk,CA.junk]),Tr w1,some (BC.cells [CA.sref 1 0 [],CA.sref 3 0 [],CA.sref 4 0 []]),Tr w2,Tr w3] ++ Rz 53,[]⟩
def f55_M (x0:TV):Prg TV :=
 chk (TV.isAgg x0 3) (
 call 24 [agg [cell x0 0,cell x0 1,cell x0 2]] fun v0 =>
 chk (ab zSl [v0] 0) (
 call 74 [agg [cell x0 0,cell x0 1,cell x0 2],frz v0] fun v1 =>
 chk (ab zSl [v1] 0) (
 tv (plen (.slice 3) v0) fun v2 =>
 nat (ac v2) fun n3 =>
 nat (ac v2) fun n4 =>
 chk (Bool.and (Nat.ble n3 n4) (Nat.ble n4 4294967296)) (
 jmp [0,0,1,0,1,1,1] (f55_0_S (I 1) v0 v1 (TV.sl true 1 (List.replicate n3 [I 0])))))))
def f55_0  (x0 w1 w2 w3:TV):Prg TV :=
 tv (plen (.slice 3) w1) fun v5 =>
 tv (pbin (.int .i64) .lss x0 v5) fun v6 =>
 Prg.ite (asBool v6) (
 nat (slLen w2) fun n7 =>
 nat (ac x0) fun n8 =>
 chk (Bool.and (slSize w2 1) (Nat.blt n8 n7)) (
 tvs (pel w2 n8) fun e9 =>
 chk (ab zSl e9 0) (
 tv (bh [(n8,0)] w2) fun v10 =>
 nat (slLen v10) fun n11 =>
 nat (ac (I 0)) fun n12 =>
 chk (Bool.and (slSize v10 1) (Nat.blt n12 n11)) (
 tv (bh [(n8,0)] w2) fun v13 =>
 tvs (pel v13 n12) fun e14 =>
 chk (ab aR e14 0) (
 nat (slLen w3) fun n15 =>
 nat (ac x0) fun n16 =>
 chk (Bool.and (slSize w3 1) (Nat.blt n16 n15)) (
 tvs (pel w3 n16) fun e17 =>
 chk (ab aR e17 0) (
 tv (cX [] w3 n16 0 [nth hole e14 0]) fun v18 =>
 tv (pbin (.int .i64) .add x0 (I 1)) fun v19 =>
 jmp [0,0,1,0,1,1,1] (f55_0_S v19 w1 w2 v18)))))))) (
 chk (bC (agg [w1,w2,w3])) (
 ret (agg [w1,w2,w3])))
theorem f55_MR (x0:TV):bm prog 55 [x0]=f55_M x0:=by kernel_rfl
theorem f55_0_J  {x0 w1 w2 w3:TV} {r:TV} (h:aa prog 55 (f55_0 x0 w1 w2 w3) r):aa prog 55 (.jmp [0,0,1,0,1,1,1] (f55_0_S x0 w1 w2 w3)) r:=aa.jmp (by kernel_rfl) h
def f58_0_S  (x0 x1 x2 w3 w4 w5:TV):ASt:=⟨[Jk,AV.tv x0,Jk,Jk,Jk,Sr 0,Sr 1] ++ Rj 9 ++ [Sr 2,AV.tv x1,AV.tv x2] ++ Rj 24,[Tr w3,Tr w4,Tr w5] ++ Rz 64,[]⟩
def f58_M (x0 x1:TV):Prg TV :=
 chk (TV.isAgg x0 3) (
 call 31 [agg [cell x0 0,cell x0 1,cell x0 2]] fun v0 =>
 chk (ab zSl [v0] 0) (
 tv (plen (.slice 59) (cell x0 2)) fun v1 =>
 nat (ac v1) fun n2 =>
 nat (ac v1) fun n3 =>
 chk (Bool.and (Nat.ble n2 n3) (Nat.ble n3 4294967296)) (
 call 24 [agg [cell x0 0,cell x0 1,cell x0 2]] fun v4 =>
 chk (ab zSl [v4] 0) (
 tv (plen (.slice 3) v4) fun v5 =>
 jmp [0,0,1,0,1,1,1] (f58_0_S x1 v5 (I 0) v0 (TV.sl true 1 (List.replicate n2 [B false])) v4)))))
def f58_0  (x0 x1 x2 w3 w4 w5:TV):Prg TV :=
 tv (pbin (.int .i64) .lss x2 x1) fun v6 =>
 Prg.ite (asBool v6) (
 nat (slLen w5) fun n7 =>
 nat (ac x2) fun n8 =>
 chk (Bool.and (slSize w5 1) (Nat.blt n8 n7)) (
 tvs (pel w5 n8) fun e9 =>
 chk (ab aR e9 0) (
 tv (pbin (.int .i64) .eql (nth hole e9 0) x0) fun v10 =>
 Prg.ite (asBool v10) (
 nat (slLen w4) fun n11 =>
 nat (ac (nth hole e9 0)) fun n12 =>
 chk (Bool.and (slSize w4 1) (Nat.blt n12 n11)) (
 tvs (pel w4 n12) fun e13 =>
 chk (ab cN e13 0) (
 tv (cX [] w4 n12 0 [B true]) fun v14 =>
 tv (pbin (.int .i64) .add x2 (I 1)) fun v15 =>
 jmp [0,0,1,0,1,1,1] (f58_0_S x0 x1 v15 w3 v14 w5)))) (
 tv (pbin (.int .i64) .gtr (nth hole e9 0) (I 0)) fun v16 =>
 Prg.ite (asBool v16) (
 nat (slLen w3) fun n17 =>
 nat (ac (nth hole e9 0)) fun n18 =>
 chk (Bool.and (slSize w3 1) (Nat.blt n18 n17)) (
 tvs (pel w3 n18) fun e19 =>
 chk (ab aR e19 0) (
 nat (slLen w4) fun n20 =>
 nat (ac (nth hole e19 0)) fun n21 =>
 chk (Bool.and (slSize w4 1) (Nat.blt n21 n20)) (
 tvs (pel w4 n21) fun e22 =>
 chk (ab cN e22 0) (
 nat (slLen w4) fun n23 =>
 nat (ac (nth hole e9 0)) fun n24 =>
 chk (Bool.and (slSize w4 1) (Nat.blt n24 n23)) (
 tvs (pel w4 n24) fun e25 =>
 chk (ab cN e25 0) (
 tv (cX [] w4 n24 0 [nth hole e22 0]) fun v26 =>
 tv (pbin (.int .i64) .add x2 (I 1)) fun v27 =>
 jmp [0,0,1,0,1,1,1] (f58_0_S x0 x1 v27 w3 v26 w5)))))))) (
 nat (slLen w4) fun n28 =>
 nat (ac (nth hole e9 0)) fun n29 =>
 chk (Bool.and (slSize w4 1) (Nat.blt n29 n28)) (
 tvs (pel w4 n29) fun e30 =>
 chk (ab cN e30 0) (
 tv (cX [] w4 n29 0 [B false]) fun v31 =>
 tv (pbin (.int .i64) .add x2 (I 1)) fun v32 =>
 jmp [0,0,1,0,1,1,1] (f58_0_S x0 x1 v32 w3 v31 w5)))))))) (
 chk (bC w4) (
 ret w4))
theorem f58_MR (x0 x1:TV):bm prog 58 [x0,x1]=f58_M x0 x1:=by kernel_rfl
theorem f58_0_J  {x0 x1 x2 w3 w4 w5:TV} {r:TV} (h:aa prog 58 (f58_0 x0 x1 x2 w3 w4 w5) r):aa prog 58 (.jmp [0,0,1,0,1,1,1] (f58_0_S x0 x1 x2 w3 w4 w5)) r:=aa.jmp (by kernel_rfl) h
end Go.Ab.Q12
end

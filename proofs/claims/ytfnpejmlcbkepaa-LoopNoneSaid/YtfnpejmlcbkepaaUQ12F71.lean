import Derived.Test.YtfnpejmlcbkepaaUQ12T
import Derived.Test.YtfnpejmlcbkepaaUQ12Xc
import Derived.OpenShut
set_option linter.all false
section
set_option maxRecDepth 100000
namespace Go.Ab.Q12
open Go Go.Ab Go.Proofs
open Go.Ab.TV (hole cell comp isSl isSc isTup cellsL tup agg)
open Go.Ab.Prg (tv tvs rws nat chk call jmp ret)
def f59_0_S  (x0 x1 y2 y3 y4 w5 w6 w7 w8 w9 w10 w11:TV):ASt:=⟨[Jk,Pt 0,Pt 1,Sr 2,Jk,Pt 3] ++ Rj 26 ++ [AV.tv x0,AV.tv x1] ++ Rj 48,[some (BC.cells [CA.t y2,CA.t y3,CA.t y4]),some (BC.cells [CA.junk,CA.junk,CA.junk,CA.junk,CA.junk,CA.junk]),Tr w5,some (BC.cells [CA.sref 4 0 [],CA.sref 5 0 [],CA.sref 5 1 [],CA.sref 6 0 [],CA.sref 7 0 [],CA.sref 8 0 []]),Tr w6,some (BC.tree [w7,w8]),Tr w9,Tr w10,Tr w11] ++ Rz 97,[]⟩
def f59_1_S  (y0 y1 y2 w3 w4 w5 w6 w7 w8 w9:TV):ASt:=⟨[Jk,Pt 0,Pt 1,Sr 2,Jk,Pt 3] ++ Rj 76,[some (BC.cells [CA.t y0,CA.t y1,CA.t y2]),some (BC.cells [CA.junk,CA.junk,CA.junk,CA.junk,CA.junk,CA.junk]),Tr w3,some (BC.cells [CA.sref 4 0 [],CA.sref 5 0 [],CA.sref 5 1 [],CA.sref 6 0 [],CA.sref 7 0 [],CA.sref 8 0 []]),Tr w4,some (BC.tree [w5,w6]),Tr w7,Tr w8,Tr w9] ++ Rz 97,[]⟩
def f59_2_S  (x0 x1 y2 y3 y4 w5 w6 w7 w8 w9 w10 w11:TV):ASt:=⟨[Jk,Pt 0,Pt 1,Sr 2,Jk,Pt 3] ++ Rj 40 ++ [Sr 2,AV.tv x0,AV.tv x1] ++ Rj 33,[some (BC.cells [CA.t y2,CA.t y3,CA.t y4]),some (BC.cells [CA.junk,CA.junk,CA.junk,CA.junk,CA.junk,CA.junk]),Tr w5,some (BC.cells [CA.sref 4 0 [],CA.sref 5 0 [],CA.sref 5 1 [],CA.sref 6 0 [],CA.sref 7 0 [],CA.sref 8 0 []]),Tr w6,some (BC.tree [w7,w8]),Tr w9,Tr w10,Tr w11] ++ Rz 97,[]⟩
def f59_3_S  (x0 x1 x2 x3 x4 y5 y6 y7 w8 w9 w10 w11 w12 w13 w14 w15:TV):ASt:=⟨[Jk,Pt 0,Pt 1,Sr 2,Jk,Pt 3,Jk,Jk,AV.tv x0] ++ Rj 37 ++ [Sr 2,AV.tv x1,AV.tv x2] ++ Rj 5 ++ [Sr 4,AV.tv x3,AV.tv x4] ++ Rj 25,[some (BC.cells [CA.t y5,CA.t y6,CA.t y7]),some (BC.cells [CA.junk,CA.junk,CA.junk,CA.junk,CA.junk,CA.junk]),Tr w8,some (BC.cells [CA.sref 5 0 [],CA.sref 6 0 [],CA.sref 6 1 [],CA.sref 7 0 [],CA.sref 8 0 [],CA.sref 9 0 []]),Tr w9,Tr w10,some (BC.tree [w11,w12]),Tr w13,Tr w14,Tr w15] ++ Rz 96,[]⟩
def f59_4_S  (w0 w1 w2 w3 w4 w5 w6:TV):ASt:=⟨[Jk,Jk,Pt 0,Sr 1,Jk,Pt 2] ++ Rj 76,[some (BC.cells [CA.junk,CA.junk,CA.junk,CA.junk,CA.junk,CA.junk]),Tr w0,some (BC.cells [CA.sref 3 0 [],CA.sref 4 0 [],CA.sref 4 1 [],CA.sref 5 0 [],CA.sref 6 0 [],CA.sref 7 0 []]),Tr w1,some (BC.tree [w2,w3]),Tr w4,Tr w5,Tr w6] ++ Rz 98,[]⟩
def f59_5_S  (x0 w1 w2 w3 w4 w5 w6 w7:TV):ASt:=⟨[AV.one (CA.yl 0),Pt 0,Jk,AV.tv x0] ++ Rj 15,[some (BC.cells [CA.sref 3 0 []]),some (BC.cells [CA.junk,CA.junk,CA.junk,CA.junk,CA.junk,CA.junk]),some (BC.cells [CA.sref 4 0 [],CA.sref 5 0 [],CA.sref 5 1 [],CA.sref 6 0 [],CA.sref 7 0 [],CA.sref 8 0 []]),Tr w1,Tr w2,some (BC.tree [w3,w4]),Tr w5,Tr w6,Tr w7] ++ Rz 116,([Jk,Jk,Pt 1,Jk,Jk,Pt 2] ++ Rj 69 ++ [AV.clo 92 [CA.ptr 0 0]] ++ Rj 6)⟩
def f59_6_S  (x0 w1 w2 w3 w4 w5 w6 w7 w8 x9:TV):ASt:=⟨[Jk,AV.tv x0,Pt 0,Jk,Sr 1] ++ Rj 47,[some (BC.cells [CA.sref 5 0 [],CA.sref 6 0 [],CA.sref 6 1 [],CA.sref 7 0 [],CA.sref 8 0 [],CA.sref 9 0 []]),Tr w1,some (BC.cells [CA.junk,CA.junk,CA.junk,CA.junk,CA.junk,CA.junk]),some (BC.cells [CA.sref 5 0 [],CA.sref 6 0 [],CA.sref 6 1 [],CA.sref 7 0 [],CA.sref 8 0 [],CA.sref 9 0 []]),some (BC.cells [CA.sref 10 0 []]),Tr w2,some (BC.tree [w3,w4]),Tr w5,Tr w6,Tr w7,Tr w8] ++ Rz 248,([Jk,Jk,Pt 2,Jk,Jk,Pt 3] ++ Rj 69 ++ [AV.clo 92 [CA.ptr 4 0]] ++ Rj 6 ++ [AV.one (CA.yl 0),Pt 4,Jk,AV.tv x9] ++ Rj 97)⟩
def f59_7_S  (x0 w1 w2 w3 w4 w5 w6 w7 w8 x9 x10 x11:TV):ASt:=⟨[Jk,AV.tv x0,Pt 0] ++ Rj 28,[some (BC.cells [CA.sref 6 0 [],CA.sref 7 0 [],CA.sref 7 1 [],CA.sref 8 0 [],CA.sref 9 0 [],CA.sref 10 0 []]),some (BC.cells [CA.junk,CA.junk,CA.junk,CA.junk,CA.junk,CA.junk]),some (BC.cells [CA.sref 6 0 [],CA.sref 7 0 [],CA.sref 7 1 [],CA.sref 8 0 [],CA.sref 9 0 [],CA.sref 10 0 []]),some (BC.cells [CA.sref 11 0 []]),some (BC.cells [CA.sref 6 0 [],CA.sref 7 0 [],CA.sref 7 1 [],CA.sref 8 0 [],CA.sref 9 0 [],CA.sref 10 0 []]),Tr w1,Tr w2,some (BC.tree [w3,w4]),Tr w5,Tr w6,Tr w7,Tr w8] ++ Rz 278,([Jk,Jk,Pt 1,Jk,Jk,Pt 2] ++ Rj 69 ++ [AV.clo 92 [CA.ptr 3 0]] ++ Rj 6 ++ [AV.one (CA.yl 0),Pt 3,Jk,AV.tv x9] ++ Rj 98 ++ [AV.tv x10,Pt 4,Jk,Sr 5,AV.tv x11] ++ Rj 46)⟩
def f59_M (x0:TV):Prg TV :=
 chk (TV.isAgg x0 3) (
 call 24 [agg [cell x0 0,cell x0 1,cell x0 2]] fun v0 =>
 chk (ac zSl [v0] 0) (
 tv (plen (.slice 59) (cell x0 2)) fun v1 =>
 nat (af v1) fun n2 =>
 nat (af v1) fun n3 =>
 chk (Bool.and (Nat.ble n2 n3) (Nat.ble n3 4294967296)) (
 call 76 [agg [cell x0 0,cell x0 1,cell x0 2],frz v0] fun v4 =>
 chk (Bool.and (TV.isAgg v4 2) (ac z89 (cellsL true v4) 0)) (
 nat (af v1) fun n5 =>
 nat (af v1) fun n6 =>
 chk (Bool.and (Nat.ble n5 n6) (Nat.ble n6 4294967296)) (
 nat (af v1) fun n7 =>
 nat (af v1) fun n8 =>
 chk (Bool.and (Nat.ble n7 n8) (Nat.ble n8 4294967296)) (
 nat (af v1) fun n9 =>
 nat (af v1) fun n10 =>
 chk (Bool.and (Nat.ble n9 n10) (Nat.ble n10 4294967296)) (
 tv (plen (.slice 59) (cell x0 2)) fun v11 =>
 jmp [0,0,1,0,1,1,1] (f59_0_S v11 (I 0) (cell x0 0) (cell x0 1) (cell x0 2) v0 (TV.sl true 1 (List.replicate n2 [TV.lit aD])) (cell v4 0) (cell v4 1) (TV.sl true 1 (List.replicate n5 [B false])) (TV.sl true 1 (List.replicate n7 [I 0])) (TV.sl true 1 (List.replicate n9 [I 0]))))))))))
def f59_0  (x0 x1 y2 y3 y4 w5 w6 w7 w8 w9 w10 w11:TV):Prg TV :=
 tv (pbin (.int .i64) .lss x1 x0) fun v12 =>
 Prg.ite (asBool v12) (
 nat (slLen w10) fun n13 =>
 nat (af x1) fun n14 =>
 chk (Bool.and (slSize w10 1) (Nat.blt n14 n13)) (
 tvs (pel w10 n14) fun e15 =>
 chk (ac bm e15 0) (
 tv (di [] w10 n14 0 [TV.lit (Value.int IntKind.i64 (-1))]) fun v16 =>
 nat (slLen w11) fun n17 =>
 nat (af x1) fun n18 =>
 chk (Bool.and (slSize w11 1) (Nat.blt n18 n17)) (
 chk (TV.cK x1) (
 tvs (pel w11 n18) fun e19 =>
 chk (ac bm e19 0) (
 tv (di [] w11 n18 0 [x1]) fun v20 =>
 tv (pbin (.int .i64) .add x1 (I 1)) fun v21 =>
 jmp [0,0,1,0,1,1,1] (f59_0_S x0 v21 y2 y3 y4 w5 w6 w7 w8 w9 v16 v20))))))) (
 jmp [1,1,1,1] (f59_1_S y2 y3 y4 w5 w6 w7 w8 w9 w10 w11))
def f59_1  (y0 y1 y2 w3 w4 w5 w6 w7 w8 w9:TV):Prg TV :=
 tv (plen (.slice 3) w3) fun v22 =>
 jmp [0,0,1,0,1,1,1,1] (f59_2_S v22 (I 0) y0 y1 y2 w3 w4 w5 w6 w7 w8 w9)
def f59_2  (x0 x1 y2 y3 y4 w5 w6 w7 w8 w9 w10 w11:TV):Prg TV :=
 tv (pbin (.int .i64) .lss x1 x0) fun v23 =>
 Prg.ite (asBool v23) (
 nat (slLen w5) fun n24 =>
 nat (af x1) fun n25 =>
 chk (Bool.and (slSize w5 1) (Nat.blt n25 n24)) (
 tvs (pel w5 n25) fun e26 =>
 chk (ac bm e26 0) (
 call 17 [agg [y2,y3,y4],nth hole e26 0] fun v27 =>
 chk (ac zSl [v27] 0) (
 tv (plen (.slice 3) v27) fun v28 =>
 jmp [0,0,1,1,0,0,1,1,0,0,1,0,1,1,1,1] (f59_3_S (nth hole e26 0) x0 x1 v28 (I 0) y2 y3 y4 w5 v27 w6 w7 w8 w9 w10 w11))))) (
 jmp [1,1,1,1,1] (f59_4_S w5 w6 w7 w8 w9 w10 w11))
def f59_3  (x0 x1 x2 x3 x4 y5 y6 y7 w8 w9 w10 w11 w12 w13 w14 w15:TV):Prg TV :=
 tv (pbin (.int .i64) .lss x4 x3) fun v29 =>
 Prg.ite (asBool v29) (
 nat (slLen w9) fun n30 =>
 nat (af x4) fun n31 =>
 chk (Bool.and (slSize w9 1) (Nat.blt n31 n30)) (
 tvs (pel w9 n31) fun e32 =>
 chk (ac bm e32 0) (
 nat (slLen w10) fun n33 =>
 nat (af (nth hole e32 0)) fun n34 =>
 chk (Bool.and (slSize w10 1) (Nat.blt n34 n33)) (
 tvs (pel w10 n34) fun e35 =>
 chk (ac zSl e35 0) (
 chk (TV.cK x0) (
 rws (pelems 1 (TV.sl true 1 (chunks 1 1 [x0]))) fun r36 =>
 tv (bP [(n34,0)] w10) fun v37 =>
 tv (papp 1 v37 (mo r36)) fun v38 =>
 tv (gI [(n34,0)] w10 hole) fun v39 =>
 nat (slLen v39) fun n40 =>
 nat (af (nth hole e32 0)) fun n41 =>
 chk (Bool.and (slSize v39 1) (Nat.blt n41 n40)) (
 tvs (pel v39 n41) fun e42 =>
 chk (Bool.and (du zSl e42 0) (ac zSl [v38] 0)) (
 tv (di [] v39 n41 0 [v38]) fun v43 =>
 tv (pbin (.int .i64) .add x4 (I 1)) fun v44 =>
 jmp [0,0,1,1,0,0,1,1,0,0,1,0,1,1,1,1] (f59_3_S x0 x1 x2 x3 v44 y5 y6 y7 w8 w9 v43 w11 w12 w13 w14 w15))))))))) (
 tv (pbin (.int .i64) .add x2 (I 1)) fun v45 =>
 jmp [0,0,1,0,1,1,1,1] (f59_2_S x1 v45 y5 y6 y7 w8 w10 w11 w12 w13 w14 w15))
def f59_4  (w0 w1 w2 w3 w4 w5 w6:TV):Prg TV :=
 tv (plen (.slice 3) w0) fun v46 =>
 tv (pbin (.int .i64) .sub v46 (I 1)) fun v47 =>
 jmp [0,0,1,92,0,1,0,1,1,1,1,1] (f59_5_S v47 w0 w1 w2 w3 w4 w5 w6)
def f59_5  (x0 w1 w2 w3 w4 w5 w6 w7:TV):Prg TV :=
 tv (pbin (.int .i64) .geq x0 (I 0)) fun v48 =>
 Prg.ite (asBool v48) (
 nat (slLen w1) fun n49 =>
 nat (af x0) fun n50 =>
 chk (Bool.and (slSize w1 1) (Nat.blt n50 n49)) (
 tvs (pel w1 n50) fun e51 =>
 chk (ac bm e51 0) (
 call 93 [agg [frz w2,frz w3,frz w4,frz w5,frz w6,frz w7],nth hole e51 0] fun v52 =>
 chk (ac zSl [v52] 0) (
 tv (plen (.slice 3) v52) fun v53 =>
 tv (pbin (.int .i64) .gtr v53 (I 0)) fun v54 =>
 nat (slLen w5) fun n55 =>
 nat (af (nth hole e51 0)) fun n56 =>
 chk (Bool.and (slSize w5 1) (Nat.blt n56 n55)) (
 tvs (pel w5 n56) fun e57 =>
 chk (ac gG e57 0) (
 tv (di [] w5 n56 0 [v54]) fun v58 =>
 jmp [0,0,1,1,1,6,0,2015,0,0,0,1,0,0,1,92,0,1,0,1,1,1,1,1] (f59_6_S (nth hole e51 0) v52 w2 w3 w4 v58 w6 w7 w1 x0))))))) (
 chk (bG (agg [w2,w3,w4,w5,w6,w7])) (
 ret (agg [w2,w3,w4,w5,w6,w7])))
def f59_6  (x0 w1 w2 w3 w4 w5 w6 w7 w8 x9:TV):Prg TV :=
 tv (plen (.slice 3) w1) fun v59 =>
 tv (pbin (.int .i64) .gtr v59 (I 0)) fun v60 =>
 Prg.ite (asBool v60) (
 tv (plen (.slice 3) w1) fun v61 =>
 tv (pbin (.int .i64) .sub v61 (I 1)) fun v62 =>
 nat (slLen w1) fun n63 =>
 nat (af v62) fun n64 =>
 chk (Bool.and (slSize w1 1) (Nat.blt n64 n63)) (
 tvs (pel w1 n64) fun e65 =>
 chk (ac bm e65 0) (
 jmp [0,0,0,1,12,0,1,0,1,0,0,1,1,1,6,0,2015,0,0,0,1,0,0,1,92,0,1,0,1,1,1,1,1] (f59_7_S (nth hole e65 0) w1 w2 w3 w4 w5 w6 w7 w8 x9 x0 v62)))) (
 tv (pbin (.int .i64) .sub x9 (I 1)) fun v66 =>
 jmp [0,0,1,92,0,1,0,1,1,1,1,1] (f59_5_S v66 w8 w2 w3 w4 w5 w6 w7))
def f59_7  (x0 w1 w2 w3 w4 w5 w6 w7 w8 x9 x10 x11:TV):Prg TV :=
 nat (slLen w7) fun n67 =>
 nat (af x0) fun n68 =>
 chk (Bool.and (slSize w7 1) (Nat.blt n68 n67)) (
 tvs (pel w7 n68) fun e69 =>
 chk (ac bm e69 0) (
 tv (pbin (.int .i64) .neq (nth hole e69 0) x0) fun v70 =>
 Prg.ite (asBool v70) (
 nat (slLen w7) fun n71 =>
 nat (af x0) fun n72 =>
 chk (Bool.and (slSize w7 1) (Nat.blt n72 n71)) (
 tvs (pel w7 n72) fun e73 =>
 chk (ac bm e73 0) (
 nat (slLen w7) fun n74 =>
 nat (af (nth hole e73 0)) fun n75 =>
 chk (Bool.and (slSize w7 1) (Nat.blt n75 n74)) (
 tvs (pel w7 n75) fun e76 =>
 chk (ac bm e76 0) (
 nat (slLen w7) fun n77 =>
 nat (af x0) fun n78 =>
 chk (Bool.and (slSize w7 1) (Nat.blt n78 n77)) (
 tvs (pel w7 n78) fun e79 =>
 chk (ac bm e79 0) (
 tv (di [] w7 n78 0 [nth hole e76 0]) fun v80 =>
 nat (slLen v80) fun n81 =>
 nat (af x0) fun n82 =>
 chk (Bool.and (slSize v80 1) (Nat.blt n82 n81)) (
 tvs (pel v80 n82) fun e83 =>
 chk (ac bm e83 0) (
 jmp [0,0,0,1,12,0,1,0,1,0,0,1,1,1,6,0,2015,0,0,0,1,0,0,1,92,0,1,0,1,1,1,1,1] (f59_7_S (nth hole e83 0) w1 w2 w3 w4 w5 w6 v80 w8 x9 x10 x11)))))))))) (
 nat (slLen w1) fun n84 =>
 nat (af x11) fun n85 =>
 chk (Bool.and (Bool.and (slSize w1 1) (Nat.ble 0 (Option.getD (some n85) n84))) (Nat.ble (Option.getD (some n85) n84) n84)) (
 tv (pbin (.int .i64) .neq x0 x10) fun v86 =>
 Prg.ite (asBool v86) (
 nat (slLen w6) fun n87 =>
 nat (af x0) fun n88 =>
 chk (Bool.and (slSize w6 1) (Nat.blt n88 n87)) (
 chk (TV.cK x10) (
 tvs (pel w6 n88) fun e89 =>
 chk (ac bm e89 0) (
 tv (di [] w6 n88 0 [x10]) fun v90 =>
 nat (slLen w7) fun n91 =>
 nat (af x0) fun n92 =>
 chk (Bool.and (slSize w7 1) (Nat.blt n92 n91)) (
 chk (TV.cK x10) (
 tvs (pel w7 n92) fun e93 =>
 chk (ac bm e93 0) (
 tv (di [] w7 n92 0 [x10]) fun v94 =>
 nat (slLen w2) fun n95 =>
 nat (af x0) fun n96 =>
 chk (Bool.and (slSize w2 1) (Nat.blt n96 n95)) (
 tvs (pel w2 n96) fun e97 =>
 chk (ac zSl e97 0) (
 tv (bP [(n96,0)] w2) fun v98 =>
 rws (pelems 1 v98) fun r99 =>
 tv (fq 0 ((Option.getD (some n85) n84) - 0) w1) fun v100 =>
 tv (papp 1 v100 (mo r99)) fun v101 =>
 jmp [0,0,1,1,1,6,0,2015,0,0,0,1,0,0,1,92,0,1,0,1,1,1,1,1] (f59_6_S x10 v101 w2 w3 w4 w5 v90 v94 w8 x9)))))))))) (
 tv (fq 0 ((Option.getD (some n85) n84) - 0) w1) fun v102 =>
 jmp [0,0,1,1,1,6,0,2015,0,0,0,1,0,0,1,92,0,1,0,1,1,1,1,1] (f59_6_S x10 v102 w2 w3 w4 w5 w6 w7 w8 x9))))))
theorem f59_MR (x0:TV):bT prog 59 [x0]=f59_M x0:=by kernel_rfl
theorem f59_0_J  {x0 x1 y2 y3 y4 w5 w6 w7 w8 w9 w10 w11:TV} {r:TV} (h:aa prog 59 (f59_0 x0 x1 y2 y3 y4 w5 w6 w7 w8 w9 w10 w11) r):aa prog 59 (.jmp [0,0,1,0,1,1,1] (f59_0_S x0 x1 y2 y3 y4 w5 w6 w7 w8 w9 w10 w11)) r:=aa.jmp (by kernel_rfl) h
theorem f59_1_J  {y0 y1 y2 w3 w4 w5 w6 w7 w8 w9:TV} {r:TV} (h:aa prog 59 (f59_1 y0 y1 y2 w3 w4 w5 w6 w7 w8 w9) r):aa prog 59 (.jmp [1,1,1,1] (f59_1_S y0 y1 y2 w3 w4 w5 w6 w7 w8 w9)) r:=aa.jmp (by kernel_rfl) h
theorem f59_2_J  {x0 x1 y2 y3 y4 w5 w6 w7 w8 w9 w10 w11:TV} {r:TV} (h:aa prog 59 (f59_2 x0 x1 y2 y3 y4 w5 w6 w7 w8 w9 w10 w11) r):aa prog 59 (.jmp [0,0,1,0,1,1,1,1] (f59_2_S x0 x1 y2 y3 y4 w5 w6 w7 w8 w9 w10 w11)) r:=aa.jmp (by kernel_rfl) h
theorem f59_3_J  {x0 x1 x2 x3 x4 y5 y6 y7 w8 w9 w10 w11 w12 w13 w14 w15:TV} {r:TV} (h:aa prog 59 (f59_3 x0 x1 x2 x3 x4 y5 y6 y7 w8 w9 w10 w11 w12 w13 w14 w15) r):aa prog 59 (.jmp [0,0,1,1,0,0,1,1,0,0,1,0,1,1,1,1] (f59_3_S x0 x1 x2 x3 x4 y5 y6 y7 w8 w9 w10 w11 w12 w13 w14 w15)) r:=aa.jmp (by kernel_rfl) h
theorem f59_4_J  {w0 w1 w2 w3 w4 w5 w6:TV} {r:TV} (h:aa prog 59 (f59_4 w0 w1 w2 w3 w4 w5 w6) r):aa prog 59 (.jmp [1,1,1,1,1] (f59_4_S w0 w1 w2 w3 w4 w5 w6)) r:=aa.jmp (by kernel_rfl) h
theorem f59_5_J  {x0 w1 w2 w3 w4 w5 w6 w7:TV} {r:TV} (h:aa prog 59 (f59_5 x0 w1 w2 w3 w4 w5 w6 w7) r):aa prog 59 (.jmp [0,0,1,92,0,1,0,1,1,1,1,1] (f59_5_S x0 w1 w2 w3 w4 w5 w6 w7)) r:=aa.jmp (by kernel_rfl) h
theorem f59_6_J  {x0 w1 w2 w3 w4 w5 w6 w7 w8 x9:TV} {r:TV} (h:aa prog 59 (f59_6 x0 w1 w2 w3 w4 w5 w6 w7 w8 x9) r):aa prog 59 (.jmp [0,0,1,1,1,6,0,2015,0,0,0,1,0,0,1,92,0,1,0,1,1,1,1,1] (f59_6_S x0 w1 w2 w3 w4 w5 w6 w7 w8 x9)) r:=aa.jmp (by kernel_rfl) h
theorem f59_7_J  {x0 w1 w2 w3 w4 w5 w6 w7 w8 x9 x10 x11:TV} {r:TV} (h:aa prog 59 (f59_7 x0 w1 w2 w3 w4 w5 w6 w7 w8 x9 x10 x11) r):aa prog 59 (.jmp [0,0,0,1,12,0,1,0,1,0,0,1,1,1,6,0,2015,0,0,0,1,0,0,1,92,0,1,0,1,1,1,1,1] (f59_7_S x0 w1 w2 w3 w4 w5 w6 w7 w8 x9 x10 x11)) r:=aa.jmp (by kernel_rfl) h
def f62_M (x0:TV):Prg TV :=
 tv (pbin (.int .i64) .eql x0 (I 1)) fun v0 =>
 Prg.ite (asBool v0) (
 Prg.ite (asBool v0) (
 ret (I 5)) (
 tv (pbin (.int .i64) .eql x0 (I 2)) fun v1 =>
 Prg.ite (asBool v1) (
 ret (I 65)) (
 tv (pbin (.int .i64) .eql x0 (I 3)) fun v2 =>
 Prg.ite (asBool v2) (
 ret (I 197)) (
 tv (pbin (.int .i64) .eql x0 (I 4)) fun v3 =>
 Prg.ite (asBool v3) (
 ret (I 355)) (
 tv (pbin (.int .i64) .eql x0 (I 6)) fun v4 =>
 Prg.ite (asBool v4) (
 ret (I 1)) (
 ret (I 0))))))) (
 tv (pbin (.int .i64) .eql x0 (I 5)) fun v5 =>
 Prg.ite (asBool v5) (
 ret (I 5)) (
 tv (pbin (.int .i64) .eql x0 (I 2)) fun v6 =>
 Prg.ite (asBool v6) (
 ret (I 65)) (
 tv (pbin (.int .i64) .eql x0 (I 3)) fun v7 =>
 Prg.ite (asBool v7) (
 ret (I 197)) (
 tv (pbin (.int .i64) .eql x0 (I 4)) fun v8 =>
 Prg.ite (asBool v8) (
 ret (I 355)) (
 tv (pbin (.int .i64) .eql x0 (I 6)) fun v9 =>
 Prg.ite (asBool v9) (
 ret (I 1)) (
 ret (I 0)))))))
theorem f62_MR (x0:TV):bT prog 62 [x0]=f62_M x0:=by kernel_rfl
def f63_M (x0 x1:TV):Prg TV :=
 tv (pbin (.int .i64) .and x0 x1) fun v0 =>
 tv (pbin (.int .i64) .neq v0 (I 0)) fun v1 =>
 ret v1
theorem f63_MR (x0 x1:TV):bT prog 63 [x0,x1]=f63_M x0 x1:=by kernel_rfl
def f74_0_S  (x0 x1 x2 x3 y4 y5 y6 w7:TV):ASt:=⟨[Jk,AV.tv x0,Pt 0,Jk,Jk,Sr 1] ++ Rj 11 ++ [AV.tv x1,AV.tv x2,AV.tv x3] ++ Rj 46,[some (BC.cells [CA.t y4,CA.t y5,CA.t y6]),Tr w7] ++ Rz 88,[]⟩
def f74_1_S  (x0 y1 y2 y3 w4:TV):ASt:=⟨[Jk,AV.tv x0,Pt 0,Jk,Jk,Sr 1] ++ Rj 60,[some (BC.cells [CA.t y1,CA.t y2,CA.t y3]),Tr w4] ++ Rz 88,[]⟩
def f74_2_S  (x0 x1 x2 y3 y4 y5 w6 w7:TV):ASt:=⟨[Jk,Jk,Pt 0,Jk,Jk,Sr 1,Jk,Jk,Sr 2] ++ Rj 23 ++ [AV.tv x0,AV.tv x1,AV.tv x2] ++ Rj 31,[some (BC.cells [CA.t y3,CA.t y4,CA.t y5]),Tr w6,Tr w7] ++ Rz 87,[]⟩
def f74_3_S  (x0 x1 x2 x3 x4 x5 y6 y7 y8 w9 w10 w11:TV):ASt:=⟨[Jk,Jk,Pt 0,Jk,Jk,Sr 1,Jk,Jk,Sr 2,AV.tv x0] ++ Rj 22 ++ [AV.tv x1,AV.tv x2,AV.tv x3] ++ Rj 6 ++ [Sr 3,AV.tv x4,AV.tv x5] ++ Rj 22,[some (BC.cells [CA.t y6,CA.t y7,CA.t y8]),Tr w9,Tr w10,Tr w11] ++ Rz 86,[]⟩
def f74_M (x0 x1:TV):Prg TV :=
 chk (TV.isAgg x0 3) (
 tv (plen (.slice 59) (cell x0 2)) fun v0 =>
 nat (af v0) fun n1 =>
 nat (af v0) fun n2 =>
 chk (Bool.and (Nat.ble n1 n2) (Nat.ble n2 4294967296)) (
 tv (plen (.slice 3) x1) fun v3 =>
 jmp [0,0,1,0,1,1] (f74_0_S x1 x1 v3 (I 0) (cell x0 0) (cell x0 1) (cell x0 2) (TV.sl true 1 (List.replicate n1 [I 0])))))
def f74_0  (x0 x1 x2 x3 y4 y5 y6 w7:TV):Prg TV :=
 tv (pbin (.int .i64) .lss x3 x2) fun v4 =>
 Prg.ite (asBool v4) (
 tvs (pidx 1 x1 x3) fun e5 =>
 chk (Nat.blt 0 (List.length e5)) (
 nat (slLen w7) fun n6 =>
 nat (af (nth hole e5 0)) fun n7 =>
 chk (Bool.and (slSize w7 1) (Nat.blt n7 n6)) (
 chk (TV.cK x3) (
 tvs (pel w7 n7) fun e8 =>
 chk (ac bm e8 0) (
 tv (di [] w7 n7 0 [x3]) fun v9 =>
 tv (pbin (.int .i64) .add x3 (I 1)) fun v10 =>
 jmp [0,0,1,0,1,1] (f74_0_S x0 x1 x2 v10 y4 y5 y6 v9)))))) (
 jmp [1,1,1] (f74_1_S x0 y4 y5 y6 w7))
def f74_1  (x0 y1 y2 y3 w4:TV):Prg TV :=
 tv (plen (.slice 3) x0) fun v11 =>
 nat (af v11) fun n12 =>
 nat (af v11) fun n13 =>
 chk (Bool.and (Nat.ble n12 n13) (Nat.ble n13 4294967296)) (
 tv (plen (.slice 3) x0) fun v14 =>
 jmp [0,0,1,0,1,1,1,1] (f74_2_S x0 v14 (I 0) y1 y2 y3 w4 (TV.sl true 1 (List.replicate n12 [TV.lit aD]))))
def f74_2  (x0 x1 x2 y3 y4 y5 w6 w7:TV):Prg TV :=
 tv (pbin (.int .i64) .lss x2 x1) fun v15 =>
 Prg.ite (asBool v15) (
 tvs (pidx 1 x0 x2) fun e16 =>
 chk (Nat.blt 0 (List.length e16)) (
 call 17 [agg [y3,y4,y5],nth hole e16 0] fun v17 =>
 chk (ac zSl [v17] 0) (
 tv (plen (.slice 3) v17) fun v18 =>
 jmp [0,0,1,1,0,0,1,1,0,0,1,0,1,1,1,1] (f74_3_S x2 x0 x1 x2 v18 (I 0) y3 y4 y5 w6 w7 v17)))) (
 chk (bG w7) (
 ret w7))
def f74_3  (x0 x1 x2 x3 x4 x5 y6 y7 y8 w9 w10 w11:TV):Prg TV :=
 tv (pbin (.int .i64) .lss x5 x4) fun v19 =>
 Prg.ite (asBool v19) (
 nat (slLen w11) fun n20 =>
 nat (af x5) fun n21 =>
 chk (Bool.and (slSize w11 1) (Nat.blt n21 n20)) (
 tvs (pel w11 n21) fun e22 =>
 chk (ac bm e22 0) (
 nat (slLen w9) fun n23 =>
 nat (af (nth hole e22 0)) fun n24 =>
 chk (Bool.and (slSize w9 1) (Nat.blt n24 n23)) (
 tvs (pel w9 n24) fun e25 =>
 chk (ac bm e25 0) (
 nat (slLen w9) fun n26 =>
 nat (af (nth hole e22 0)) fun n27 =>
 chk (Bool.and (slSize w9 1) (Nat.blt n27 n26)) (
 tvs (pel w9 n27) fun e28 =>
 chk (ac bm e28 0) (
 nat (slLen w10) fun n29 =>
 nat (af (nth hole e28 0)) fun n30 =>
 chk (Bool.and (slSize w10 1) (Nat.blt n30 n29)) (
 tvs (pel w10 n30) fun e31 =>
 chk (ac zSl e31 0) (
 chk (TV.cK x0) (
 rws (pelems 1 (TV.sl true 1 (chunks 1 1 [x0]))) fun r32 =>
 tv (bP [(n30,0)] w10) fun v33 =>
 tv (papp 1 v33 (mo r32)) fun v34 =>
 tv (gI [(n30,0)] w10 hole) fun v35 =>
 nat (slLen v35) fun n36 =>
 nat (af (nth hole e25 0)) fun n37 =>
 chk (Bool.and (slSize v35 1) (Nat.blt n37 n36)) (
 tvs (pel v35 n37) fun e38 =>
 chk (Bool.and (du zSl e38 0) (ac zSl [v34] 0)) (
 tv (di [] v35 n37 0 [v34]) fun v39 =>
 tv (pbin (.int .i64) .add x5 (I 1)) fun v40 =>
 jmp [0,0,1,1,0,0,1,1,0,0,1,0,1,1,1,1] (f74_3_S x0 x1 x2 x3 x4 v40 y6 y7 y8 w9 v39 w11))))))))))))) (
 tv (pbin (.int .i64) .add x3 (I 1)) fun v41 =>
 jmp [0,0,1,0,1,1,1,1] (f74_2_S x1 x2 v41 y6 y7 y8 w9 w10))
theorem f74_MR (x0 x1:TV):bT prog 74 [x0,x1]=f74_M x0 x1:=by kernel_rfl
theorem f74_0_J  {x0 x1 x2 x3 y4 y5 y6 w7:TV} {r:TV} (h:aa prog 74 (f74_0 x0 x1 x2 x3 y4 y5 y6 w7) r):aa prog 74 (.jmp [0,0,1,0,1,1] (f74_0_S x0 x1 x2 x3 y4 y5 y6 w7)) r:=aa.jmp (by kernel_rfl) h
theorem f74_1_J  {x0 y1 y2 y3 w4:TV} {r:TV} (h:aa prog 74 (f74_1 x0 y1 y2 y3 w4) r):aa prog 74 (.jmp [1,1,1] (f74_1_S x0 y1 y2 y3 w4)) r:=aa.jmp (by kernel_rfl) h
theorem f74_2_J  {x0 x1 x2 y3 y4 y5 w6 w7:TV} {r:TV} (h:aa prog 74 (f74_2 x0 x1 x2 y3 y4 y5 w6 w7) r):aa prog 74 (.jmp [0,0,1,0,1,1,1,1] (f74_2_S x0 x1 x2 y3 y4 y5 w6 w7)) r:=aa.jmp (by kernel_rfl) h
theorem f74_3_J  {x0 x1 x2 x3 x4 x5 y6 y7 y8 w9 w10 w11:TV} {r:TV} (h:aa prog 74 (f74_3 x0 x1 x2 x3 x4 x5 y6 y7 y8 w9 w10 w11) r):aa prog 74 (.jmp [0,0,1,1,0,0,1,1,0,0,1,0,1,1,1,1] (f74_3_S x0 x1 x2 x3 x4 x5 y6 y7 y8 w9 w10 w11)) r:=aa.jmp (by kernel_rfl) h
def f75_0_S  (x0 y1 y2 y3 y4 y5:TV):ASt:=⟨[AV.one (CA.yl 0),Pt 0,Jk,AV.tv x0] ++ Rj 15,[Ct y1,some (BC.cells [CA.t y2,CA.t y3,CA.t y4]),Ct y5] ++ Rz 63,([Jk,Jk,Pt 1,Jk,Jk,Pt 2] ++ Rj 9 ++ [AV.clo 92 [CA.ptr 0 0]] ++ Rj 7)⟩
def f75_M (x0 x1:TV):Prg TV :=
 chk (TV.isAgg x0 3) (
 tv (plen (.slice 3) x1) fun v0 =>
 tv (pbin (.int .i64) .sub v0 (I 1)) fun v1 =>
 tvs (pidx 1 x1 v1) fun e2 =>
 chk (Nat.blt 0 (List.length e2)) (
 chk (TV.cK x1) (
 tv (plen (.slice 3) x1) fun v3 =>
 tv (pbin (.int .i64) .sub v3 (I 1)) fun v4 =>
 jmp [0,0,1,92,0,1,0,1,1] (f75_0_S v4 x1 (cell x0 0) (cell x0 1) (cell x0 2) (nth hole e2 0)))))
def f75_0  (x0 y1 y2 y3 y4 y5:TV):Prg TV :=
 tv (pbin (.int .i64) .geq x0 (I 0)) fun v5 =>
 Prg.ite (asBool v5) (
 tvs (pidx 1 y1 x0) fun e6 =>
 chk (Nat.blt 0 (List.length e6)) (
 call 91 [agg [y2,y3,y4],y5,nth hole e6 0] fun v7 =>
 chk (ac bm [v7] 0) (
 tv (pbin (.int .i64) .sub x0 (I 1)) fun v8 =>
 jmp [0,0,1,92,0,1,0,1,1] (f75_0_S v8 y1 y2 y3 y4 v7)))) (
 ret y5)
theorem f75_MR (x0 x1:TV):bT prog 75 [x0,x1]=f75_M x0 x1:=by kernel_rfl
theorem f75_0_J  {x0 y1 y2 y3 y4 y5:TV} {r:TV} (h:aa prog 75 (f75_0 x0 y1 y2 y3 y4 y5) r):aa prog 75 (.jmp [0,0,1,92,0,1,0,1,1] (f75_0_S x0 y1 y2 y3 y4 y5)) r:=aa.jmp (by kernel_rfl) h
def f76_0_S  (x0 y1 y2 y3 w4 w5 w6 x7 x8:TV):ASt:=⟨[AV.one (CA.yl 0),Pt 0,Jk,AV.tv x0] ++ Rj 15,[Ct y1,some (BC.cells [CA.t y2,CA.t y3]),some (BC.cells [CA.sref 4 0 []]),some (BC.cells [CA.sref 5 0 [],CA.sref 6 0 []]),Tr w4,Tr w5,Tr w6] ++ Rz 133,([Jk,AV.tv x7,Jk,Jk,Pt 1,Pt 2,AV.tv x8,Pt 3] ++ Rj 16 ++ [AV.clo 92 [CA.ptr 0 0]] ++ Rj 72)⟩
def f76_1_S  (x0 x1 w2 w3 w4:TV):ASt:=⟨[Jk,AV.tv x0,Jk,Jk,Pt 0,Pt 1,AV.tv x1,Pt 2] ++ Rj 89,[some (BC.cells [CA.junk,CA.junk]),some (BC.cells [CA.sref 3 0 []]),some (BC.cells [CA.sref 4 0 [],CA.sref 5 0 []]),Tr w2,Tr w3,Tr w4] ++ Rz 115,[]⟩
def f76_2_S  (x0 x1 x2 w3 w4 w5 w6:TV):ASt:=⟨Rj 4 ++ [Pt 0,Pt 1,Jk,Pt 2,Jk,Jk,Sr 3] ++ Rj 42 ++ [AV.tv x0,AV.tv x1,AV.tv x2] ++ Rj 41,[some (BC.cells [CA.junk,CA.junk]),some (BC.cells [CA.sref 4 0 []]),some (BC.cells [CA.sref 5 0 [],CA.sref 6 0 []]),Tr w3,Tr w4,Tr w5,Tr w6] ++ Rz 114,[]⟩
def f76_3_S  (x0 x1 x2 x3 w4 w5 w6 w7:TV):ASt:=⟨Rj 4 ++ [Pt 0,Pt 1,Jk,Pt 2,Jk,Jk,Sr 3,Jk,AV.tv x0] ++ Rj 40 ++ [AV.tv x1,AV.tv x2,AV.tv x3] ++ Rj 41,[some (BC.cells [CA.junk,CA.junk]),some (BC.cells [CA.sref 4 0 []]),some (BC.cells [CA.sref 5 0 [],CA.sref 6 0 []]),Tr w4,Tr w5,Tr w6,Tr w7] ++ Rz 114,[]⟩
def f76_M (x0 x1:TV):Prg TV :=
 chk (TV.isAgg x0 3) (
 call 31 [agg [cell x0 0,cell x0 1,cell x0 2]] fun v0 =>
 chk (ac zSl [v0] 0) (
 tv (plen (.slice 59) (cell x0 2)) fun v1 =>
 nat (af v1) fun n2 =>
 nat (af v1) fun n3 =>
 chk (Bool.and (Nat.ble n2 n3) (Nat.ble n3 4294967296)) (
 nat (af v1) fun n4 =>
 nat (af v1) fun n5 =>
 chk (Bool.and (Nat.ble n4 n5) (Nat.ble n5 4294967296)) (
 chk (TV.cK x1) (
 tv (plen (.slice 3) x1) fun v6 =>
 tv (pbin (.int .i64) .sub v6 (I 1)) fun v7 =>
 jmp [0,0,1,92,0,1,0,1,1,1] (f76_0_S v7 x1 (TV.lit aD) (TV.lit aD) v0 (TV.sl true 1 (List.replicate n2 [I 0])) (TV.sl true 1 (List.replicate n4 [I 0])) x1 v1))))))
def f76_0  (x0 y1 y2 y3 w4 w5 w6 x7 x8:TV):Prg TV :=
 tv (pbin (.int .i64) .geq x0 (I 0)) fun v8 =>
 Prg.ite (asBool v8) (
 tvs (pidx 1 y1 x0) fun e9 =>
 chk (Nat.blt 0 (List.length e9)) (
 nat (slLen w6) fun n10 =>
 nat (af (nth hole e9 0)) fun n11 =>
 chk (Bool.and (slSize w6 1) (Nat.blt n11 n10)) (
 tvs (pel w6 n11) fun e12 =>
 chk (ac bm e12 0) (
 tv (pbin (.int .i64) .add (nth hole e12 0) (I 1)) fun v13 =>
 nat (slLen w6) fun n14 =>
 nat (af (nth hole e9 0)) fun n15 =>
 chk (Bool.and (slSize w6 1) (Nat.blt n15 n14)) (
 tvs (pel w6 n15) fun e16 =>
 chk (ac bm e16 0) (
 tv (di [] w6 n15 0 [v13]) fun v17 =>
 tv (pbin (.int .i64) .neq (nth hole e9 0) (I 0)) fun v18 =>
 Prg.ite (asBool v18) (
 nat (slLen w4) fun n19 =>
 nat (af (nth hole e9 0)) fun n20 =>
 chk (Bool.and (slSize w4 1) (Nat.blt n20 n19)) (
 tvs (pel w4 n20) fun e21 =>
 chk (ac bm e21 0) (
 nat (slLen v17) fun n22 =>
 nat (af (nth hole e21 0)) fun n23 =>
 chk (Bool.and (slSize v17 1) (Nat.blt n23 n22)) (
 tvs (pel v17 n23) fun e24 =>
 chk (ac bm e24 0) (
 nat (slLen v17) fun n25 =>
 nat (af (nth hole e9 0)) fun n26 =>
 chk (Bool.and (slSize v17 1) (Nat.blt n26 n25)) (
 tvs (pel v17 n26) fun e27 =>
 chk (ac bm e27 0) (
 tv (pbin (.int .i64) .add (nth hole e24 0) (nth hole e27 0)) fun v28 =>
 nat (slLen v17) fun n29 =>
 nat (af (nth hole e21 0)) fun n30 =>
 chk (Bool.and (slSize v17 1) (Nat.blt n30 n29)) (
 tvs (pel v17 n30) fun e31 =>
 chk (ac bm e31 0) (
 tv (di [] v17 n30 0 [v28]) fun v32 =>
 tv (pbin (.int .i64) .sub x0 (I 1)) fun v33 =>
 jmp [0,0,1,92,0,1,0,1,1,1] (f76_0_S v33 y1 y2 y3 w4 w5 v32 x7 x8)))))))))) (
 tv (pbin (.int .i64) .sub x0 (I 1)) fun v34 =>
 jmp [0,0,1,92,0,1,0,1,1,1] (f76_0_S v34 y1 y2 y3 w4 w5 v17 x7 x8)))))))) (
 jmp [1,1,1,1] (f76_1_S x7 x8 w4 w5 w6))
def f76_1  (x0 x1 w2 w3 w4:TV):Prg TV :=
 nat (af x1) fun n35 =>
 nat (af x1) fun n36 =>
 chk (Bool.and (Nat.ble n35 n36) (Nat.ble n36 4294967296)) (
 tv (plen (.slice 3) x0) fun v37 =>
 jmp [0,0,1,0,1,1,1,1,1] (f76_2_S x0 v37 (I 0) (TV.sl true 1 (List.replicate n35 [I 0])) w2 w3 w4))
def f76_2  (x0 x1 x2 w3 w4 w5 w6:TV):Prg TV :=
 tv (pbin (.int .i64) .lss x2 x1) fun v38 =>
 Prg.ite (asBool v38) (
 tvs (pidx 1 x0 x2) fun e39 =>
 chk (Nat.blt 0 (List.length e39)) (
 tv (pbin (.int .i64) .neq (nth hole e39 0) (I 0)) fun v40 =>
 Prg.ite (asBool v40) (
 nat (slLen w4) fun n41 =>
 nat (af (nth hole e39 0)) fun n42 =>
 chk (Bool.and (slSize w4 1) (Nat.blt n42 n41)) (
 tvs (pel w4 n42) fun e43 =>
 chk (ac bm e43 0) (
 nat (slLen w3) fun n44 =>
 nat (af (nth hole e43 0)) fun n45 =>
 chk (Bool.and (slSize w3 1) (Nat.blt n45 n44)) (
 tvs (pel w3 n45) fun e46 =>
 chk (ac bm e46 0) (
 nat (slLen w5) fun n47 =>
 nat (af (nth hole e39 0)) fun n48 =>
 chk (Bool.and (slSize w5 1) (Nat.blt n48 n47)) (
 tvs (pel w5 n48) fun e49 =>
 chk (ac bm e49 0) (
 tv (di [] w5 n48 0 [nth hole e46 0]) fun v50 =>
 nat (slLen w4) fun n51 =>
 nat (af (nth hole e39 0)) fun n52 =>
 chk (Bool.and (slSize w4 1) (Nat.blt n52 n51)) (
 tvs (pel w4 n52) fun e53 =>
 chk (ac bm e53 0) (
 nat (slLen w3) fun n54 =>
 nat (af (nth hole e53 0)) fun n55 =>
 chk (Bool.and (slSize w3 1) (Nat.blt n55 n54)) (
 tvs (pel w3 n55) fun e56 =>
 chk (ac bm e56 0) (
 nat (slLen w6) fun n57 =>
 nat (af (nth hole e39 0)) fun n58 =>
 chk (Bool.and (slSize w6 1) (Nat.blt n58 n57)) (
 tvs (pel w6 n58) fun e59 =>
 chk (ac bm e59 0) (
 tv (pbin (.int .i64) .add (nth hole e56 0) (nth hole e59 0)) fun v60 =>
 nat (slLen w3) fun n61 =>
 nat (af (nth hole e53 0)) fun n62 =>
 chk (Bool.and (slSize w3 1) (Nat.blt n62 n61)) (
 tvs (pel w3 n62) fun e63 =>
 chk (ac bm e63 0) (
 tv (di [] w3 n62 0 [v60]) fun v64 =>
 jmp [1,1,0,0,1,1,0,0,1,0,1,1,1,1,1] (f76_3_S (nth hole e39 0) x0 x1 x2 v64 w4 v50 w6)))))))))))))))) (
 jmp [1,1,0,0,1,1,0,0,1,0,1,1,1,1,1] (f76_3_S (nth hole e39 0) x0 x1 x2 w3 w4 w5 w6)))) (
 chk (bG (agg [w5,w6])) (
 ret (agg [w5,w6])))
def f76_3  (x0 x1 x2 x3 w4 w5 w6 w7:TV):Prg TV :=
 nat (slLen w6) fun n65 =>
 nat (af x0) fun n66 =>
 chk (Bool.and (slSize w6 1) (Nat.blt n66 n65)) (
 tvs (pel w6 n66) fun e67 =>
 chk (ac bm e67 0) (
 tv (pbin (.int .i64) .add (nth hole e67 0) (I 1)) fun v68 =>
 nat (slLen w4) fun n69 =>
 nat (af x0) fun n70 =>
 chk (Bool.and (slSize w4 1) (Nat.blt n70 n69)) (
 tvs (pel w4 n70) fun e71 =>
 chk (ac bm e71 0) (
 tv (di [] w4 n70 0 [v68]) fun v72 =>
 tv (pbin (.int .i64) .add x3 (I 1)) fun v73 =>
 jmp [0,0,1,0,1,1,1,1,1] (f76_2_S x1 x2 v73 v72 w5 w6 w7)))))
theorem f76_MR (x0 x1:TV):bT prog 76 [x0,x1]=f76_M x0 x1:=by kernel_rfl
theorem f76_0_J  {x0 y1 y2 y3 w4 w5 w6 x7 x8:TV} {r:TV} (h:aa prog 76 (f76_0 x0 y1 y2 y3 w4 w5 w6 x7 x8) r):aa prog 76 (.jmp [0,0,1,92,0,1,0,1,1,1] (f76_0_S x0 y1 y2 y3 w4 w5 w6 x7 x8)) r:=aa.jmp (by kernel_rfl) h
theorem f76_1_J  {x0 x1 w2 w3 w4:TV} {r:TV} (h:aa prog 76 (f76_1 x0 x1 w2 w3 w4) r):aa prog 76 (.jmp [1,1,1,1] (f76_1_S x0 x1 w2 w3 w4)) r:=aa.jmp (by kernel_rfl) h
theorem f76_2_J  {x0 x1 x2 w3 w4 w5 w6:TV} {r:TV} (h:aa prog 76 (f76_2 x0 x1 x2 w3 w4 w5 w6) r):aa prog 76 (.jmp [0,0,1,0,1,1,1,1,1] (f76_2_S x0 x1 x2 w3 w4 w5 w6)) r:=aa.jmp (by kernel_rfl) h
theorem f76_3_J  {x0 x1 x2 x3 w4 w5 w6 w7:TV} {r:TV} (h:aa prog 76 (f76_3 x0 x1 x2 x3 w4 w5 w6 w7) r):aa prog 76 (.jmp [1,1,0,0,1,1,0,0,1,0,1,1,1,1,1] (f76_3_S x0 x1 x2 x3 w4 w5 w6 w7)) r:=aa.jmp (by kernel_rfl) h
def f91_0_S  (x0 x1 y2 y3 y4:TV):ASt:=⟨[Jk,AV.tv x0,AV.tv x1,Pt 0] ++ Rj 20,[some (BC.cells [CA.t y2,CA.t y3,CA.t y4])] ++ Rz 47,[]⟩
def f91_M (x0 x1 x2:TV):Prg TV :=
 chk (TV.isAgg x0 3) (
 jmp [0,0,0,1] (f91_0_S x1 x2 (cell x0 0) (cell x0 1) (cell x0 2)))
def f91_0  (x0 x1 y2 y3 y4:TV):Prg TV :=
 tv (pbin (.int .i64) .neq x0 x1) fun v0 =>
 Prg.ite (asBool v0) (
 tv (pbin (.int .i64) .gtr x0 x1) fun v1 =>
 Prg.ite (asBool v1) (
 tvs (pidx 1 y4 x0) fun e2 =>
 chk (Nat.blt 0 (List.length e2)) (
 jmp [0,0,0,1] (f91_0_S (nth hole e2 0) x1 y2 y3 y4))) (
 tvs (pidx 1 y4 x1) fun e3 =>
 chk (Nat.blt 0 (List.length e3)) (
 jmp [0,0,0,1] (f91_0_S x0 (nth hole e3 0) y2 y3 y4)))) (
 ret x0)
theorem f91_MR (x0 x1 x2:TV):bT prog 91 [x0,x1,x2]=f91_M x0 x1 x2:=by kernel_rfl
theorem f91_0_J  {x0 x1 y2 y3 y4:TV} {r:TV} (h:aa prog 91 (f91_0 x0 x1 y2 y3 y4) r):aa prog 91 (.jmp [0,0,0,1] (f91_0_S x0 x1 y2 y3 y4)) r:=aa.jmp (by kernel_rfl) h
def f93_0_S  (x0 x1 x2 x3 y4 y5 y6 y7 y8 y9 w10:TV):ASt:=⟨[Jk,AV.tv x0,Pt 0,Jk,Jk,Sr 1] ++ Rj 6 ++ [AV.tv x1,AV.tv x2,AV.tv x3] ++ Rj 14,[some (BC.cells [CA.t y4,CA.t y5,CA.t y6,CA.t y7,CA.t y8,CA.t y9]),Tr w10] ++ Rz 51,[]⟩
def f93_M (x0 x1:TV):Prg TV :=
 chk (TV.isAgg x0 6) (
 tvs (pidx 1 (cell x0 0) x1) fun e0 =>
 chk (Nat.blt 0 (List.length e0)) (
 tv (plen (.slice 3) (nth hole e0 0)) fun v1 =>
 chk true (
 jmp [0,0,1,0,1,1] (f93_0_S x1 (nth hole e0 0) v1 (I 0) (cell x0 0) (cell x0 1) (cell x0 2) (cell x0 3) (cell x0 4) (cell x0 5) (TV.lit aD)))))
def f93_0  (x0 x1 x2 x3 y4 y5 y6 y7 y8 y9 w10:TV):Prg TV :=
 tv (pbin (.int .i64) .lss x3 x2) fun v2 =>
 Prg.ite (asBool v2) (
 tvs (pidx 1 x1 x3) fun e3 =>
 chk (Nat.blt 0 (List.length e3)) (
 call 105 [agg [y5,y6],x0,nth hole e3 0] fun v4 =>
 chk (ac gG [v4] 0) (
 Prg.ite (asBool v4) (
 rws (pelems 1 (TV.sl true 1 (chunks 1 1 [nth hole e3 0]))) fun r5 =>
 tv (papp 1 w10 (mo r5)) fun v6 =>
 tv (pbin (.int .i64) .add x3 (I 1)) fun v7 =>
 jmp [0,0,1,0,1,1] (f93_0_S x0 x1 x2 v7 y4 y5 y6 y7 y8 y9 v6)) (
 tv (pbin (.int .i64) .add x3 (I 1)) fun v8 =>
 jmp [0,0,1,0,1,1] (f93_0_S x0 x1 x2 v8 y4 y5 y6 y7 y8 y9 w10))))) (
 chk (bG w10) (
 ret w10))
theorem f93_MR (x0 x1:TV):bT prog 93 [x0,x1]=f93_M x0 x1:=by kernel_rfl
theorem f93_0_J  {x0 x1 x2 x3 y4 y5 y6 y7 y8 y9 w10:TV} {r:TV} (h:aa prog 93 (f93_0 x0 x1 x2 x3 y4 y5 y6 y7 y8 y9 w10) r):aa prog 93 (.jmp [0,0,1,0,1,1] (f93_0_S x0 x1 x2 x3 y4 y5 y6 y7 y8 y9 w10)) r:=aa.jmp (by kernel_rfl) h
def f105_M (x0 x1 x2:TV):Prg TV :=
 chk (TV.isAgg x0 2) (
 tvs (pidx 1 (cell x0 0) x1) fun e0 =>
 chk (Nat.blt 0 (List.length e0)) (
 tvs (pidx 1 (cell x0 0) x2) fun e1 =>
 chk (Nat.blt 0 (List.length e1)) (
 tv (pbin (.int .i64) .leq (nth hole e0 0) (nth hole e1 0)) fun v2 =>
 Prg.ite (asBool v2) (
 tvs (pidx 1 (cell x0 0) x2) fun e3 =>
 chk (Nat.blt 0 (List.length e3)) (
 tvs (pidx 1 (cell x0 0) x1) fun e4 =>
 chk (Nat.blt 0 (List.length e4)) (
 tvs (pidx 1 (cell x0 1) x1) fun e5 =>
 chk (Nat.blt 0 (List.length e5)) (
 tv (pbin (.int .i64) .add (nth hole e4 0) (nth hole e5 0)) fun v6 =>
 tv (pbin (.int .i64) .lss (nth hole e3 0) v6) fun v7 =>
 ret v7)))) (
 ret (B false)))))
theorem f105_MR (x0 x1 x2:TV):bT prog 105 [x0,x1,x2]=f105_M x0 x1 x2:=by kernel_rfl
end Go.Ab.Q12
end
section
set_option maxRecDepth 10000
namespace Go.Ab.Q12
open Go Go.Ab Go.Proofs
theorem r14 {q q':Option Bool} {x y:TV} {l m:List Int} (hx:RInts q x l) (hy:RInts q' y m):bQ prog 16 [x,y] (B (tt (l=m))):=by
 refine bQ.of (f16_MR _ _) ?_
 unfold f16_M
 repeat' (first
  | refine aa.chk rfl ?_
  | refine aa.tv rfl ?_
  | refine aa.tv (RL.len (by assumption)) ?_
  | refine aa.nat rfl ?_
  | refine aa.ite rfl (fun _=>?_) (fun _=>?_)
  | refine aa.call (by assumption) ?_
  | refine aa.tvs (by assumption) ?_)
 ·rename_i h
  have h:¬ l=m:=by rintro rfl; simp at h
  exact ret_no h
 ·rename_i h
  have hlen:l.length=m.length:=by simp at h; omega
  refine f16_0_J ?_
  rw [nv (vy hlen)]
  refine CE (g:=fun k=>f16_0 x y (I k)) ?_ ?_
  ·unfold f16_0
   refine aa.tv hx.len (aa.tv rfl (aa.ite cM nofun fun _=>aa.ret))
  ·intro k hk r h1 h2
   have hk':k < m.length:=by omega
   have ha:l[k]? = some l[k]:=El hk
   have hb:m[k]? = some m[k]:=El hk'
   obtain ⟨e,he,rfl,_⟩:=hx.idx (k:=.i64) ha
   obtain ⟨e',he',rfl,_⟩:=hy.idx (k:=.i64) hb
   unfold f16_0
   refine aa.tv hx.len (aa.tv rfl (aa.ite (cO hk) (fun _=>?_) nofun))
   refine aa.tvs he (aa.chk rfl (aa.tvs he' (aa.chk rfl (aa.tv rfl (aa.ite rfl (fun h=>?_) fun h=>?_)))))
   ·rw [h1 (by rw [ha,hb]; simpa using h)]; exact aa.ret
   ·refine aa.tv (inc hk hx.bnd) (f16_0_J (h2 ?_))
    rw [ha,hb]; simpa using h
end Go.Ab.Q12
end
section
set_option maxRecDepth 10000
namespace Go.Ab
theorem RL.yN {α:Type} {q:Option Bool} {s:Nat} {R:List TV->α->Prop} {x:TV} {l:List α} (h:RL q s R x l) {k:IntKind} {n:Int} {a:α} (h0:0<=n) (hi:l[n.toNat]? = some a):∃ e,pidx s x (.lit (.int k n))=some e/\R e a:=by
 rcases h with ⟨rfl,rfl⟩ | ⟨o,xs,rfl,hq,h,_⟩
 ·simp at hi
 ·obtain ⟨e,he,hr⟩:=h.get hi
  exact ⟨e,by simp [pidx,he,h0],hr⟩
end Go.Ab
namespace Go.Ab.Q12
open Go Go.Ab Go.Proofs
def iV (k:Int):Int :=
 if k=1 then 5 else if k=5 then 5 else if k=2 then 65 else if k=3 then 197 else if k=4 then 355 else if k=6 then 1 else 0
def has (u f:Int):Bool:=decide (¬ IntKind.i64.wrap ((BitVec.ofInt 64 u &&& BitVec.ofInt 64 f).toNat:Int)=0)
theorem r25 (u f:Int):bQ prog 63 [I u,I f] (B (has u f)):=by
 refine bQ.of (f63_MR _ _) ?_
 unfold f63_M
 repeat' (first
  | refine aa.chk rfl ?_
  | refine aa.tv rfl ?_
  | refine aa.tv (RL.len (by assumption)) ?_
  | refine aa.nat rfl ?_
  | refine aa.ite rfl (fun _=>?_) (fun _=>?_)
  | refine aa.call (by assumption) ?_
  | refine aa.tvs (by assumption) ?_)
 refine ni.2 ?_
 simp [has]
 rfl
theorem r24 (k:Int):bQ prog 62 [I k] (I (iV k)):=by
 refine bQ.of (f62_MR _) ?_
 unfold f62_M
 repeat' (first
  | refine aa.chk rfl ?_
  | refine aa.tv rfl ?_
  | refine aa.tv (RL.len (by assumption)) ?_
  | refine aa.nat rfl ?_
  | refine aa.ite rfl (fun _=>?_) (fun _=>?_)
  | refine aa.call (by assumption) ?_
  | refine aa.tvs (by assumption) ?_)
 all_goals (refine ni.2 ?_; simp_all [iV])
end Go.Ab.Q12
end
section
set_option maxRecDepth 10000
namespace Go.Ab
theorem ak {k:Nat} (h:k<=9223372036854775807):af (I (k:Int))=some k:=by
 simp [af]; omega
end Go.Ab
namespace Go.Ab.Q12
open Go Go.Ab Go.Proofs
end Go.Ab.Q12
end
section
set_option maxRecDepth 10000
namespace Go.Ab
section
variable {α:Type} {s:Nat} {R S:Nat->List TV->α->Prop} {x:TV} {l:List α}
theorem io {β:Type}:∀ (l:List β) (n:Nat) (b:β),(al l n b).length=l.length
 | [],_,_=>rfl
 | _ :: _,0,_=>rfl
 | a :: l,n + 1,b=>by simp [al,io l n b]
end
theorem RL.gT {α:Type} {s:Nat} {R:List TV->α->Prop} {x:TV} {l:List α} (h:RL (some false) s R x l):x.gT=true:=by
 rcases h with ⟨rfl,rfl⟩ | ⟨o,xs,rfl,hq,h,hb⟩
 ·rfl
 ·rw [hq false rfl]; rfl
theorem qc:∀ (xs:List (List TV)),(∀ e ∈ xs,df e=true)->mc xs=true
 | [],_=>rfl
 | e :: xs,h=>by
  simp only [mc,En]
  exact ⟨h e Es,qc xs fun e he=>h e (Et _ he)⟩
theorem F2.memL {α β:Type} {R:α->β->Prop} {xs:List α} {l:List β} (h:F2 R xs l) {e:α} (he:e ∈ xs):∃ a,a ∈ l/\R e a:=by
 obtain ⟨i,hi,rfl⟩:=List.mem_iff_getElem.1 he
 obtain ⟨a,ha,hr⟩:=h.getL (El hi)
 exact ⟨a,Eu ha,hr⟩
theorem RL.own {α:Type} {s:Nat} {R:List TV->α->Prop} {x:TV} {l:List α} (h:RL (some true) s R x l) (hm:∀ e a,R e a->df e=true):bG x=true:=by
 rcases h with ⟨rfl,rfl⟩ | ⟨o,xs,rfl,hq,h,hb⟩
 ·rfl
 ·rw [hq true rfl]
  simp only [bG,Bool.true_and]
  refine qc _ fun e he=>?_
  obtain ⟨a,_,hr⟩:=h.memL he
  exact hm _ _ hr
theorem RI1.own {e:List TV} {n:Int} (h:RI1 e n):df e=true:=by obtain ⟨rfl,_⟩:=h; rfl
theorem RB1.own {e:List TV} {n:Bool} (h:RB1 e n):df e=true:=by cases h; rfl
end Go.Ab
namespace Go.Ab.Q12
open Go Go.Ab Go.Proofs
end Go.Ab.Q12
end
section
set_option maxRecDepth 10000
namespace Go.Ab
section
variable {α β:Type} {p:Way} {w y:TV} {s:Nat} {R:List TV->α->Prop} {Q:TV->β->Prop} {G:List α->DMod} {l:List α}
theorem RL.at (hy:RL (some true) s R y l) {k:Nat} {e:List TV} (he:Go.Ab.pel y k=some e):∃ xs,y=.sl true s xs/\xs[k]? = some e/\F2 R xs l/\xs.length<=9223372036854775807:=by
 rcases hy with ⟨rfl,rfl⟩ | ⟨o,xs,rfl,hq,h,hb⟩
 ·simp [Go.Ab.pel] at he
 ·have:o=true:=hq true rfl
  subst this
  exact ⟨xs,rfl,he,h,hb⟩
end
end Go.Ab
namespace Go.Ab.Q12
open Go Go.Ab Go.Proofs
end Go.Ab.Q12
end
section
set_option maxRecDepth 10000
namespace Go.Ab
def gl (b:DBlock):List Int:=(if b.fin.kind=2\/b.fin.kind=3\/b.fin.kind=4 then [b.fin.to] else []) ++ (if b.fin.kind=3 then [b.fin.els] else [])
theorem nw {M:List Bool} {g i:Nat} (hg:g < M.length):(M.set g true)[i]? = some true ↔ i=g\/M[i]? = some true:=by
 rw [List.getElem?_set]
 by_cases h:g=i
 ·subst h; simp [hg]
 ·simp [h]; intro h'; exact absurd h'.symm h
theorem tJ {M:List Bool} {g:Nat} (hg:M[g]? = some false):(M.set g true).count true=M.count true + 1:=by
 have hlt:=(Ek.1 hg).1
 have hv:=(Ek.1 hg).2
 rw [List.count_set hlt]
 simp [hv]
theorem A4 (M:List Bool):M.count true<=M.length:=List.count_le_length
section
variable {α:Type} {s:Nat} {R:List TV->α->Prop} {y:TV} {l:List α}
theorem RL.i7 (hy:RL (some true) s R y l) {i:Nat} {e:List TV} (he:Go.Ab.pel y i=some e) {d:Nat} {ys:List TV} {a:α} (hR:R (bU e d ys) a):∃ y',di [] y i d ys=some y'/\RL (some true) s R y' (l.set i a):=by
 obtain ⟨xs,rfl,hk,hf,hb⟩:=hy.at he
 refine ⟨.sl true s (al xs i (bU e d ys)),by simp only [di,bP,wy,hk,gI],.sl (by simp) (hf.set hR) (by rw [io]; exact hb)⟩
theorem RL.app (hy:RL (some true) s R y l) {e:List TV} {a:α} (hR:R e a) (hl:l.length + 1<=4294967296):∃ y',papp s y [e]=some y'/\RL (some true) s R y' (l ++ [a]):=by
 rcases hy with ⟨rfl,rfl⟩ | ⟨o,xs,rfl,hq,h,hb⟩
 ·refine ⟨.sl true s [e],by simp [papp,aD,room,B7],.sl (by simp) (.cons hR .nil) (by simp)⟩
 ·have:o=true:=hq true rfl
  subst this
  have hxl:=h.length
  refine ⟨.sl true s (xs ++ [e]),?_,.sl (by simp) (h.append (.cons hR .nil)) (by simp; omega)⟩
  simp [papp,room]; omega
theorem RL.win {q:Option Bool} (hy:RL q s R y l) {k:Nat} (hk:k<=l.length):∃ y',fq 0 k y=some y'/\RL q s R y' (l.take k):=by
 rcases hy with ⟨rfl,rfl⟩ | ⟨o,xs,rfl,hq,h,hb⟩
 ·have:k=0:=by simpa using hk
  subst this
  exact ⟨.lit aD,rfl,by simpa using RL.nil⟩
 ·have hxl:=h.length
  refine ⟨.sl o s ((xs.drop 0).take k),?_,.sl hq (by simpa using h.take k) (by simp; omega)⟩
  simp [fq]; omega
end
end Go.Ab
namespace Go.Ab.Q12
open Go Go.Ab Go.Proofs
theorem has64 (k:Int):has (iV k) 64=true ↔ k=2\/k=3\/k=4:=by
 by_cases h1:k=1
 ·subst h1; exact ⟨fun h=>absurd h (by decide +kernel),fun h=>absurd h (by decide)⟩
 by_cases h5:k=5
 ·subst h5; exact ⟨fun h=>absurd h (by decide +kernel),fun h=>absurd h (by decide)⟩
 by_cases h2:k=2
 ·subst h2; exact ⟨fun _=>.inl rfl,fun _=>by decide +kernel⟩
 by_cases h3:k=3
 ·subst h3; exact ⟨fun _=>.inr (.inl rfl),fun _=>by decide +kernel⟩
 by_cases h4:k=4
 ·subst h4; exact ⟨fun _=>.inr (.inr rfl),fun _=>by decide +kernel⟩
 have:has (iV k) 64=false:=by
  by_cases h6:k=6
  ·subst h6; decide +kernel
  ·have:iV k=0:=by simp [iV, *]
   rw [this]; decide +kernel
 simp [this,h2,h3,h4]
theorem has128 (k:Int):has (iV k) 128=true ↔ k=3:=by
 by_cases h1:k=1
 ·subst h1; exact ⟨fun h=>absurd h (by decide +kernel),fun h=>absurd h (by decide)⟩
 by_cases h5:k=5
 ·subst h5; exact ⟨fun h=>absurd h (by decide +kernel),fun h=>absurd h (by decide)⟩
 by_cases h2:k=2
 ·subst h2; exact ⟨fun h=>absurd h (by decide +kernel),fun h=>absurd h (by decide)⟩
 by_cases h3:k=3
 ·subst h3; exact ⟨fun _=>rfl,fun _=>by decide +kernel⟩
 by_cases h4:k=4
 ·subst h4; exact ⟨fun h=>absurd h (by decide +kernel),fun h=>absurd h (by decide)⟩
 have:has (iV k) 128=false:=by
  by_cases h6:k=6
  ·subst h6; decide +kernel
  ·have:iV k=0:=by simp [iV, *]
   rw [this]; decide +kernel
 simp [this,h3]
theorem r15 {q:Option Bool} {e:List TV} {b:DBlock} (he:RBlock q e b):∃ y,bQ prog 42 [.agg e] y/\RInts (some true) y (gl b):=by
 obtain ⟨c,i,g,rfl,hc,hd,hi,hg,ho⟩:=he
 obtain ⟨o1,o2,o3,o4,o5,o6,o7⟩:=ho
 have tail:∀ (w:TV) (l:List Int) (u:Bool),RInts (some true) w l->l.length<=1->(u=true ↔ b.fin.kind=3)->∃ y,aa prog 42 (f42_0 (B u) (B b.landing) (I b.pad.dst) c (B b.pad.all) (B b.pad.cleanup) i (I b.fin.kind) (I b.fin.a) (I b.fin.dst) (I b.fin.f) g (I b.fin.to) (I b.fin.els) (I b.fin.pad) w) y/\RInts (some true) y (l ++ (if b.fin.kind=3 then [b.fin.els] else [])):=by
  intro w l u hw hl hu
  by_cases h:b.fin.kind=3
  ·have hut:u=true:=hu.2 h
   subst hut
   obtain ⟨w',hw',hr⟩:=hw.app (e:=[I b.fin.els]) (a:=b.fin.els) ⟨rfl,o6⟩ (by omega)
   refine ⟨w',?_,by simpa [h] using hr⟩
   unfold f42_0
   exact aa.ite rfl (fun _=>aa.rws rfl (aa.tv hw' (aa.chk (hr.own fun _ _ h=>h.own) aa.ret))) nofun
  ·have huf:u=false:=by cases u with
    | false=>rfl
    | true=>exact absurd (hu.1 rfl) h
   subst huf
   refine ⟨w,?_,by simpa [h] using hw⟩
   unfold f42_0
   exact aa.ite rfl nofun fun _=>aa.chk (hw.own fun _ _ h=>h.own) aa.ret
 by_cases h:b.fin.kind=2\/b.fin.kind=3\/b.fin.kind=4
 ·obtain ⟨y,hy,hr⟩:=tail (.sl true 1 [[I b.fin.to]]) [b.fin.to] (has (iV b.fin.kind) 128) (.sl (by simp) (.cons ⟨rfl,o5⟩ .nil) (by simp)) (by simp) (has128 _)
  refine ⟨y,?_,by simpa [gl,h] using hr⟩
  refine bQ.of (f42_MR _) ?_
  unfold f42_M
  refine aa.chk rfl (aa.call (r24 _) (aa.chk rfl (aa.call (r25 _ _) (aa.chk rfl (aa.ite (v:=true) (by rw [(has64 _).2 h]; rfl) (fun _=>?_) nofun)))))
  exact aa.rws rfl (aa.tv rfl (aa.call (r25 _ _) (aa.chk rfl (f42_0_J hy))))
 ·obtain ⟨y,hy,hr⟩:=tail (.lit aD) [] (has (iV b.fin.kind) 128) .nil (by simp) (has128 _)
  refine ⟨y,?_,by simpa [gl,h] using hr⟩
  refine bQ.of (f42_MR _) ?_
  unfold f42_M
  have hf:has (iV b.fin.kind) 64=false:=by
   cases hh:has (iV b.fin.kind) 64 with
   | false=>rfl
   | true=>exact absurd ((has64 _).1 hh) h
  refine aa.chk rfl (aa.call (r24 _) (aa.chk rfl (aa.call (r25 _ _) (aa.chk rfl (aa.ite (v:=false) (by rw [hf]; rfl) nofun fun _=>?_)))))
  exact aa.call (r25 _ _) (aa.chk rfl (aa.chk rfl (f42_0_J hy)))
end Go.Ab.Q12
end
section
set_option maxRecDepth 10000
namespace Go.Ab
def er (n:Nat) (g:Int):Bool:=decide (0<=g/\g < (n:Int))
def nx (b:DBlock):List Int:=gl b ++ (if b.fin.kind=4 then [b.fin.pad] else [])
def am (bs:List DBlock) (i:Nat):List Int:=match bs[i]? with
 | some b=>(nx b).filter (er bs.length)
 | none=>[]
def jk (bs:List DBlock) (n:Int):List Int:=if 0<=n then am bs n.toNat else []
theorem aI {bs:List DBlock} {i:Nat} {g:Int} (h:g ∈ am bs i):0<=g/\g.toNat < bs.length:=by
 unfold am at h
 split at h
 ·have:=(List.mem_filter.1 h).2
  simp only [er,decide_eq_true_eq] at this
  omega
 ·cases h
theorem lT (bs:List DBlock) (i:Nat):jk bs (i:Int)=am bs i:=by simp [jk]
theorem nx_len (b:DBlock):(nx b).length<=3:=by
 unfold nx gl
 split <;> split <;> split <;> simp
theorem Ay (bs:List DBlock) (n:Int):(jk bs n).length<=3:=by
 unfold jk
 split
 ·unfold am
  split
  ·exact Nat.le_trans (List.length_filter_le _ _) (nx_len _)
  ·simp
 ·simp
theorem zX {bs:List DBlock} {n:Int} (h:er bs.length n=false):jk bs n=[]:=by
 unfold jk
 split
 ·rename_i h0
  unfold am
  rw [Ex (by simp [er] at h; omega)]
 ·rfl
theorem Cq {bs:List DBlock} {n:Int} (h:er bs.length n=true):∃ b,bs[n.toNat]? = some b/\jk bs n=(nx b).filter (er bs.length)/\n=(n.toNat:Int):=by
 simp only [er,decide_eq_true_eq] at h
 have hl:n.toNat < bs.length:=by omega
 refine ⟨bs[n.toNat],El hl,?_,by omega⟩
 simp only [jk,h.1,if_true,am,El hl]
theorem g8 {P:Int->Bool} {l:List Int} {j:Nat} {a:Int} (h:l[j]? = some a):(l.take (j + 1)).filter P=(l.take j).filter P ++ (if P a then [a] else []):=by
 rw [List.take_add_one,h,List.filter_append]
 cases hp:P a <;> simp [hp]
section
variable {s:Nat} {α:Type} {R:List TV->α->Prop} {y:TV} {l:List α}
theorem RL.clr (hy:RL (some true) s R y l) {k:Nat} (hk:k<=l.length) (z:List TV):∃ y',pclear s z k (l.length - k) y=some y'/\Go.Ab.slLen y'=some l.length/\Go.Ab.slSize y' s=true/\∃ y'',fq 0 k y'=some y''/\RL (some true) s R y'' (l.take k):=by
 rcases hy with ⟨rfl,rfl⟩ | ⟨o,xs,rfl,hq,h,hb⟩
 ·have:k=0:=by simpa using hk
  subst this
  exact ⟨.lit aD,rfl,rfl,rfl,.lit aD,rfl,by simpa using RL.nil⟩
 ·have:o=true:=hq true rfl
  subst this
  have hxl:=h.length
  refine ⟨.sl true s (xs.take k ++ (List.replicate (l.length - k) z ++ xs.drop (k + (l.length - k)))),by simp only [pclear]; rw [if_pos ⟨trivial,by omega⟩],?_,by simp [Go.Ab.slSize],.sl true s (xs.take k),?_,.sl (by simp) (h.take k) (by simp; omega)⟩
  ·simp [Go.Ab.slLen]; omega
  ·simp only [fq]
   rw [if_pos (by simp; omega),List.drop_zero,List.take_append_of_le_length (by simp; omega),List.take_take,Nat.min_self]
end
end Go.Ab
namespace Go.Ab.Q12
open Go Go.Ab Go.Proofs
theorem r70 {q:Option Bool} {e:List TV} {f:DFunc} (he:RFunc q e f) (n:Int):bQ prog 41 [.agg e,I n] (B (er f.blocks.length n)):=by
 obtain ⟨b,rfl,hb,_⟩:=he
 refine bQ.of (f41_MR _ _) ?_
 unfold f41_M
 refine aa.chk rfl (aa.tv rfl (aa.ite rfl (fun h=>aa.tv hb.len (aa.tv rfl ?_)) fun h=>?_))
 ·refine ni.2 ?_
  have h:0<=n:=by simpa using h
  simp [er,h]
 ·refine ni.2 ?_
  have h:¬ 0<=n:=by simpa using h
  simp [er,h]
theorem ba {v:TV} (h:v.isSl=true):ac zSl [v] 0=true:=by
 show (v.isSl && true)=true
 rw [h]; rfl
theorem del2 {y3 y4 y5:TV} {P:Int->Bool} (hP:∀ g,bQ prog 41 [.agg [y3,y4,y5],I g] (B (P g))) {l:List Int}:∀ (d i j:Nat) (w:TV) (cur:List Int),j + d=l.length->i<=j->RInts (some true) w cur->cur.length=l.length ->
  cur.take i=(l.take j).filter P->(∀ m,j<=m->cur[m]? = l[m]?)->∃ y,aa prog 17 (f17_2 (I i) (I j) w y3 y4 y5) y/\RInts (some true) y (l.filter P):=by
 intro d
 induction d with
 | zero =>
  intro i j w cur hj hij hw hcl hti _
  have hj:j=l.length:=by omega
  subst hj
  have hbn:=hw.bnd
  have hil:i<=cur.length:=by omega
  obtain ⟨y',c1,c2,c3,y'',c4,c5⟩:=hw.clr hil [I 0]
  rw [hti,List.take_length] at c5
  refine ⟨y'',?_,c5⟩
  unfold f17_2
  refine aa.tv hw.len (aa.tv rfl (aa.ite (v:=false) (by rw [hcl]; exact cM) nofun fun _=>?_))
  refine f17_3_J ?_
  unfold f17_3
  have han:af (I i)=some i:=ak (by omega)
  have hle:Nat.ble i cur.length=true:=by simpa using hil
  refine aa.nat hw.slLen (aa.nat han (aa.chk (by simp [hw.slSize,hle]) (aa.tv c1 (aa.nat c2 (aa.nat han (aa.chk (by simp [c3,hle]) (aa.tv c4 (aa.chk (c5.own fun _ _ h=>h.own) aa.ret))))))))
 | succ d ih =>
  intro i j w cur hj hij hw hcl hti hd
  have hjl:j < l.length:=by omega
  have hjc:j < cur.length:=by omega
  have hbn:=hw.bnd
  have ha:l[j]? = some l[j]:=El hjl
  obtain ⟨a,haa⟩:∃ a,a=l[j]:=⟨_,rfl⟩
  rw [<- haa] at ha
  have hca:cur[j]? = some a:=by rw [hd j (Nat.le_refl _)]; exact ha
  obtain ⟨e,he,rfl,hea⟩:=hw.pel hca
  have anj:af (I j)=some j:=ak (by omega)
  have ani:af (I i)=some i:=ak (by omega)
  cases hp:P a with
  | true =>
   have hic:i < cur.length:=by omega
   obtain ⟨e',he',rfl,_⟩:=hw.pel (El hic)
   obtain ⟨w',hw',hr⟩:=hw.i7 he' (d:=0) (ys:=[I a]) (a:=a) ⟨rfl,hea⟩
   obtain ⟨y,hy,hry⟩:=ih (i + 1) (j + 1) w' (cur.set i a) (by omega) (by omega) hr (by simpa using hcl) (by
    rw [g8 ha,hp,if_pos rfl,<- hti,List.take_add_one,List.getElem?_set_self hic]
    congr 1
    rw [List.take_set_of_le (Nat.le_refl _)]) (fun m hm=>by
    rw [List.getElem?_set_ne (by omega)]
    exact hd m (by omega))
   refine ⟨y,?_,hry⟩
   unfold f17_2
   refine aa.tv hw.len (aa.tv rfl (aa.ite (cO hjc) (fun _=>?_) nofun))
   refine aa.nat hw.slLen (aa.nat anj (aa.chk (by simp [hw.slSize,hjc]) (aa.tvs he (aa.chk rfl (aa.call (hP a) (aa.chk rfl (aa.tv rfl (aa.tv rfl (aa.ite (v:=true) (by rw [hp]; rfl) (fun _=>?_) nofun)))))))))
   exact aa.nat hw.slLen (aa.nat ani (aa.chk (by simp [hw.slSize,hic]) (aa.tvs he' (aa.chk rfl (aa.tv hw' (aa.tv (inc hic hbn) (aa.tv (inc hjc hbn) (f17_2_J hy))))))))
  | false =>
   obtain ⟨y,hy,hry⟩:=ih i (j + 1) w cur (by omega) (by omega) hw hcl (by rw [g8 ha,hp,hti]; simp) (fun m hm=>hd m (by omega))
   refine ⟨y,?_,hry⟩
   unfold f17_2
   refine aa.tv hw.len (aa.tv rfl (aa.ite (cO hjc) (fun _=>?_) nofun))
   exact aa.nat hw.slLen (aa.nat anj (aa.chk (by simp [hw.slSize,hjc]) (aa.tvs he (aa.chk rfl (aa.call (hP a) (aa.chk rfl (aa.tv rfl (aa.tv rfl (aa.ite (v:=false) (by rw [hp]; rfl) nofun fun _=>aa.tv (inc hjc hbn) (f17_2_J hy))))))))))
theorem del1 {y3 y4 y5:TV} {P:Int->Bool} (hP:∀ g,bQ prog 41 [.agg [y3,y4,y5],I g] (B (P g))) {l:List Int} {w:TV} (hw:RInts (some true) w l):∀ (d k:Nat),k + d=l.length->(l.take k).filter P=l.take k ->
  ∃ y,aa prog 17 (f17_1 (I l.length) (I k) w y3 y4 y5) y/\RInts (some true) y (l.filter P):=by
 intro d
 have hbn:=hw.bnd
 induction d with
 | zero =>
  intro k hk hf
  have hk:k=l.length:=by omega
  subst hk
  rw [List.take_length] at hf
  refine ⟨w,?_,by rw [hf]; exact hw⟩
  unfold f17_1
  exact aa.tv rfl (aa.ite cM nofun fun _=>aa.tv rfl (aa.ite (v:=true) rfl (fun _=>aa.chk (hw.own fun _ _ h=>h.own) aa.ret) nofun))
 | succ d ih =>
  intro k hk hf
  have hkl:k < l.length:=by omega
  obtain ⟨a,haa⟩:∃ a,a=l[k]:=⟨_,rfl⟩
  have ha:l[k]? = some a:=by rw [haa]; exact El hkl
  obtain ⟨e,he,rfl,hea⟩:=hw.pel ha
  have ank:af (I k)=some k:=ak (by omega)
  cases hp:P a with
  | true =>
   obtain ⟨y,hy,hry⟩:=ih (k + 1) (by omega) (by rw [g8 ha,hp,hf,List.take_add_one,ha]; rfl)
   refine ⟨y,?_,hry⟩
   unfold f17_1
   refine aa.tv rfl (aa.ite (cO hkl) (fun _=>?_) nofun)
   exact aa.nat hw.slLen (aa.nat ank (aa.chk (by simp [hw.slSize,hkl]) (aa.tvs he (aa.chk rfl (aa.call (hP a) (aa.chk rfl (aa.tv rfl (aa.ite (v:=false) (by rw [hp]; rfl) nofun fun _=>aa.tv (inc hkl hbn) (f17_1_J hy)))))))))
  | false =>
   obtain ⟨y,hy,hry⟩:=del2 hP d k (k + 1) w l (by omega) (by omega) hw rfl (by rw [g8 ha,hp,hf]; simp) (fun m _=>rfl)
   refine ⟨y,?_,hry⟩
   unfold f17_1
   refine aa.tv rfl (aa.ite (cO hkl) (fun _=>?_) nofun)
   refine aa.nat hw.slLen (aa.nat ank (aa.chk (by simp [hw.slSize,hkl]) (aa.tvs he (aa.chk rfl (aa.call (hP a) (aa.chk rfl (aa.tv rfl (aa.ite (v:=true) (by rw [hp]; rfl) (fun _=>?_) nofun))))))))
   have hne:((k:Int) == (-1:Int))=false:=by simp
   exact aa.tv rfl (aa.ite (v:=false) (by simp only [asBool,hne]) nofun fun _=>aa.tv (inc hkl hbn) (f17_2_J hy))
theorem r71 {q:Option Bool} {e:List TV} {f:DFunc} (he:RFunc q e f) (n:Int):∃ y,bQ prog 17 [.agg e,I n] y/\RInts (some true) y (jk f.blocks n):=by
 have he0:=he
 obtain ⟨b,rfl,hb,_⟩:=he
 cases ht:er f.blocks.length n with
 | false =>
  refine ⟨.lit aD,?_,by rw [zX ht]; exact .nil⟩
  refine bQ.of (f17_MR _ _) ?_
  unfold f17_M
  refine aa.chk rfl (aa.call (r70 he0 n) (aa.chk rfl (aa.tv rfl (aa.ite (v:=true) (by rw [ht]; rfl) (fun _=>aa.chk rfl aa.ret) nofun))))
 | true =>
  obtain ⟨bk,hbk,hnl,hn⟩:=Cq ht
  have key:∀ (w:TV),RInts (some true) w (nx bk)->∃ y,aa prog 17 (f17_0 (I f.params) (I f.regs) b w) y/\RInts (some true) y (jk f.blocks n):=fun w hw=>by
   obtain ⟨y,hy,hr⟩:=del1 (fun g=>r70 he0 g) hw (nx bk).length 0 (by omega) (by simp)
   refine ⟨y,?_,by rw [hnl]; exact hr⟩
   unfold f17_0
   exact aa.tv hw.len (f17_1_J hy)
  obtain ⟨e2,he2,hR⟩:=hb.idx (k:=.i64) hbk
  obtain ⟨v,hv,hvr⟩:=r15 hR
  have hR0:=hR
  obtain ⟨c,i,g,rfl,hc,hd,hi,hg,ho⟩:=hR
  rw [<- hn] at he2
  by_cases h4:bk.fin.kind=4
  ·obtain ⟨w,hw,hwr⟩:=hvr.app (e:=[I bk.fin.pad]) (a:=bk.fin.pad) ⟨rfl,ho.2.2.2.2.2.2⟩ (by have:(gl bk).length<=2:=by { unfold gl; split <;> split <;> simp }; omega)
   obtain ⟨y,hy,hr⟩:=key w (by unfold nx; rw [if_pos h4]; exact hwr)
   refine ⟨y,?_,hr⟩
   refine bQ.of (f17_MR _ _) ?_
   unfold f17_M
   refine aa.chk rfl (aa.call (r70 he0 n) (aa.chk rfl (aa.tv rfl (aa.ite (v:=false) (by rw [ht]; rfl) nofun fun _=>?_))))
   exact aa.tvs he2 (aa.chk rfl (aa.call hv (aa.chk (ba hvr.isSl) (aa.tv rfl (aa.ite (v:=true) (by simp [asBool,h4]) (fun _=>aa.rws rfl (aa.tv hw (f17_0_J hy))) nofun)))))
  ·obtain ⟨y,hy,hr⟩:=key v (by unfold nx; rw [if_neg h4,List.append_nil]; exact hvr)
   refine ⟨y,?_,hr⟩
   refine bQ.of (f17_MR _ _) ?_
   unfold f17_M
   refine aa.chk rfl (aa.call (r70 he0 n) (aa.chk rfl (aa.tv rfl (aa.ite (v:=false) (by rw [ht]; rfl) nofun fun _=>?_))))
   exact aa.tvs he2 (aa.chk rfl (aa.call hv (aa.chk (ba hvr.isSl) (aa.tv rfl (aa.ite (v:=false) (by simp [asBool,h4]) nofun fun _=>f17_0_J hy)))))
end Go.Ab.Q12
end
section
set_option maxRecDepth 10000
namespace Go.Ab
theorem ir {α:Type} {l:List α} {j:Nat} {a:α} (h:l[j]? = some a):l.take (j + 1)=l.take j ++ [a]:=by
 rw [List.take_add_one,h]; rfl
end Go.Ab
namespace Go.Ab.Q12
open Go Go.Ab Go.Proofs
section
variable {q:Option Bool} {b:TV} {bs:List DBlock} (hb:RL q 14 (RBlock q) b bs)
include hb
end
end Go.Ab.Q12
end

import Derived.Test.YtdfmiamebejhoaaJT12T
set_option linter.all false
set_option maxRecDepth 100000
namespace Go.Ab.T12
open Go Go.Ab Go.Proofs
open Go.Ab.TV (hole cell comp isSl isSc isTup cellsL tup agg)
open Go.Ab.Prg (tv tvs rws nat chk call jmp ret)
def f4_0_S  (x0 y1 y2 y3 y4 y5 y6 y7 y8 y9 y10 y11 y12 y13 y14 y15 y16 y17 y18 y19 w20 w21 w22 w23 w24 w25 w26 w27 w28 w29 w30 w31 w32 w33 w34 w35 w36 w37 w38 w39 w40 w41 w42 w43 w44:TV):ASt:=⟨[Jk,Jk,Pt 0,Jk,Jk,Pt 1,Jk,Sr 2,Sr 3,Sr 4,AV.tv x0] ++ Rj 162,[Ct y1,some (BC.cells [CA.sref 5 0 [],CA.t y2,CA.t y3,CA.t y4,CA.t y5,CA.t y6,CA.t y7,CA.t y8,CA.t y9,CA.t y10,CA.t y11,CA.t y12,CA.t y13,CA.t y14,CA.t y15,CA.t y16,CA.t y17,CA.sref 5 17 [],CA.sref 5 18 [],CA.t y18,CA.t y19]),Tr w20,Tr w21,Tr w22,some (BC.tree [w23,w24,w25,w26,w27,w28,w29,w30,w31,w32,w33,w34,w35,w36,w37,w38,w39,w40,w41,w42,w43,w44])] ++ Rz 191,[]⟩
def f4_1_S  (x0 x1 y2 y3 y4 y5 y6 y7 y8 y9 y10 y11 y12 y13 y14 y15 y16 y17 y18 y19 y20 w21 w22 w23 w24 w25 w26 w27 w28 w29 w30 w31 w32 w33 w34 w35 w36 w37 w38 w39 w40 w41 w42 w43 w44 w45:TV):ASt:=⟨[Jk,Jk,Pt 0,Jk,Jk,Pt 1,Jk,Sr 2,Sr 3,Sr 4,AV.tv x0,Jk,Jk,AV.tv x1] ++ Rj 159,[Ct y2,some (BC.cells [CA.sref 5 0 [],CA.t y3,CA.t y4,CA.t y5,CA.t y6,CA.t y7,CA.t y8,CA.t y9,CA.t y10,CA.t y11,CA.t y12,CA.t y13,CA.t y14,CA.t y15,CA.t y16,CA.t y17,CA.t y18,CA.sref 5 17 [],CA.sref 5 18 [],CA.t y19,CA.t y20]),Tr w21,Tr w22,Tr w23,some (BC.tree [w24,w25,w26,w27,w28,w29,w30,w31,w32,w33,w34,w35,w36,w37,w38,w39,w40,w41,w42,w43,w44,w45])] ++ Rz 191,[]⟩
def f4_2_S  (x0 x1 x2 y3 y4 y5 y6 y7 y8 y9 y10 y11 y12 y13 y14 y15 y16 y17 y18 y19 y20 y21 w22 w23 w24 y25 y26 y27 y28 y29 y30 y31 y32 y33 y34 y35 y36 y37 y38 y39 y40 y41 y42 w43 w44 w45 w46 w47 w48 w49 w50 w51 w52 w53 w54 w55 w56 w57 w58 w59 w60 w61 w62 w63 w64 w65 w66 w67 w68 w69 w70 w71 w72 w73 w74 w75 w76 w77 w78 w79 w80 w81 w82 w83 w84 w85 w86:TV):ASt:=⟨[Jk,Jk,Pt 0,Jk,Jk,Pt 1,Jk,Sr 2,Sr 3,Sr 4,AV.tv x0,Jk,Jk,AV.tv x1,Pt 5,Jk,AV.tv x2] ++ Rj 156,[Ct y3,some (BC.cells [CA.sref 6 0 [],CA.t y4,CA.t y5,CA.t y6,CA.t y7,CA.t y8,CA.t y9,CA.t y10,CA.t y11,CA.t y12,CA.t y13,CA.t y14,CA.t y15,CA.t y16,CA.t y17,CA.t y18,CA.t y19,CA.sref 6 17 [],CA.sref 6 18 [],CA.t y20,CA.t y21]),Tr w22,Tr w23,Tr w24,some (BC.cells [CA.sref 7 0 [],CA.t y25,CA.t y26,CA.t y27,CA.t y28,CA.t y29,CA.t y30,CA.t y31,CA.t y32,CA.t y33,CA.t y34,CA.t y35,CA.t y36,CA.t y37,CA.t y38,CA.t y39,CA.t y40,CA.sref 7 17 [],CA.sref 7 18 [],CA.t y41,CA.t y42]),some (BC.tree [w43,w44,w45,w46,w47,w48,w49,w50,w51,w52,w53,w54,w55,w56,w57,w58,w59,w60,w61,w62,w63,w64]),some (BC.tree [w65,w66,w67,w68,w69,w70,w71,w72,w73,w74,w75,w76,w77,w78,w79,w80,w81,w82,w83,w84,w85,w86])] ++ Rz 189,[]⟩
def f4_M (x0 x1:TV):Prg TV :=
 chk (TV.isAgg x0 1) (
 call 6 [] fun v0 =>
 chk (ab al [v0] 0) (
 tv (pun .not v0) fun v1 =>
 Prg.ite (asBool v1) (
 ret (B false)) (
 call 15 [agg [cell x0 0],x1] fun v2 =>
 chk (ab al [v2] 0) (
 tv (pun .not v2) fun v3 =>
 Prg.ite (asBool v3) (
 ret (B true)) (
 call 16 [agg [cell x0 0],x1] fun v4 =>
 chk (isTup v4 2) (
 chk (Bool.and (TV.isAgg (comp v4 0) 21) (ab z37 (cellsL true (comp v4 0)) 0)) (
 chk (ab iW [comp v4 1] 0) (
 tv (pbin (.int .i64) .neq (comp v4 1) (I 0)) fun v5 =>
 Prg.ite (asBool v5) (
 ret (B true)) (
 call 8 [agg [cell x0 0]] fun v6 =>
 chk (ab zSl [v6] 0) (
 call 9 [agg [cell x0 0]] fun v7 =>
 chk (ab zSl [v7] 0) (
 call 10 [agg [cell x0 0]] fun v8 =>
 chk (ab zSl [v8] 0) (
 tv (plen (.slice 4) v6) fun v9 =>
 tv (plen (.slice 53) (cell x0 0)) fun v10 =>
 tv (pbin (.int .i64) .neq v9 v10) fun v11 =>
 Prg.ite (asBool v11) (
 ret (B false)) (
 tv (plen (.slice 4) v7) fun v12 =>
 tv (plen (.slice 53) (cell x0 0)) fun v13 =>
 tv (pbin (.int .i64) .neq v12 v13) fun v14 =>
 Prg.ite (asBool v14) (
 ret (B false)) (
 tv (plen (.slice 4) v8) fun v15 =>
 tv (plen (.slice 53) (cell x0 0)) fun v16 =>
 tv (pbin (.int .i64) .neq v15 v16) fun v17 =>
 Prg.ite (asBool v17) (
 ret (B false)) (
 jmp [0,0,1,0,1,1,1,1,1,1,1] (f4_0_S (I 0) (cell x0 0) (cell (comp v4 0) 1) (cell (comp v4 0) 2) (cell (comp v4 0) 3) (cell (comp v4 0) 4) (cell (comp v4 0) 5) (cell (comp v4 0) 6) (cell (comp v4 0) 7) (cell (comp v4 0) 8) (cell (comp v4 0) 9) (cell (comp v4 0) 10) (cell (comp v4 0) 11) (cell (comp v4 0) 12) (cell (comp v4 0) 13) (cell (comp v4 0) 14) (cell (comp v4 0) 15) (cell (comp v4 0) 16) (cell (comp v4 0) 19) (cell (comp v4 0) 20) v6 v7 v8 (cell (comp v4 0) 0) hole hole hole hole hole hole hole hole hole hole hole hole hole hole hole hole (cell (comp v4 0) 17) (cell (comp v4 0) 18) hole hole hole))))))))))))))))
def f4_0  (x0 y1 y2 y3 y4 y5 y6 y7 y8 y9 y10 y11 y12 y13 y14 y15 y16 y17 y18 y19 w20 w21 w22 w23 w24 w25 w26 w27 w28 w29 w30 w31 w32 w33 w34 w35 w36 w37 w38 w39 w40 w41 w42 w43 w44:TV):Prg TV :=
 tv (pbin (.int .i64) .lss x0 (I 150)) fun v18 =>
 Prg.ite (asBool v18) (
 tv (pbin (.int .i64) .eql y18 (I 0)) fun v19 =>
 Prg.ite (asBool v19) (
 tv (plen (.slice 43) w23) fun v20 =>
 tv (pbin (.int .i64) .sub v20 (I 1)) fun v21 =>
 nat (slLen w23) fun n22 =>
 nat (aj v21) fun n23 =>
 chk (Bool.and (slSize w23 5) (Nat.blt n23 n22)) (
 tvs (pel w23 n23) fun e24 =>
 chk (ab z42 e24 0) (
 tvs (pidx 3 y1 (nth hole e24 0)) fun e25 =>
 chk (Nat.blt 2 (List.length e25)) (
 tvs (pidx 14 (nth hole e25 2) (nth hole e24 1)) fun e26 =>
 chk (Nat.ble 14 (List.length e26)) (
 tv (plen (.slice 57) (nth hole e26 5)) fun v27 =>
 tv (pbin (.int .i64) .eql (nth hole e24 2) v27) fun v28 =>
 Prg.ite (asBool v28) (
 tv (pbin (.int .i64) .eql (nth hole e26 6) (I 5)) fun v29 =>
 Prg.ite (asBool v29) (
 jmp [1,1,1,0,0,1,0,0,1,0,1,1,1,1,1,1,1] (f4_1_S x0 (B true) y1 y2 y3 y4 y5 y6 y7 y8 y9 y10 y11 y12 y13 y14 y15 y16 y17 y18 y19 w20 w21 w22 w23 w24 w25 w26 w27 w28 w29 w30 w31 w32 w33 w34 w35 w36 w37 w38 w39 w40 w41 w42 w43 w44)) (
 tv (pbin (.int .i64) .eql (nth hole e26 6) (I 6)) fun v30 =>
 jmp [1,1,1,0,0,1,0,0,1,0,1,1,1,1,1,1,1] (f4_1_S x0 v30 y1 y2 y3 y4 y5 y6 y7 y8 y9 y10 y11 y12 y13 y14 y15 y16 y17 y18 y19 w20 w21 w22 w23 w24 w25 w26 w27 w28 w29 w30 w31 w32 w33 w34 w35 w36 w37 w38 w39 w40 w41 w42 w43 w44))) (
 jmp [1,1,1,0,0,1,0,0,1,0,1,1,1,1,1,1,1] (f4_1_S x0 (B false) y1 y2 y3 y4 y5 y6 y7 y8 y9 y10 y11 y12 y13 y14 y15 y16 y17 y18 y19 w20 w21 w22 w23 w24 w25 w26 w27 w28 w29 w30 w31 w32 w33 w34 w35 w36 w37 w38 w39 w40 w41 w42 w43 w44))))))) (
 ret (B true))) (
 ret (B true))
def f4_1  (x0 x1 y2 y3 y4 y5 y6 y7 y8 y9 y10 y11 y12 y13 y14 y15 y16 y17 y18 y19 y20 w21 w22 w23 w24 w25 w26 w27 w28 w29 w30 w31 w32 w33 w34 w35 w36 w37 w38 w39 w40 w41 w42 w43 w44 w45:TV):Prg TV :=
 call 17 [agg [y2],agg [frz w24,y3,y4,y5,y6,y7,y8,y9,y10,y11,y12,y13,y14,y15,y16,y17,y18,frz w41,frz w42,y19,y20]] fun v31 =>
 chk (isTup v31 2) (
 chk (Bool.and (TV.isAgg (comp v31 0) 21) (ab z37 (cellsL true (comp v31 0)) 0)) (
 chk (ab iW [comp v31 1] 0) (
 tv (pbin (.int .i64) .neq (comp v31 1) (I 0)) fun v32 =>
 Prg.ite (asBool v32) (
 ret (B false)) (
 jmp [0,0,1,0,1,1,1,1,1,0,0,1,0,0,1,0,1,1,1,1,1,1,1] (f4_2_S x0 x1 (I 0) y2 y3 y4 y5 y6 y7 y8 y9 y10 y11 y12 y13 y14 y15 y16 y17 y18 y19 y20 w21 w22 w23 (cell (comp v31 0) 1) (cell (comp v31 0) 2) (cell (comp v31 0) 3) (cell (comp v31 0) 4) (cell (comp v31 0) 5) (cell (comp v31 0) 6) (cell (comp v31 0) 7) (cell (comp v31 0) 8) (cell (comp v31 0) 9) (cell (comp v31 0) 10) (cell (comp v31 0) 11) (cell (comp v31 0) 12) (cell (comp v31 0) 13) (cell (comp v31 0) 14) (cell (comp v31 0) 15) (cell (comp v31 0) 16) (cell (comp v31 0) 19) (cell (comp v31 0) 20) w24 w25 w26 w27 w28 w29 w30 w31 w32 w33 w34 w35 w36 w37 w38 w39 w40 w41 w42 w43 w44 w45 (cell (comp v31 0) 0) hole hole hole hole hole hole hole hole hole hole hole hole hole hole hole hole (cell (comp v31 0) 17) (cell (comp v31 0) 18) hole hole hole)))))
def f4_2  (x0 x1 x2 y3 y4 y5 y6 y7 y8 y9 y10 y11 y12 y13 y14 y15 y16 y17 y18 y19 y20 y21 w22 w23 w24 y25 y26 y27 y28 y29 y30 y31 y32 y33 y34 y35 y36 y37 y38 y39 y40 y41 y42 w43 w44 w45 w46 w47 w48 w49 w50 w51 w52 w53 w54 w55 w56 w57 w58 w59 w60 w61 w62 w63 w64 w65 w66 w67 w68 w69 w70 w71 w72 w73 w74 w75 w76 w77 w78 w79 w80 w81 w82 w83 w84 w85 w86:TV):Prg TV :=
 tv (plen (.slice 43) w43) fun v33 =>
 tv (pbin (.int .i64) .lss x2 v33) fun v34 =>
 Prg.ite (asBool v34) (
 nat (slLen w43) fun n35 =>
 nat (aj x2) fun n36 =>
 chk (Bool.and (slSize w43 5) (Nat.blt n36 n35)) (
 tvs (pel w43 n36) fun e37 =>
 chk (ab iW e37 0) (
 Prg.ite (asBool x1) (
 tv (plen (.slice 43) w65) fun v38 =>
 tv (pbin (.int .i64) .geq x2 v38) fun v39 =>
 Prg.ite (asBool v39) (
 nat (slLen w22) fun n40 =>
 nat (aj (nth hole e37 0)) fun n41 =>
 chk (Bool.and (slSize w22 1) (Nat.blt n41 n40)) (
 tvs (pel w22 n41) fun e42 =>
 chk (ab al e42 0) (
 tv (pun .not (nth hole e42 0)) fun v43 =>
 Prg.ite (asBool v43) (
 ret (B false)) (
 nat (slLen w23) fun n44 =>
 nat (aj (nth hole e37 0)) fun n45 =>
 chk (Bool.and (slSize w23 1) (Nat.blt n45 n44)) (
 tvs (pel w23 n45) fun e46 =>
 chk (ab al e46 0) (
 tv (pun .not (nth hole e46 0)) fun v47 =>
 Prg.ite (asBool v47) (
 tv (plen (.slice 3) w83) fun v48 =>
 tv (plen (.slice 3) w61) fun v49 =>
 tv (pbin (.int .i64) .neq v48 v49) fun v50 =>
 Prg.ite (asBool v50) (
 ret (B false)) (
 nat (slLen w24) fun n51 =>
 nat (aj (nth hole e37 0)) fun n52 =>
 chk (Bool.and (slSize w24 1) (Nat.blt n52 n51)) (
 tvs (pel w24 n52) fun e53 =>
 chk (ab al e53 0) (
 tv (pun .not (nth hole e53 0)) fun v54 =>
 Prg.ite (asBool v54) (
 tv (qq IntKind.u16 .neq [y25,y26,y27,y28,y29,y30,y31,y32,y33,y34,y35,y36,y37,y38,y39,y40] [y4,y5,y6,y7,y8,y9,y10,y11,y12,y13,y14,y15,y16,y17,y18,y19]) fun v55 =>
 Prg.ite (asBool v55) (
 ret (B false)) (
 tv (pbin (.int .i64) .add x2 (I 1)) fun v56 =>
 jmp [0,0,1,0,1,1,1,1,1,0,0,1,0,0,1,0,1,1,1,1,1,1,1] (f4_2_S x0 x1 v56 y3 y4 y5 y6 y7 y8 y9 y10 y11 y12 y13 y14 y15 y16 y17 y18 y19 y20 y21 w22 w23 w24 y25 y26 y27 y28 y29 y30 y31 y32 y33 y34 y35 y36 y37 y38 y39 y40 y41 y42 w43 w44 w45 w46 w47 w48 w49 w50 w51 w52 w53 w54 w55 w56 w57 w58 w59 w60 w61 w62 w63 w64 w65 w66 w67 w68 w69 w70 w71 w72 w73 w74 w75 w76 w77 w78 w79 w80 w81 w82 w83 w84 w85 w86))) (
 tv (pbin (.int .i64) .add x2 (I 1)) fun v57 =>
 jmp [0,0,1,0,1,1,1,1,1,0,0,1,0,0,1,0,1,1,1,1,1,1,1] (f4_2_S x0 x1 v57 y3 y4 y5 y6 y7 y8 y9 y10 y11 y12 y13 y14 y15 y16 y17 y18 y19 y20 y21 w22 w23 w24 y25 y26 y27 y28 y29 y30 y31 y32 y33 y34 y35 y36 y37 y38 y39 y40 y41 y42 w43 w44 w45 w46 w47 w48 w49 w50 w51 w52 w53 w54 w55 w56 w57 w58 w59 w60 w61 w62 w63 w64 w65 w66 w67 w68 w69 w70 w71 w72 w73 w74 w75 w76 w77 w78 w79 w80 w81 w82 w83 w84 w85 w86)))))) (
 nat (slLen w24) fun n58 =>
 nat (aj (nth hole e37 0)) fun n59 =>
 chk (Bool.and (slSize w24 1) (Nat.blt n59 n58)) (
 tvs (pel w24 n59) fun e60 =>
 chk (ab al e60 0) (
 tv (pun .not (nth hole e60 0)) fun v61 =>
 Prg.ite (asBool v61) (
 tv (qq IntKind.u16 .neq [y25,y26,y27,y28,y29,y30,y31,y32,y33,y34,y35,y36,y37,y38,y39,y40] [y4,y5,y6,y7,y8,y9,y10,y11,y12,y13,y14,y15,y16,y17,y18,y19]) fun v62 =>
 Prg.ite (asBool v62) (
 ret (B false)) (
 tv (pbin (.int .i64) .add x2 (I 1)) fun v63 =>
 jmp [0,0,1,0,1,1,1,1,1,0,0,1,0,0,1,0,1,1,1,1,1,1,1] (f4_2_S x0 x1 v63 y3 y4 y5 y6 y7 y8 y9 y10 y11 y12 y13 y14 y15 y16 y17 y18 y19 y20 y21 w22 w23 w24 y25 y26 y27 y28 y29 y30 y31 y32 y33 y34 y35 y36 y37 y38 y39 y40 y41 y42 w43 w44 w45 w46 w47 w48 w49 w50 w51 w52 w53 w54 w55 w56 w57 w58 w59 w60 w61 w62 w63 w64 w65 w66 w67 w68 w69 w70 w71 w72 w73 w74 w75 w76 w77 w78 w79 w80 w81 w82 w83 w84 w85 w86))) (
 tv (pbin (.int .i64) .add x2 (I 1)) fun v64 =>
 jmp [0,0,1,0,1,1,1,1,1,0,0,1,0,0,1,0,1,1,1,1,1,1,1] (f4_2_S x0 x1 v64 y3 y4 y5 y6 y7 y8 y9 y10 y11 y12 y13 y14 y15 y16 y17 y18 y19 y20 y21 w22 w23 w24 y25 y26 y27 y28 y29 y30 y31 y32 y33 y34 y35 y36 y37 y38 y39 y40 y41 y42 w43 w44 w45 w46 w47 w48 w49 w50 w51 w52 w53 w54 w55 w56 w57 w58 w59 w60 w61 w62 w63 w64 w65 w66 w67 w68 w69 w70 w71 w72 w73 w74 w75 w76 w77 w78 w79 w80 w81 w82 w83 w84 w85 w86))))))))))) (
 nat (slLen w23) fun n65 =>
 nat (aj (nth hole e37 0)) fun n66 =>
 chk (Bool.and (slSize w23 1) (Nat.blt n66 n65)) (
 tvs (pel w23 n66) fun e67 =>
 chk (ab al e67 0) (
 tv (pun .not (nth hole e67 0)) fun v68 =>
 Prg.ite (asBool v68) (
 tv (plen (.slice 3) w83) fun v69 =>
 tv (plen (.slice 3) w61) fun v70 =>
 tv (pbin (.int .i64) .neq v69 v70) fun v71 =>
 Prg.ite (asBool v71) (
 ret (B false)) (
 nat (slLen w24) fun n72 =>
 nat (aj (nth hole e37 0)) fun n73 =>
 chk (Bool.and (slSize w24 1) (Nat.blt n73 n72)) (
 tvs (pel w24 n73) fun e74 =>
 chk (ab al e74 0) (
 tv (pun .not (nth hole e74 0)) fun v75 =>
 Prg.ite (asBool v75) (
 tv (qq IntKind.u16 .neq [y25,y26,y27,y28,y29,y30,y31,y32,y33,y34,y35,y36,y37,y38,y39,y40] [y4,y5,y6,y7,y8,y9,y10,y11,y12,y13,y14,y15,y16,y17,y18,y19]) fun v76 =>
 Prg.ite (asBool v76) (
 ret (B false)) (
 tv (pbin (.int .i64) .add x2 (I 1)) fun v77 =>
 jmp [0,0,1,0,1,1,1,1,1,0,0,1,0,0,1,0,1,1,1,1,1,1,1] (f4_2_S x0 x1 v77 y3 y4 y5 y6 y7 y8 y9 y10 y11 y12 y13 y14 y15 y16 y17 y18 y19 y20 y21 w22 w23 w24 y25 y26 y27 y28 y29 y30 y31 y32 y33 y34 y35 y36 y37 y38 y39 y40 y41 y42 w43 w44 w45 w46 w47 w48 w49 w50 w51 w52 w53 w54 w55 w56 w57 w58 w59 w60 w61 w62 w63 w64 w65 w66 w67 w68 w69 w70 w71 w72 w73 w74 w75 w76 w77 w78 w79 w80 w81 w82 w83 w84 w85 w86))) (
 tv (pbin (.int .i64) .add x2 (I 1)) fun v78 =>
 jmp [0,0,1,0,1,1,1,1,1,0,0,1,0,0,1,0,1,1,1,1,1,1,1] (f4_2_S x0 x1 v78 y3 y4 y5 y6 y7 y8 y9 y10 y11 y12 y13 y14 y15 y16 y17 y18 y19 y20 y21 w22 w23 w24 y25 y26 y27 y28 y29 y30 y31 y32 y33 y34 y35 y36 y37 y38 y39 y40 y41 y42 w43 w44 w45 w46 w47 w48 w49 w50 w51 w52 w53 w54 w55 w56 w57 w58 w59 w60 w61 w62 w63 w64 w65 w66 w67 w68 w69 w70 w71 w72 w73 w74 w75 w76 w77 w78 w79 w80 w81 w82 w83 w84 w85 w86)))))) (
 nat (slLen w24) fun n79 =>
 nat (aj (nth hole e37 0)) fun n80 =>
 chk (Bool.and (slSize w24 1) (Nat.blt n80 n79)) (
 tvs (pel w24 n80) fun e81 =>
 chk (ab al e81 0) (
 tv (pun .not (nth hole e81 0)) fun v82 =>
 Prg.ite (asBool v82) (
 tv (qq IntKind.u16 .neq [y25,y26,y27,y28,y29,y30,y31,y32,y33,y34,y35,y36,y37,y38,y39,y40] [y4,y5,y6,y7,y8,y9,y10,y11,y12,y13,y14,y15,y16,y17,y18,y19]) fun v83 =>
 Prg.ite (asBool v83) (
 ret (B false)) (
 tv (pbin (.int .i64) .add x2 (I 1)) fun v84 =>
 jmp [0,0,1,0,1,1,1,1,1,0,0,1,0,0,1,0,1,1,1,1,1,1,1] (f4_2_S x0 x1 v84 y3 y4 y5 y6 y7 y8 y9 y10 y11 y12 y13 y14 y15 y16 y17 y18 y19 y20 y21 w22 w23 w24 y25 y26 y27 y28 y29 y30 y31 y32 y33 y34 y35 y36 y37 y38 y39 y40 y41 y42 w43 w44 w45 w46 w47 w48 w49 w50 w51 w52 w53 w54 w55 w56 w57 w58 w59 w60 w61 w62 w63 w64 w65 w66 w67 w68 w69 w70 w71 w72 w73 w74 w75 w76 w77 w78 w79 w80 w81 w82 w83 w84 w85 w86))) (
 tv (pbin (.int .i64) .add x2 (I 1)) fun v85 =>
 jmp [0,0,1,0,1,1,1,1,1,0,0,1,0,0,1,0,1,1,1,1,1,1,1] (f4_2_S x0 x1 v85 y3 y4 y5 y6 y7 y8 y9 y10 y11 y12 y13 y14 y15 y16 y17 y18 y19 y20 y21 w22 w23 w24 y25 y26 y27 y28 y29 y30 y31 y32 y33 y34 y35 y36 y37 y38 y39 y40 y41 y42 w43 w44 w45 w46 w47 w48 w49 w50 w51 w52 w53 w54 w55 w56 w57 w58 w59 w60 w61 w62 w63 w64 w65 w66 w67 w68 w69 w70 w71 w72 w73 w74 w75 w76 w77 w78 w79 w80 w81 w82 w83 w84 w85 w86))))))))) (
 nat (slLen w23) fun n86 =>
 nat (aj (nth hole e37 0)) fun n87 =>
 chk (Bool.and (slSize w23 1) (Nat.blt n87 n86)) (
 tvs (pel w23 n87) fun e88 =>
 chk (ab al e88 0) (
 tv (pun .not (nth hole e88 0)) fun v89 =>
 Prg.ite (asBool v89) (
 tv (plen (.slice 3) w83) fun v90 =>
 tv (plen (.slice 3) w61) fun v91 =>
 tv (pbin (.int .i64) .neq v90 v91) fun v92 =>
 Prg.ite (asBool v92) (
 ret (B false)) (
 nat (slLen w24) fun n93 =>
 nat (aj (nth hole e37 0)) fun n94 =>
 chk (Bool.and (slSize w24 1) (Nat.blt n94 n93)) (
 tvs (pel w24 n94) fun e95 =>
 chk (ab al e95 0) (
 tv (pun .not (nth hole e95 0)) fun v96 =>
 Prg.ite (asBool v96) (
 tv (qq IntKind.u16 .neq [y25,y26,y27,y28,y29,y30,y31,y32,y33,y34,y35,y36,y37,y38,y39,y40] [y4,y5,y6,y7,y8,y9,y10,y11,y12,y13,y14,y15,y16,y17,y18,y19]) fun v97 =>
 Prg.ite (asBool v97) (
 ret (B false)) (
 tv (pbin (.int .i64) .add x2 (I 1)) fun v98 =>
 jmp [0,0,1,0,1,1,1,1,1,0,0,1,0,0,1,0,1,1,1,1,1,1,1] (f4_2_S x0 x1 v98 y3 y4 y5 y6 y7 y8 y9 y10 y11 y12 y13 y14 y15 y16 y17 y18 y19 y20 y21 w22 w23 w24 y25 y26 y27 y28 y29 y30 y31 y32 y33 y34 y35 y36 y37 y38 y39 y40 y41 y42 w43 w44 w45 w46 w47 w48 w49 w50 w51 w52 w53 w54 w55 w56 w57 w58 w59 w60 w61 w62 w63 w64 w65 w66 w67 w68 w69 w70 w71 w72 w73 w74 w75 w76 w77 w78 w79 w80 w81 w82 w83 w84 w85 w86))) (
 tv (pbin (.int .i64) .add x2 (I 1)) fun v99 =>
 jmp [0,0,1,0,1,1,1,1,1,0,0,1,0,0,1,0,1,1,1,1,1,1,1] (f4_2_S x0 x1 v99 y3 y4 y5 y6 y7 y8 y9 y10 y11 y12 y13 y14 y15 y16 y17 y18 y19 y20 y21 w22 w23 w24 y25 y26 y27 y28 y29 y30 y31 y32 y33 y34 y35 y36 y37 y38 y39 y40 y41 y42 w43 w44 w45 w46 w47 w48 w49 w50 w51 w52 w53 w54 w55 w56 w57 w58 w59 w60 w61 w62 w63 w64 w65 w66 w67 w68 w69 w70 w71 w72 w73 w74 w75 w76 w77 w78 w79 w80 w81 w82 w83 w84 w85 w86)))))) (
 nat (slLen w24) fun n100 =>
 nat (aj (nth hole e37 0)) fun n101 =>
 chk (Bool.and (slSize w24 1) (Nat.blt n101 n100)) (
 tvs (pel w24 n101) fun e102 =>
 chk (ab al e102 0) (
 tv (pun .not (nth hole e102 0)) fun v103 =>
 Prg.ite (asBool v103) (
 tv (qq IntKind.u16 .neq [y25,y26,y27,y28,y29,y30,y31,y32,y33,y34,y35,y36,y37,y38,y39,y40] [y4,y5,y6,y7,y8,y9,y10,y11,y12,y13,y14,y15,y16,y17,y18,y19]) fun v104 =>
 Prg.ite (asBool v104) (
 ret (B false)) (
 tv (pbin (.int .i64) .add x2 (I 1)) fun v105 =>
 jmp [0,0,1,0,1,1,1,1,1,0,0,1,0,0,1,0,1,1,1,1,1,1,1] (f4_2_S x0 x1 v105 y3 y4 y5 y6 y7 y8 y9 y10 y11 y12 y13 y14 y15 y16 y17 y18 y19 y20 y21 w22 w23 w24 y25 y26 y27 y28 y29 y30 y31 y32 y33 y34 y35 y36 y37 y38 y39 y40 y41 y42 w43 w44 w45 w46 w47 w48 w49 w50 w51 w52 w53 w54 w55 w56 w57 w58 w59 w60 w61 w62 w63 w64 w65 w66 w67 w68 w69 w70 w71 w72 w73 w74 w75 w76 w77 w78 w79 w80 w81 w82 w83 w84 w85 w86))) (
 tv (pbin (.int .i64) .add x2 (I 1)) fun v106 =>
 jmp [0,0,1,0,1,1,1,1,1,0,0,1,0,0,1,0,1,1,1,1,1,1,1] (f4_2_S x0 x1 v106 y3 y4 y5 y6 y7 y8 y9 y10 y11 y12 y13 y14 y15 y16 y17 y18 y19 y20 y21 w22 w23 w24 y25 y26 y27 y28 y29 y30 y31 y32 y33 y34 y35 y36 y37 y38 y39 y40 y41 y42 w43 w44 w45 w46 w47 w48 w49 w50 w51 w52 w53 w54 w55 w56 w57 w58 w59 w60 w61 w62 w63 w64 w65 w66 w67 w68 w69 w70 w71 w72 w73 w74 w75 w76 w77 w78 w79 w80 w81 w82 w83 w84 w85 w86))))))))))) (
 tv (pbin (.int .i64) .add x0 (I 1)) fun v107 =>
 jmp [0,0,1,0,1,1,1,1,1,1,1] (f4_0_S v107 y3 y25 y26 y27 y28 y29 y30 y31 y32 y33 y34 y35 y36 y37 y38 y39 y40 y41 y42 w22 w23 w24 w65 w66 w67 w68 w69 w70 w71 w72 w73 w74 w75 w76 w77 w78 w79 w80 w81 w82 w83 w84 w85 w86))
theorem f4_MR (x0 x1:TV):aA prog 4 [x0,x1]=f4_M x0 x1:=by kernel_rfl
theorem f4_0_J  {x0 y1 y2 y3 y4 y5 y6 y7 y8 y9 y10 y11 y12 y13 y14 y15 y16 y17 y18 y19 w20 w21 w22 w23 w24 w25 w26 w27 w28 w29 w30 w31 w32 w33 w34 w35 w36 w37 w38 w39 w40 w41 w42 w43 w44:TV} {r:TV} (h:aa prog 4 (f4_0 x0 y1 y2 y3 y4 y5 y6 y7 y8 y9 y10 y11 y12 y13 y14 y15 y16 y17 y18 y19 w20 w21 w22 w23 w24 w25 w26 w27 w28 w29 w30 w31 w32 w33 w34 w35 w36 w37 w38 w39 w40 w41 w42 w43 w44) r):aa prog 4 (.jmp [0,0,1,0,1,1,1,1,1,1,1] (f4_0_S x0 y1 y2 y3 y4 y5 y6 y7 y8 y9 y10 y11 y12 y13 y14 y15 y16 y17 y18 y19 w20 w21 w22 w23 w24 w25 w26 w27 w28 w29 w30 w31 w32 w33 w34 w35 w36 w37 w38 w39 w40 w41 w42 w43 w44)) r:=aa.jmp (by kernel_rfl) h
theorem f4_1_J  {x0 x1 y2 y3 y4 y5 y6 y7 y8 y9 y10 y11 y12 y13 y14 y15 y16 y17 y18 y19 y20 w21 w22 w23 w24 w25 w26 w27 w28 w29 w30 w31 w32 w33 w34 w35 w36 w37 w38 w39 w40 w41 w42 w43 w44 w45:TV} {r:TV} (h:aa prog 4 (f4_1 x0 x1 y2 y3 y4 y5 y6 y7 y8 y9 y10 y11 y12 y13 y14 y15 y16 y17 y18 y19 y20 w21 w22 w23 w24 w25 w26 w27 w28 w29 w30 w31 w32 w33 w34 w35 w36 w37 w38 w39 w40 w41 w42 w43 w44 w45) r):aa prog 4 (.jmp [1,1,1,0,0,1,0,0,1,0,1,1,1,1,1,1,1] (f4_1_S x0 x1 y2 y3 y4 y5 y6 y7 y8 y9 y10 y11 y12 y13 y14 y15 y16 y17 y18 y19 y20 w21 w22 w23 w24 w25 w26 w27 w28 w29 w30 w31 w32 w33 w34 w35 w36 w37 w38 w39 w40 w41 w42 w43 w44 w45)) r:=aa.jmp (by kernel_rfl) h
theorem f4_2_J  {x0 x1 x2 y3 y4 y5 y6 y7 y8 y9 y10 y11 y12 y13 y14 y15 y16 y17 y18 y19 y20 y21 w22 w23 w24 y25 y26 y27 y28 y29 y30 y31 y32 y33 y34 y35 y36 y37 y38 y39 y40 y41 y42 w43 w44 w45 w46 w47 w48 w49 w50 w51 w52 w53 w54 w55 w56 w57 w58 w59 w60 w61 w62 w63 w64 w65 w66 w67 w68 w69 w70 w71 w72 w73 w74 w75 w76 w77 w78 w79 w80 w81 w82 w83 w84 w85 w86:TV} {r:TV} (h:aa prog 4 (f4_2 x0 x1 x2 y3 y4 y5 y6 y7 y8 y9 y10 y11 y12 y13 y14 y15 y16 y17 y18 y19 y20 y21 w22 w23 w24 y25 y26 y27 y28 y29 y30 y31 y32 y33 y34 y35 y36 y37 y38 y39 y40 y41 y42 w43 w44 w45 w46 w47 w48 w49 w50 w51 w52 w53 w54 w55 w56 w57 w58 w59 w60 w61 w62 w63 w64 w65 w66 w67 w68 w69 w70 w71 w72 w73 w74 w75 w76 w77 w78 w79 w80 w81 w82 w83 w84 w85 w86) r):aa prog 4 (.jmp [0,0,1,0,1,1,1,1,1,0,0,1,0,0,1,0,1,1,1,1,1,1,1] (f4_2_S x0 x1 x2 y3 y4 y5 y6 y7 y8 y9 y10 y11 y12 y13 y14 y15 y16 y17 y18 y19 y20 y21 w22 w23 w24 y25 y26 y27 y28 y29 y30 y31 y32 y33 y34 y35 y36 y37 y38 y39 y40 y41 y42 w43 w44 w45 w46 w47 w48 w49 w50 w51 w52 w53 w54 w55 w56 w57 w58 w59 w60 w61 w62 w63 w64 w65 w66 w67 w68 w69 w70 w71 w72 w73 w74 w75 w76 w77 w78 w79 w80 w81 w82 w83 w84 w85 w86)) r:=aa.jmp (by kernel_rfl) h
def f7_0_S  (x0 x1 y2:TV):ASt:=⟨[Jk,Pt 0,Jk,AV.tv x0,AV.tv x1] ++ Rj 82,[Ct y2] ++ Rz 110,[]⟩
def f7_1_S  (x0 x1 x2 y3:TV):ASt:=⟨[Jk,Pt 0,Jk,AV.tv x0,AV.tv x1,AV.tv x2] ++ Rj 81,[Ct y3] ++ Rz 110,[]⟩
def f7_2_S  (x0 x1 x2 x3 y4 y5 y6 y7 y8 y9 y10 y11 y12 y13 y14 y15 y16 y17 y18:TV):ASt:=⟨[Jk,Pt 0,Jk,AV.tv x0,AV.tv x1,AV.tv x2,Pt 1,AV.tv x3] ++ Rj 79,[Ct y4,some (BC.cells [CA.t y5,CA.t y6,CA.t y7,CA.t y8,CA.t y9,CA.t y10,CA.t y11,CA.t y12,CA.t y13,CA.t y14,CA.t y15,CA.t y16,CA.t y17,CA.t y18])] ++ Rz 109,[]⟩
def f7_M (x0:TV):Prg TV :=
 chk (TV.isAgg x0 1) (
 tv (plen (.slice 53) (cell x0 0)) fun v0 =>
 tv (pbin (.int .i64) .gtr v0 (I 20)) fun v1 =>
 Prg.ite (asBool v1) (
 ret (B false)) (
 jmp [0,0,1,0,1,1,1] (f7_0_S (I 0) (I 0) (cell x0 0))))
def f7_0  (x0 x1 y2:TV):Prg TV :=
 tv (plen (.slice 53) y2) fun v2 =>
 tv (pbin (.int .i64) .lss x1 v2) fun v3 =>
 Prg.ite (asBool v3) (
 tvs (pidx 3 y2 x1) fun e4 =>
 chk (Nat.blt 2 (List.length e4)) (
 tv (plen (.slice 50) (nth hole e4 2)) fun v5 =>
 tv (pbin (.int .i64) .gtr v5 (I 70)) fun v6 =>
 Prg.ite (asBool v6) (
 ret (B false)) (
 jmp [0,0,1,1,0,0,1,0,0,1,0,1,1,1] (f7_1_S x0 x1 (I 0) y2)))) (
 tv (pbin (.int .i64) .leq x0 (I 2000)) fun v7 =>
 ret v7)
def f7_1  (x0 x1 x2 y3:TV):Prg TV :=
 tvs (pidx 3 y3 x1) fun e8 =>
 chk (Nat.blt 2 (List.length e8)) (
 tv (plen (.slice 50) (nth hole e8 2)) fun v9 =>
 tv (pbin (.int .i64) .lss x2 v9) fun v10 =>
 Prg.ite (asBool v10) (
 tvs (pidx 3 y3 x1) fun e11 =>
 chk (Nat.blt 2 (List.length e11)) (
 tvs (pidx 14 (nth hole e11 2) x2) fun e12 =>
 chk (Nat.ble 14 (List.length e12)) (
 tv (plen (.slice 57) (nth hole e12 5)) fun v13 =>
 tv (pbin (.int .i64) .gtr v13 (I 70)) fun v14 =>
 Prg.ite (asBool v14) (
 ret (B false)) (
 tv (plen (.slice 35) (nth hole e12 2)) fun v15 =>
 tv (pbin (.int .i64) .gtr v15 (I 20)) fun v16 =>
 Prg.ite (asBool v16) (
 ret (B false)) (
 tv (plen (.slice 3) (nth hole e12 10)) fun v17 =>
 tv (pbin (.int .i64) .gtr v17 (I 20)) fun v18 =>
 Prg.ite (asBool v18) (
 ret (B false)) (
 tv (plen (.slice 57) (nth hole e12 5)) fun v19 =>
 tv (pbin (.int .i64) .add x0 v19) fun v20 =>
 jmp [0,0,1,1,1,1,0,0,1,0,0,1,1,0,0,1,0,0,1,0,1,1,1] (f7_2_S v20 x1 x2 (I 0) y3 (nth hole e12 0) (nth hole e12 1) (nth hole e12 2) (nth hole e12 3) (nth hole e12 4) (nth hole e12 5) (nth hole e12 6) (nth hole e12 7) (nth hole e12 8) (nth hole e12 9) (nth hole e12 10) (nth hole e12 11) (nth hole e12 12) (nth hole e12 13)))))))) (
 tv (pbin (.int .i64) .add x1 (I 1)) fun v21 =>
 jmp [0,0,1,0,1,1,1] (f7_0_S x0 v21 y3)))
def f7_2  (x0 x1 x2 x3 y4 y5 y6 y7 y8 y9 y10 y11 y12 y13 y14 y15 y16 y17 y18:TV):Prg TV :=
 tv (plen (.slice 57) y10) fun v22 =>
 tv (pbin (.int .i64) .lss x3 v22) fun v23 =>
 Prg.ite (asBool v23) (
 tvs (pidx 7 y10 x3) fun e24 =>
 chk (Nat.blt 6 (List.length e24)) (
 tv (plen (.slice 3) (nth hole e24 6)) fun v25 =>
 tv (pbin (.int .i64) .gtr v25 (I 20)) fun v26 =>
 Prg.ite (asBool v26) (
 ret (B false)) (
 tv (pbin (.int .i64) .add x3 (I 1)) fun v27 =>
 jmp [0,0,1,1,1,1,0,0,1,0,0,1,1,0,0,1,0,0,1,0,1,1,1] (f7_2_S x0 x1 x2 v27 y4 y5 y6 y7 y8 y9 y10 y11 y12 y13 y14 y15 y16 y17 y18)))) (
 tv (pbin (.int .i64) .add x2 (I 1)) fun v28 =>
 jmp [0,0,1,1,0,0,1,0,0,1,0,1,1,1] (f7_1_S x0 x1 v28 y4))
theorem f7_MR (x0:TV):aA prog 7 [x0]=f7_M x0:=by kernel_rfl
theorem f7_0_J  {x0 x1 y2:TV} {r:TV} (h:aa prog 7 (f7_0 x0 x1 y2) r):aa prog 7 (.jmp [0,0,1,0,1,1,1] (f7_0_S x0 x1 y2)) r:=aa.jmp (by kernel_rfl) h
theorem f7_1_J  {x0 x1 x2 y3:TV} {r:TV} (h:aa prog 7 (f7_1 x0 x1 x2 y3) r):aa prog 7 (.jmp [0,0,1,1,0,0,1,0,0,1,0,1,1,1] (f7_1_S x0 x1 x2 y3)) r:=aa.jmp (by kernel_rfl) h
theorem f7_2_J  {x0 x1 x2 x3 y4 y5 y6 y7 y8 y9 y10 y11 y12 y13 y14 y15 y16 y17 y18:TV} {r:TV} (h:aa prog 7 (f7_2 x0 x1 x2 x3 y4 y5 y6 y7 y8 y9 y10 y11 y12 y13 y14 y15 y16 y17 y18) r):aa prog 7 (.jmp [0,0,1,1,1,1,0,0,1,0,0,1,1,0,0,1,0,0,1,0,1,1,1] (f7_2_S x0 x1 x2 x3 y4 y5 y6 y7 y8 y9 y10 y11 y12 y13 y14 y15 y16 y17 y18)) r:=aa.jmp (by kernel_rfl) h
def f8_0_S  (x0 y1 w2:TV):ASt:=⟨[Jk,Jk,Pt 0,Pt 1,Jk,Pt 2,AV.tv x0] ++ Rj 34,[Ct y1,some (BC.cells [CA.t (TV.lit (Value.func (Fn.func 19) (Array.mk []) (Array.mk [])))]),some (BC.cells [CA.sref 3 0 []]),Tr w2] ++ Rz 66,Rj 5⟩
def f8_1_S  (x0 x1 x2 x3 y4 w5:TV):ASt:=⟨[Jk,Jk,Pt 0,Pt 1,Jk,Pt 2,AV.tv x0] ++ Rj 11 ++ [AV.tv x1,AV.tv x2,AV.tv x3] ++ Rj 20,[Ct y4,some (BC.cells [CA.t (TV.lit (Value.func (Fn.func 19) (Array.mk []) (Array.mk [])))]),some (BC.cells [CA.sref 3 0 []]),Tr w5] ++ Rz 66,Rj 5⟩
def f8_2_S  (x0 x1 x2 y3 y4 y5 y6 w7 x8 x9 x10 x11 x12 x13:TV):ASt:=⟨[AV.tv x0,AV.clo 32 [CA.ptr 0 0,CA.ptr 1 0,CA.ptr 2 0]] ++ Rj 5 ++ [AV.tv x1,AV.tv x2] ++ Rj 10,[some (BC.cells [CA.t (TV.lit (Value.func (Fn.func 19) (Array.mk []) (Array.mk [])))]),some (BC.cells [CA.t y3,CA.t y4,CA.t y5]),some (BC.cells [CA.sref 4 0 []]),Ct y6,Tr w7] ++ Rz 93,(Rj 7 ++ [Pt 3,Pt 0,Jk,Pt 2,AV.tv x8,AV.tv x9] ++ Rj 10 ++ [AV.tv x10,AV.tv x11,AV.tv x12] ++ Rj 9 ++ [AV.tv x13] ++ Rj 19)⟩
def f8_3_S  (x0 w1 y2 y3 y4 y5 y6 y7 y8 y9 y10 y11 y12 y13 y14 y15 y16 y17 y18 y19 y20 y21 y22 x23 x24 x25 x26 x27 x28 x29 x30 x31 x32:TV):ASt:=⟨[Jk,Jk,Sr 0,Pt 1,Pt 2,Jk,Jk,AV.tv x0] ++ Rj 33,[Tr w1,some (BC.cells [CA.t y2,CA.t y3,CA.t y4]),some (BC.cells [CA.t y5,CA.t y6,CA.t y7,CA.t y8,CA.t y9,CA.t y10,CA.t y11,CA.t y12,CA.t y13,CA.t y14,CA.t y15,CA.t y16,CA.t y17,CA.t y18]),Ct y19,some (BC.cells [CA.t (TV.lit (Value.func (Fn.func 19) (Array.mk []) (Array.mk [])))]),some (BC.cells [CA.sref 0 0 []]),some (BC.cells [CA.t y20,CA.t y21,CA.t y22])] ++ Rz 143,(Rj 7 ++ [Pt 3,Pt 4,Jk,Pt 5,AV.tv x23,AV.tv x24] ++ Rj 10 ++ [AV.tv x25,AV.tv x26,AV.tv x27] ++ Rj 9 ++ [AV.tv x28] ++ Rj 19 ++ [AV.tv x29,AV.clo 32 [CA.ptr 4 0,CA.ptr 6 0,CA.ptr 5 0],Jk,Jk,Jk,AV.tv x30,Jk,AV.tv x31,AV.tv x32] ++ Rj 21)⟩
def f8_M (x0:TV):Prg TV :=
 chk (TV.isAgg x0 1) (
 chk true (
 call 30 [agg [cell x0 0]] fun v0 =>
 chk (ab al [v0] 0) (
 tv (pun .not v0) fun v1 =>
 Prg.ite (asBool v1) (
 chk true (
 ret (TV.lit aV))) (
 tv (plen (.slice 53) (cell x0 0)) fun v2 =>
 nat (aj v2) fun n3 =>
 nat (aj v2) fun n4 =>
 chk (Bool.and (Nat.ble n3 n4) (Nat.ble n4 4294967296)) (
 jmp [0,0,1,0,1,1,1,4,0,1] (f8_0_S (B true) (cell x0 0) (TV.sl true 1 (List.replicate n3 [B false]))))))))
def f8_0  (x0 y1 w2:TV):Prg TV :=
 Prg.ite (asBool x0) (
 tv (plen (.slice 53) y1) fun v5 =>
 jmp [0,0,1,1,0,1,0,0,1,0,1,1,1,4,0,1] (f8_1_S (B false) y1 v5 (I 0) y1 w2)) (
 chk (isOwn w2) (
 ret w2))
def f8_1  (x0 x1 x2 x3 y4 w5:TV):Prg TV :=
 tv (pbin (.int .i64) .lss x3 x2) fun v6 =>
 Prg.ite (asBool v6) (
 tvs (pidx 3 x1 x3) fun e7 =>
 chk (Nat.ble 3 (List.length e7)) (
 nat (slLen w5) fun n8 =>
 nat (aj x3) fun n9 =>
 chk (Bool.and (slSize w5 1) (Nat.blt n9 n8)) (
 tvs (pel w5 n9) fun e10 =>
 chk (ab al e10 0) (
 tv (pun .not (nth hole e10 0)) fun v11 =>
 Prg.ite (asBool v11) (
 tv (plen (.slice 50) (nth hole e7 2)) fun v12 =>
 jmp [0,0,1,0,1,6,0,1,20,0,1,0,0,1,1,0,0,1,1,0,1,0,0,1,0,1,1,1,4,0,1] (f8_2_S (nth hole e7 2) v12 (I 0) (nth hole e7 0) (nth hole e7 1) (nth hole e7 2) y4 w5 x0 x3 x1 x2 x3 (B true))) (
 tv (pbin (.int .i64) .add x3 (I 1)) fun v13 =>
 jmp [0,0,1,1,0,1,0,0,1,0,1,1,1,4,0,1] (f8_1_S x0 x1 x2 v13 y4 w5)))))) (
 jmp [0,0,1,0,1,1,1,4,0,1] (f8_0_S x0 y4 w5))
def f8_2  (x0 x1 x2 y3 y4 y5 y6 w7 x8 x9 x10 x11 x12 x13:TV):Prg TV :=
 tv (pbin (.int .i64) .lss x2 x1) fun v14 =>
 Prg.ite (asBool v14) (
 tvs (pidx 14 x0 x2) fun e15 =>
 chk (Nat.ble 14 (List.length e15)) (
 tv (pbin (.int .i64) .eql (nth hole e15 6) (I 5)) fun v16 =>
 Prg.ite (asBool v16) (
 jmp [1,1,40010,0,1,66012,0,1,0,0,1,1,0,0,1,0,1,6,0,1,20,0,1,0,0,1,1,0,0,1,1,0,1,0,0,1,0,1,1,1,4,0,1] (f8_3_S (B true) w7 y3 y4 y5 (nth hole e15 0) (nth hole e15 1) (nth hole e15 2) (nth hole e15 3) (nth hole e15 4) (nth hole e15 5) (nth hole e15 6) (nth hole e15 7) (nth hole e15 8) (nth hole e15 9) (nth hole e15 10) (nth hole e15 11) (nth hole e15 12) (nth hole e15 13) y6 y3 y4 y5 x8 x9 x10 x11 x12 x13 x0 x2 x1 x2)) (
 tv (pbin (.int .i64) .eql (nth hole e15 6) (I 6)) fun v17 =>
 jmp [1,1,40010,0,1,66012,0,1,0,0,1,1,0,0,1,0,1,6,0,1,20,0,1,0,0,1,1,0,0,1,1,0,1,0,0,1,0,1,1,1,4,0,1] (f8_3_S v17 w7 y3 y4 y5 (nth hole e15 0) (nth hole e15 1) (nth hole e15 2) (nth hole e15 3) (nth hole e15 4) (nth hole e15 5) (nth hole e15 6) (nth hole e15 7) (nth hole e15 8) (nth hole e15 9) (nth hole e15 10) (nth hole e15 11) (nth hole e15 12) (nth hole e15 13) y6 y3 y4 y5 x8 x9 x10 x11 x12 x13 x0 x2 x1 x2)))) (
 tv (pbin (.int .i64) .geq (TV.lit (Value.int IntKind.i64 (-1))) (I 0)) fun v18 =>
 Prg.ite (asBool x13) (
 Prg.ite (asBool v18) (
 nat (slLen w7) fun n19 =>
 nat (aj x9) fun n20 =>
 chk (Bool.and (slSize w7 1) (Nat.blt n20 n19)) (
 tvs (pel w7 n20) fun e21 =>
 chk (ab al e21 0) (
 tv (bj [] w7 n20 0 [B true]) fun v22 =>
 tv (pbin (.int .i64) .add x12 (I 1)) fun v23 =>
 jmp [0,0,1,1,0,1,0,0,1,0,1,1,1,4,0,1] (f8_1_S (B true) x10 x11 v23 y6 v22)))) (
 tv (pbin (.int .i64) .add x12 (I 1)) fun v24 =>
 jmp [0,0,1,1,0,1,0,0,1,0,1,1,1,4,0,1] (f8_1_S x8 x10 x11 v24 y6 w7))) (
 tv (pbin (.int .i64) .add x12 (I 1)) fun v25 =>
 jmp [0,0,1,1,0,1,0,0,1,0,1,1,1,4,0,1] (f8_1_S x8 x10 x11 v25 y6 w7)))
def f8_3  (x0 w1 y2 y3 y4 y5 y6 y7 y8 y9 y10 y11 y12 y13 y14 y15 y16 y17 y18 y19 y20 y21 y22 x23 x24 x25 x26 x27 x28 x29 x30 x31 x32:TV):Prg TV :=
 Prg.ite (asBool x0) (
 tv (pbin (.int .i64) .geq x30 (I 0)) fun v26 =>
 Prg.ite (asBool x28) (
 Prg.ite (asBool v26) (
 nat (slLen w1) fun n27 =>
 nat (aj x24) fun n28 =>
 chk (Bool.and (slSize w1 1) (Nat.blt n28 n27)) (
 tvs (pel w1 n28) fun e29 =>
 chk (ab al e29 0) (
 tv (bj [] w1 n28 0 [B true]) fun v30 =>
 tv (pbin (.int .i64) .add x27 (I 1)) fun v31 =>
 jmp [0,0,1,1,0,1,0,0,1,0,1,1,1,4,0,1] (f8_1_S (B true) x25 x26 v31 y19 v30)))) (
 tv (pbin (.int .i64) .add x27 (I 1)) fun v32 =>
 jmp [0,0,1,1,0,1,0,0,1,0,1,1,1,4,0,1] (f8_1_S x23 x25 x26 v32 y19 w1))) (
 tv (pbin (.int .i64) .add x27 (I 1)) fun v33 =>
 jmp [0,0,1,1,0,1,0,0,1,0,1,1,1,4,0,1] (f8_1_S x23 x25 x26 v33 y19 w1))) (
 call 20 [agg [y5,y6,y7,y8,y9,y10,y11,y12,y13,y14,y15,y16,y17,y18],frz w1] fun v34 =>
 chk (ab al [v34] 0) (
 Prg.ite (asBool v34) (
 tv (pbin (.int .i64) .geq x30 (I 0)) fun v35 =>
 Prg.ite (asBool x28) (
 Prg.ite (asBool v35) (
 nat (slLen w1) fun n36 =>
 nat (aj x24) fun n37 =>
 chk (Bool.and (slSize w1 1) (Nat.blt n37 n36)) (
 tvs (pel w1 n37) fun e38 =>
 chk (ab al e38 0) (
 tv (bj [] w1 n37 0 [B true]) fun v39 =>
 tv (pbin (.int .i64) .add x27 (I 1)) fun v40 =>
 jmp [0,0,1,1,0,1,0,0,1,0,1,1,1,4,0,1] (f8_1_S (B true) x25 x26 v40 y19 v39)))) (
 tv (pbin (.int .i64) .add x27 (I 1)) fun v41 =>
 jmp [0,0,1,1,0,1,0,0,1,0,1,1,1,4,0,1] (f8_1_S x23 x25 x26 v41 y19 w1))) (
 tv (pbin (.int .i64) .add x27 (I 1)) fun v42 =>
 jmp [0,0,1,1,0,1,0,0,1,0,1,1,1,4,0,1] (f8_1_S x23 x25 x26 v42 y19 w1))) (
 call 21 [agg [y5,y6,y7,y8,y9,y10,y11,y12,y13,y14,y15,y16,y17,y18],frz w1] fun v43 =>
 chk (ab al [v43] 0) (
 Prg.ite (asBool v43) (
 tvs (pidx 14 y4 y18) fun e44 =>
 chk (Nat.blt 3 (List.length e44)) (
 tv (pun .not (nth hole e44 3)) fun v45 =>
 Prg.ite (asBool v45) (
 tv (pbin (.int .i64) .geq x30 (I 0)) fun v46 =>
 Prg.ite (asBool x28) (
 Prg.ite (asBool v46) (
 nat (slLen w1) fun n47 =>
 nat (aj x24) fun n48 =>
 chk (Bool.and (slSize w1 1) (Nat.blt n48 n47)) (
 tvs (pel w1 n48) fun e49 =>
 chk (ab al e49 0) (
 tv (bj [] w1 n48 0 [B true]) fun v50 =>
 tv (pbin (.int .i64) .add x27 (I 1)) fun v51 =>
 jmp [0,0,1,1,0,1,0,0,1,0,1,1,1,4,0,1] (f8_1_S (B true) x25 x26 v51 y19 v50)))) (
 tv (pbin (.int .i64) .add x27 (I 1)) fun v52 =>
 jmp [0,0,1,1,0,1,0,0,1,0,1,1,1,4,0,1] (f8_1_S x23 x25 x26 v52 y19 w1))) (
 tv (pbin (.int .i64) .add x27 (I 1)) fun v53 =>
 jmp [0,0,1,1,0,1,0,0,1,0,1,1,1,4,0,1] (f8_1_S x23 x25 x26 v53 y19 w1))) (
 tv (pbin (.int .i64) .add x32 (I 1)) fun v54 =>
 jmp [0,0,1,0,1,6,0,1,20,0,1,0,0,1,1,0,0,1,1,0,1,0,0,1,0,1,1,1,4,0,1] (f8_2_S x29 x31 v54 y20 y21 y22 y19 w1 x23 x24 x25 x26 x27 x28)))) (
 tv (pbin (.int .i64) .add x32 (I 1)) fun v55 =>
 jmp [0,0,1,0,1,6,0,1,20,0,1,0,0,1,1,0,0,1,1,0,1,0,0,1,0,1,1,1,4,0,1] (f8_2_S x29 x31 v55 y20 y21 y22 y19 w1 x23 x24 x25 x26 x27 x28))))))
theorem f8_MR (x0:TV):aA prog 8 [x0]=f8_M x0:=by kernel_rfl
theorem f8_0_J  {x0 y1 w2:TV} {r:TV} (h:aa prog 8 (f8_0 x0 y1 w2) r):aa prog 8 (.jmp [0,0,1,0,1,1,1,4,0,1] (f8_0_S x0 y1 w2)) r:=aa.jmp (by kernel_rfl) h
theorem f8_1_J  {x0 x1 x2 x3 y4 w5:TV} {r:TV} (h:aa prog 8 (f8_1 x0 x1 x2 x3 y4 w5) r):aa prog 8 (.jmp [0,0,1,1,0,1,0,0,1,0,1,1,1,4,0,1] (f8_1_S x0 x1 x2 x3 y4 w5)) r:=aa.jmp (by kernel_rfl) h
theorem f8_2_J  {x0 x1 x2 y3 y4 y5 y6 w7 x8 x9 x10 x11 x12 x13:TV} {r:TV} (h:aa prog 8 (f8_2 x0 x1 x2 y3 y4 y5 y6 w7 x8 x9 x10 x11 x12 x13) r):aa prog 8 (.jmp [0,0,1,0,1,6,0,1,20,0,1,0,0,1,1,0,0,1,1,0,1,0,0,1,0,1,1,1,4,0,1] (f8_2_S x0 x1 x2 y3 y4 y5 y6 w7 x8 x9 x10 x11 x12 x13)) r:=aa.jmp (by kernel_rfl) h
theorem f8_3_J  {x0 w1 y2 y3 y4 y5 y6 y7 y8 y9 y10 y11 y12 y13 y14 y15 y16 y17 y18 y19 y20 y21 y22 x23 x24 x25 x26 x27 x28 x29 x30 x31 x32:TV} {r:TV} (h:aa prog 8 (f8_3 x0 w1 y2 y3 y4 y5 y6 y7 y8 y9 y10 y11 y12 y13 y14 y15 y16 y17 y18 y19 y20 y21 y22 x23 x24 x25 x26 x27 x28 x29 x30 x31 x32) r):aa prog 8 (.jmp [1,1,40010,0,1,66012,0,1,0,0,1,1,0,0,1,0,1,6,0,1,20,0,1,0,0,1,1,0,0,1,1,0,1,0,0,1,0,1,1,1,4,0,1] (f8_3_S x0 w1 y2 y3 y4 y5 y6 y7 y8 y9 y10 y11 y12 y13 y14 y15 y16 y17 y18 y19 y20 y21 y22 x23 x24 x25 x26 x27 x28 x29 x30 x31 x32)) r:=aa.jmp (by kernel_rfl) h
def f9_0_S  (x0 y1 w2 w3:TV):ASt:=⟨[Jk,Jk,Pt 0,Pt 1,Jk,Pt 2,AV.tv x0] ++ Rj 34,[Ct y1,some (BC.cells [CA.fn1 35 3]),some (BC.cells [CA.sref 4 0 []]),some (BC.cells [CA.sref 5 0 []]),Tr w2,Tr w3] ++ Rz 66,Rj 7⟩
def f9_1_S  (x0 x1 x2 x3 y4 w5 w6:TV):ASt:=⟨[Jk,Jk,Pt 0,Pt 1,Jk,Pt 2,AV.tv x0] ++ Rj 11 ++ [AV.tv x1,AV.tv x2,AV.tv x3] ++ Rj 20,[Ct y4,some (BC.cells [CA.fn1 35 3]),some (BC.cells [CA.sref 4 0 []]),some (BC.cells [CA.sref 5 0 []]),Tr w5,Tr w6] ++ Rz 66,Rj 7⟩
def f9_2_S  (x0 x1 x2 y3 y4 y5 y6 w7 w8 x9 x10 x11 x12 x13 x14:TV):ASt:=⟨[AV.tv x0,AV.clo 32 [CA.ptr 0 0,CA.ptr 1 0,CA.ptr 2 0]] ++ Rj 5 ++ [AV.tv x1,AV.tv x2] ++ Rj 10,[some (BC.cells [CA.fn1 35 4]),some (BC.cells [CA.t y3,CA.t y4,CA.t y5]),some (BC.cells [CA.sref 5 0 []]),Ct y6,some (BC.cells [CA.sref 6 0 []]),Tr w7,Tr w8] ++ Rz 93,(Rj 9 ++ [Pt 3,Pt 0,Jk,Pt 2,AV.tv x9,AV.tv x10] ++ Rj 10 ++ [AV.tv x11,AV.tv x12,AV.tv x13] ++ Rj 9 ++ [AV.tv x14] ++ Rj 19)⟩
def f9_3_S  (x0 x1 x2 y3 y4 y5 y6 w7 y8 y9 y10 y11 y12 y13 y14 y15 y16 y17 y18 y19 y20 y21 w22 x23 x24 x25 x26 x27 x28 x29 x30 x31 x32:TV):ASt:=⟨[AV.tv x0,AV.clo 36 [CA.ptr 0 0]] ++ Rj 5 ++ [AV.tv x1,AV.tv x2] ++ Rj 10,[some (BC.cells [CA.sref 7 0 []]),Ct y3,some (BC.cells [CA.fn1 35 0]),some (BC.cells [CA.sref 5 0 []]),some (BC.cells [CA.t y4,CA.t y5,CA.t y6]),Tr w7,some (BC.cells [CA.t y8,CA.t y9,CA.t y10,CA.t y11,CA.t y12,CA.t y13,CA.t y14,CA.t y15,CA.t y16,CA.t y17,CA.t y18,CA.t y19,CA.t y20,CA.t y21]),Tr w22] ++ Rz 155,(Rj 9 ++ [Pt 1,Pt 2,Jk,Pt 3,AV.tv x23,AV.tv x24] ++ Rj 10 ++ [AV.tv x25,AV.tv x26,AV.tv x27] ++ Rj 9 ++ [AV.tv x28] ++ Rj 19 ++ [AV.tv x29,AV.clo 32 [CA.ptr 2 0,CA.ptr 4 0,CA.ptr 3 0],Jk,Jk,Jk,AV.tv x30,Jk,AV.tv x31,AV.tv x32] ++ Rj 23 ++ [Sr 5,Jk,Jk,Pt 6] ++ Rj 27)⟩
noncomputable def f9_M (x0:TV):Prg TV :=
 chk (TV.isAgg x0 1) (
 chk (Bool.and (yK (cell x0 0) (cell x0 0)) true) (
 call 30 [agg [cell x0 0]] fun v0 =>
 chk (ab al [v0] 0) (
 tv (pun .not v0) fun v1 =>
 Prg.ite (asBool v1) (
 chk true (
 ret (TV.lit aV))) (
 tv (plen (.slice 53) (cell x0 0)) fun v2 =>
 nat (aj v2) fun n3 =>
 nat (aj v2) fun n4 =>
 chk (Bool.and (Nat.ble n3 n4) (Nat.ble n4 4294967296)) (
 jmp [0,0,1,0,1,1,1,8,0,1] (f9_0_S (B true) (cell x0 0) (TV.sl true 1 (List.replicate n3 [B false])) (TV.sl true 1 (chunks 1 2 [I 12,I 13]))))))))
def f9_0  (x0 y1 w2 w3:TV):Prg TV :=
 Prg.ite (asBool x0) (
 tv (plen (.slice 53) y1) fun v5 =>
 jmp [0,0,1,1,0,1,0,0,1,0,1,1,1,8,0,1] (f9_1_S (B false) y1 v5 (I 0) y1 w2 w3)) (
 chk (isOwn w2) (
 ret w2))
def f9_1  (x0 x1 x2 x3 y4 w5 w6:TV):Prg TV :=
 tv (pbin (.int .i64) .lss x3 x2) fun v6 =>
 Prg.ite (asBool v6) (
 tvs (pidx 3 x1 x3) fun e7 =>
 chk (Nat.ble 3 (List.length e7)) (
 nat (slLen w5) fun n8 =>
 nat (aj x3) fun n9 =>
 chk (Bool.and (slSize w5 1) (Nat.blt n9 n8)) (
 tvs (pel w5 n9) fun e10 =>
 chk (ab al e10 0) (
 tv (pun .not (nth hole e10 0)) fun v11 =>
 Prg.ite (asBool v11) (
 tv (plen (.slice 50) (nth hole e7 2)) fun v12 =>
 jmp [0,0,1,0,1,6,0,1,20,0,1,0,0,1,1,0,0,1,1,0,1,0,0,1,0,1,1,1,8,0,1] (f9_2_S (nth hole e7 2) v12 (I 0) (nth hole e7 0) (nth hole e7 1) (nth hole e7 2) y4 w5 w6 x0 x3 x1 x2 x3 (B true))) (
 tv (pbin (.int .i64) .add x3 (I 1)) fun v13 =>
 jmp [0,0,1,1,0,1,0,0,1,0,1,1,1,8,0,1] (f9_1_S x0 x1 x2 v13 y4 w5 w6)))))) (
 jmp [0,0,1,0,1,1,1,8,0,1] (f9_0_S x0 y4 w5 w6))
def f9_2  (x0 x1 x2 y3 y4 y5 y6 w7 w8 x9 x10 x11 x12 x13 x14:TV):Prg TV :=
 tv (pbin (.int .i64) .lss x2 x1) fun v14 =>
 Prg.ite (asBool v14) (
 tvs (pidx 14 x0 x2) fun e15 =>
 chk (Nat.ble 14 (List.length e15)) (
 tv (plen (.slice 57) (nth hole e15 5)) fun v16 =>
 jmp [0,0,1,0,1,6,0,1,8,0,1,72010,0,1,66012,0,1,0,0,1,1,0,0,1,0,1,6,0,1,20,0,1,0,0,1,1,0,0,1,1,0,1,0,0,1,0,1,1,1,8,0,1] (f9_3_S (nth hole e15 5) v16 (I 0) y6 y3 y4 y5 w7 (nth hole e15 0) (nth hole e15 1) (nth hole e15 2) (nth hole e15 3) (nth hole e15 4) (nth hole e15 5) (nth hole e15 6) (nth hole e15 7) (nth hole e15 8) (nth hole e15 9) (nth hole e15 10) (nth hole e15 11) (nth hole e15 12) (nth hole e15 13) w8 x9 x10 x11 x12 x13 x14 x0 x2 x1 x2))) (
 tv (pbin (.int .i64) .geq (TV.lit (Value.int IntKind.i64 (-1))) (I 0)) fun v17 =>
 Prg.ite (asBool x14) (
 Prg.ite (asBool v17) (
 nat (slLen w7) fun n18 =>
 nat (aj x10) fun n19 =>
 chk (Bool.and (slSize w7 1) (Nat.blt n19 n18)) (
 tvs (pel w7 n19) fun e20 =>
 chk (ab al e20 0) (
 tv (bj [] w7 n19 0 [B true]) fun v21 =>
 tv (pbin (.int .i64) .add x13 (I 1)) fun v22 =>
 jmp [0,0,1,1,0,1,0,0,1,0,1,1,1,8,0,1] (f9_1_S (B true) x11 x12 v22 y6 v21 w8)))) (
 tv (pbin (.int .i64) .add x13 (I 1)) fun v23 =>
 jmp [0,0,1,1,0,1,0,0,1,0,1,1,1,8,0,1] (f9_1_S x9 x11 x12 v23 y6 w7 w8))) (
 tv (pbin (.int .i64) .add x13 (I 1)) fun v24 =>
 jmp [0,0,1,1,0,1,0,0,1,0,1,1,1,8,0,1] (f9_1_S x9 x11 x12 v24 y6 w7 w8)))
def f9_3  (x0 x1 x2 y3 y4 y5 y6 w7 y8 y9 y10 y11 y12 y13 y14 y15 y16 y17 y18 y19 y20 y21 w22 x23 x24 x25 x26 x27 x28 x29 x30 x31 x32:TV):Prg TV :=
 tv (pbin (.int .i64) .lss x2 x1) fun v25 =>
 Prg.ite (asBool v25) (
 tvs (pidx 7 x0 x2) fun e26 =>
 chk (Nat.ble 7 (List.length e26)) (
 call 37 [frz w22,nth hole e26 0] fun v27 =>
 chk (ab al [v27] 0) (
 Prg.ite (asBool v27) (
 tv (pbin (.int .i64) .geq x2 (I 0)) fun v28 =>
 Prg.ite (asBool v28) (
 tv (pbin (.int .i64) .geq x30 (I 0)) fun v29 =>
 Prg.ite (asBool x28) (
 Prg.ite (asBool v29) (
 nat (slLen w7) fun n30 =>
 nat (aj x24) fun n31 =>
 chk (Bool.and (slSize w7 1) (Nat.blt n31 n30)) (
 tvs (pel w7 n31) fun e32 =>
 chk (ab al e32 0) (
 tv (bj [] w7 n31 0 [B true]) fun v33 =>
 tv (pbin (.int .i64) .add x27 (I 1)) fun v34 =>
 jmp [0,0,1,1,0,1,0,0,1,0,1,1,1,8,0,1] (f9_1_S (B true) x25 x26 v34 y3 v33 w22)))) (
 tv (pbin (.int .i64) .add x27 (I 1)) fun v35 =>
 jmp [0,0,1,1,0,1,0,0,1,0,1,1,1,8,0,1] (f9_1_S x23 x25 x26 v35 y3 w7 w22))) (
 tv (pbin (.int .i64) .add x27 (I 1)) fun v36 =>
 jmp [0,0,1,1,0,1,0,0,1,0,1,1,1,8,0,1] (f9_1_S x23 x25 x26 v36 y3 w7 w22))) (
 call 20 [agg [y8,y9,y10,y11,y12,y13,y14,y15,y16,y17,y18,y19,y20,y21],frz w7] fun v37 =>
 chk (ab al [v37] 0) (
 Prg.ite (asBool v37) (
 tv (pbin (.int .i64) .geq x30 (I 0)) fun v38 =>
 Prg.ite (asBool x28) (
 Prg.ite (asBool v38) (
 nat (slLen w7) fun n39 =>
 nat (aj x24) fun n40 =>
 chk (Bool.and (slSize w7 1) (Nat.blt n40 n39)) (
 tvs (pel w7 n40) fun e41 =>
 chk (ab al e41 0) (
 tv (bj [] w7 n40 0 [B true]) fun v42 =>
 tv (pbin (.int .i64) .add x27 (I 1)) fun v43 =>
 jmp [0,0,1,1,0,1,0,0,1,0,1,1,1,8,0,1] (f9_1_S (B true) x25 x26 v43 y3 v42 w22)))) (
 tv (pbin (.int .i64) .add x27 (I 1)) fun v44 =>
 jmp [0,0,1,1,0,1,0,0,1,0,1,1,1,8,0,1] (f9_1_S x23 x25 x26 v44 y3 w7 w22))) (
 tv (pbin (.int .i64) .add x27 (I 1)) fun v45 =>
 jmp [0,0,1,1,0,1,0,0,1,0,1,1,1,8,0,1] (f9_1_S x23 x25 x26 v45 y3 w7 w22))) (
 call 21 [agg [y8,y9,y10,y11,y12,y13,y14,y15,y16,y17,y18,y19,y20,y21],frz w7] fun v46 =>
 chk (ab al [v46] 0) (
 Prg.ite (asBool v46) (
 tv (pbin (.int .i64) .geq x30 (I 0)) fun v47 =>
 Prg.ite (asBool x28) (
 Prg.ite (asBool v47) (
 nat (slLen w7) fun n48 =>
 nat (aj x24) fun n49 =>
 chk (Bool.and (slSize w7 1) (Nat.blt n49 n48)) (
 tvs (pel w7 n49) fun e50 =>
 chk (ab al e50 0) (
 tv (bj [] w7 n49 0 [B true]) fun v51 =>
 tv (pbin (.int .i64) .add x27 (I 1)) fun v52 =>
 jmp [0,0,1,1,0,1,0,0,1,0,1,1,1,8,0,1] (f9_1_S (B true) x25 x26 v52 y3 v51 w22)))) (
 tv (pbin (.int .i64) .add x27 (I 1)) fun v53 =>
 jmp [0,0,1,1,0,1,0,0,1,0,1,1,1,8,0,1] (f9_1_S x23 x25 x26 v53 y3 w7 w22))) (
 tv (pbin (.int .i64) .add x27 (I 1)) fun v54 =>
 jmp [0,0,1,1,0,1,0,0,1,0,1,1,1,8,0,1] (f9_1_S x23 x25 x26 v54 y3 w7 w22))) (
 tv (pbin (.int .i64) .add x32 (I 1)) fun v55 =>
 jmp [0,0,1,0,1,6,0,1,20,0,1,0,0,1,1,0,0,1,1,0,1,0,0,1,0,1,1,1,8,0,1] (f9_2_S x29 x31 v55 y4 y5 y6 y3 w7 w22 x23 x24 x25 x26 x27 x28))))))) (
 tv (pbin (.int .i64) .add x2 (I 1)) fun v56 =>
 jmp [0,0,1,0,1,6,0,1,8,0,1,72010,0,1,66012,0,1,0,0,1,1,0,0,1,0,1,6,0,1,20,0,1,0,0,1,1,0,0,1,1,0,1,0,0,1,0,1,1,1,8,0,1] (f9_3_S x0 x1 v56 y3 y4 y5 y6 w7 y8 y9 y10 y11 y12 y13 y14 y15 y16 y17 y18 y19 y20 y21 w22 x23 x24 x25 x26 x27 x28 x29 x30 x31 x32))))) (
 tv (pbin (.int .i64) .geq (TV.lit (Value.int IntKind.i64 (-1))) (I 0)) fun v57 =>
 Prg.ite (asBool v57) (
 tv (pbin (.int .i64) .geq x30 (I 0)) fun v58 =>
 Prg.ite (asBool x28) (
 Prg.ite (asBool v58) (
 nat (slLen w7) fun n59 =>
 nat (aj x24) fun n60 =>
 chk (Bool.and (slSize w7 1) (Nat.blt n60 n59)) (
 tvs (pel w7 n60) fun e61 =>
 chk (ab al e61 0) (
 tv (bj [] w7 n60 0 [B true]) fun v62 =>
 tv (pbin (.int .i64) .add x27 (I 1)) fun v63 =>
 jmp [0,0,1,1,0,1,0,0,1,0,1,1,1,8,0,1] (f9_1_S (B true) x25 x26 v63 y3 v62 w22)))) (
 tv (pbin (.int .i64) .add x27 (I 1)) fun v64 =>
 jmp [0,0,1,1,0,1,0,0,1,0,1,1,1,8,0,1] (f9_1_S x23 x25 x26 v64 y3 w7 w22))) (
 tv (pbin (.int .i64) .add x27 (I 1)) fun v65 =>
 jmp [0,0,1,1,0,1,0,0,1,0,1,1,1,8,0,1] (f9_1_S x23 x25 x26 v65 y3 w7 w22))) (
 call 20 [agg [y8,y9,y10,y11,y12,y13,y14,y15,y16,y17,y18,y19,y20,y21],frz w7] fun v66 =>
 chk (ab al [v66] 0) (
 Prg.ite (asBool v66) (
 tv (pbin (.int .i64) .geq x30 (I 0)) fun v67 =>
 Prg.ite (asBool x28) (
 Prg.ite (asBool v67) (
 nat (slLen w7) fun n68 =>
 nat (aj x24) fun n69 =>
 chk (Bool.and (slSize w7 1) (Nat.blt n69 n68)) (
 tvs (pel w7 n69) fun e70 =>
 chk (ab al e70 0) (
 tv (bj [] w7 n69 0 [B true]) fun v71 =>
 tv (pbin (.int .i64) .add x27 (I 1)) fun v72 =>
 jmp [0,0,1,1,0,1,0,0,1,0,1,1,1,8,0,1] (f9_1_S (B true) x25 x26 v72 y3 v71 w22)))) (
 tv (pbin (.int .i64) .add x27 (I 1)) fun v73 =>
 jmp [0,0,1,1,0,1,0,0,1,0,1,1,1,8,0,1] (f9_1_S x23 x25 x26 v73 y3 w7 w22))) (
 tv (pbin (.int .i64) .add x27 (I 1)) fun v74 =>
 jmp [0,0,1,1,0,1,0,0,1,0,1,1,1,8,0,1] (f9_1_S x23 x25 x26 v74 y3 w7 w22))) (
 call 21 [agg [y8,y9,y10,y11,y12,y13,y14,y15,y16,y17,y18,y19,y20,y21],frz w7] fun v75 =>
 chk (ab al [v75] 0) (
 Prg.ite (asBool v75) (
 tv (pbin (.int .i64) .geq x30 (I 0)) fun v76 =>
 Prg.ite (asBool x28) (
 Prg.ite (asBool v76) (
 nat (slLen w7) fun n77 =>
 nat (aj x24) fun n78 =>
 chk (Bool.and (slSize w7 1) (Nat.blt n78 n77)) (
 tvs (pel w7 n78) fun e79 =>
 chk (ab al e79 0) (
 tv (bj [] w7 n78 0 [B true]) fun v80 =>
 tv (pbin (.int .i64) .add x27 (I 1)) fun v81 =>
 jmp [0,0,1,1,0,1,0,0,1,0,1,1,1,8,0,1] (f9_1_S (B true) x25 x26 v81 y3 v80 w22)))) (
 tv (pbin (.int .i64) .add x27 (I 1)) fun v82 =>
 jmp [0,0,1,1,0,1,0,0,1,0,1,1,1,8,0,1] (f9_1_S x23 x25 x26 v82 y3 w7 w22))) (
 tv (pbin (.int .i64) .add x27 (I 1)) fun v83 =>
 jmp [0,0,1,1,0,1,0,0,1,0,1,1,1,8,0,1] (f9_1_S x23 x25 x26 v83 y3 w7 w22))) (
 tv (pbin (.int .i64) .add x32 (I 1)) fun v84 =>
 jmp [0,0,1,0,1,6,0,1,20,0,1,0,0,1,1,0,0,1,1,0,1,0,0,1,0,1,1,1,8,0,1] (f9_2_S x29 x31 v84 y4 y5 y6 y3 w7 w22 x23 x24 x25 x26 x27 x28)))))))
theorem f9_MR (x0:TV):aA prog 9 [x0]=f9_M x0:=by kernel_rfl
theorem f9_0_J  {x0 y1 w2 w3:TV} {r:TV} (h:aa prog 9 (f9_0 x0 y1 w2 w3) r):aa prog 9 (.jmp [0,0,1,0,1,1,1,8,0,1] (f9_0_S x0 y1 w2 w3)) r:=aa.jmp (by kernel_rfl) h
theorem f9_1_J  {x0 x1 x2 x3 y4 w5 w6:TV} {r:TV} (h:aa prog 9 (f9_1 x0 x1 x2 x3 y4 w5 w6) r):aa prog 9 (.jmp [0,0,1,1,0,1,0,0,1,0,1,1,1,8,0,1] (f9_1_S x0 x1 x2 x3 y4 w5 w6)) r:=aa.jmp (by kernel_rfl) h
theorem f9_2_J  {x0 x1 x2 y3 y4 y5 y6 w7 w8 x9 x10 x11 x12 x13 x14:TV} {r:TV} (h:aa prog 9 (f9_2 x0 x1 x2 y3 y4 y5 y6 w7 w8 x9 x10 x11 x12 x13 x14) r):aa prog 9 (.jmp [0,0,1,0,1,6,0,1,20,0,1,0,0,1,1,0,0,1,1,0,1,0,0,1,0,1,1,1,8,0,1] (f9_2_S x0 x1 x2 y3 y4 y5 y6 w7 w8 x9 x10 x11 x12 x13 x14)) r:=aa.jmp (by kernel_rfl) h
theorem f9_3_J  {x0 x1 x2 y3 y4 y5 y6 w7 y8 y9 y10 y11 y12 y13 y14 y15 y16 y17 y18 y19 y20 y21 w22 x23 x24 x25 x26 x27 x28 x29 x30 x31 x32:TV} {r:TV} (h:aa prog 9 (f9_3 x0 x1 x2 y3 y4 y5 y6 w7 y8 y9 y10 y11 y12 y13 y14 y15 y16 y17 y18 y19 y20 y21 w22 x23 x24 x25 x26 x27 x28 x29 x30 x31 x32) r):aa prog 9 (.jmp [0,0,1,0,1,6,0,1,8,0,1,72010,0,1,66012,0,1,0,0,1,1,0,0,1,0,1,6,0,1,20,0,1,0,0,1,1,0,0,1,1,0,1,0,0,1,0,1,1,1,8,0,1] (f9_3_S x0 x1 x2 y3 y4 y5 y6 w7 y8 y9 y10 y11 y12 y13 y14 y15 y16 y17 y18 y19 y20 y21 w22 x23 x24 x25 x26 x27 x28 x29 x30 x31 x32)) r:=aa.jmp (by kernel_rfl) h
end Go.Ab.T12

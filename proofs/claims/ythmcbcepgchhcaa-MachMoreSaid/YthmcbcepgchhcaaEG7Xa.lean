import Derived.Test.YthmcbcepgchhcaaEG7T
import Derived.Test.YthmcbcepgchhcaaEB0
set_option linter.unusedVariables false
set_option maxRecDepth 100000
namespace Go.Ab.G7
open Go Go.Ab Go.Proofs
open Go.Ab.TV (hole cell comp isSl isSc isTup cellsL tup agg)
open Go.Ab.Prg (tv tvs rws nat chk call jmp ret)
def f5_0_S  (x0 x1 x2 x3 y4 y5 y6 y7 y8 y9 y10 y11 y12 y13 y14 y15 y16 y17 y18 y19 y20 y21 y22 y23 y24 y25 y26 y27 y28 y29 y30 y31 y32 y33 y34 y35 y36 y37 y38 y39 y40 w41 w42 w43 w44 w45 w46 w47 w48 w49 w50 w51 w52 w53 w54 w55 w56 w57 w58 w59 w60 w61 w62 w63 w64 w65 w66 w67 w68 w69 w70 w71 w72 w73 w74 w75 w76 w77 w78 w79 w80 w81 w82 w83 w84 : TV) : ASt := ⟨[AV.one CA.junk, AV.one CA.junk, AV.tv x0, AV.one CA.junk, AV.one (CA.ptr 0 0)] ++ List.replicate 5 (AV.one CA.junk) ++ [AV.one (CA.ptr 1 0), AV.tv x1, AV.one (CA.ptr 2 0), AV.tv x2] ++ List.replicate 39 (AV.one CA.junk) ++ [AV.tv x3] ++ List.replicate 81 (AV.one CA.junk), [some (BC.cells [CA.t y4]), some (BC.cells [CA.sref 3 0 [], CA.t y5, CA.t y6, CA.t y7, CA.t y8, CA.t y9, CA.t y10, CA.t y11, CA.t y12, CA.t y13, CA.t y14, CA.t y15, CA.t y16, CA.t y17, CA.t y18, CA.t y19, CA.t y20, CA.sref 3 17 [], CA.sref 3 18 [], CA.t y21, CA.t y22]), some (BC.cells [CA.sref 4 0 [], CA.t y23, CA.t y24, CA.t y25, CA.t y26, CA.t y27, CA.t y28, CA.t y29, CA.t y30, CA.t y31, CA.t y32, CA.t y33, CA.t y34, CA.t y35, CA.t y36, CA.t y37, CA.t y38, CA.sref 4 17 [], CA.sref 4 18 [], CA.t y39, CA.t y40]), some (BC.tree [w41, w42, w43, w44, w45, w46, w47, w48, w49, w50, w51, w52, w53, w54, w55, w56, w57, w58, w59, w60, w61, w62]), some (BC.tree [w63, w64, w65, w66, w67, w68, w69, w70, w71, w72, w73, w74, w75, w76, w77, w78, w79, w80, w81, w82, w83, w84])] ++ List.replicate 154 (none), []⟩
def f5_M (x0 x1 x2 x3 : TV) : Prg TV :=
 chk (TV.isAgg x0 1) (
 call 11 [] fun v0 =>
 chk (fitsAt zBool [v0] 0) (
 tv (pun .not v0) fun v1 =>
 Prg.ite (asBool v1) (
 ret (B false)) (
 call 12 [agg [cell x0 0], x1] fun v2 =>
 chk (fitsAt zBool [v2] 0) (
 tv (pun .not v2) fun v3 =>
 Prg.ite (asBool v3) (
 ret (B true)) (
 tv (plen (.slice 29) x2) fun v4 =>
 tv (pbin (.int .i64) .gtr v4 (I 30)) fun v5 =>
 Prg.ite (asBool v5) (
 ret (B true)) (
 tv (pbin (.int .u8) .rem x3 (TV.lit (Value.int IntKind.u8 (150 : Int)))) fun v6 =>
 tv (pconv (.int .i64) v6) fun v7 =>
 call 13 [agg [cell x0 0], x1, v7] fun v8 =>
 chk (isTup v8 2) (
 chk (Bool.and (TV.isAgg (comp v8 0) 21) (fitsAt z32 (cellsL true (comp v8 0)) 0)) (
 chk (fitsAt zInt [comp v8 1] 0) (
 rws (pelems 1 x1) fun r9 =>
 tv (papp 1 (TV.sl true 1 (chunks 1 0 [])) r9) fun v10 =>
 rws (pelems 1 x2) fun r11 =>
 tv (papp 1 v10 r11) fun v12 =>
 call 13 [agg [cell x0 0], frz v12, v7] fun v13 =>
 chk (isTup v13 2) (
 chk (Bool.and (TV.isAgg (comp v13 0) 21) (fitsAt z32 (cellsL true (comp v13 0)) 0)) (
 chk (fitsAt zInt [comp v13 1] 0) (
 tv (pbin (.int .i64) .neq (comp v8 1) (I 0)) fun v14 =>
 Prg.ite (asBool v14) (
 jmp [1, 0, 1, 1, 1, 1, 1, 1] (f5_0_S x2 (comp v8 1) (comp v13 1) (B true) (cell x0 0) (cell (comp v8 0) 1) (cell (comp v8 0) 2) (cell (comp v8 0) 3) (cell (comp v8 0) 4) (cell (comp v8 0) 5) (cell (comp v8 0) 6) (cell (comp v8 0) 7) (cell (comp v8 0) 8) (cell (comp v8 0) 9) (cell (comp v8 0) 10) (cell (comp v8 0) 11) (cell (comp v8 0) 12) (cell (comp v8 0) 13) (cell (comp v8 0) 14) (cell (comp v8 0) 15) (cell (comp v8 0) 16) (cell (comp v8 0) 19) (cell (comp v8 0) 20) (cell (comp v13 0) 1) (cell (comp v13 0) 2) (cell (comp v13 0) 3) (cell (comp v13 0) 4) (cell (comp v13 0) 5) (cell (comp v13 0) 6) (cell (comp v13 0) 7) (cell (comp v13 0) 8) (cell (comp v13 0) 9) (cell (comp v13 0) 10) (cell (comp v13 0) 11) (cell (comp v13 0) 12) (cell (comp v13 0) 13) (cell (comp v13 0) 14) (cell (comp v13 0) 15) (cell (comp v13 0) 16) (cell (comp v13 0) 19) (cell (comp v13 0) 20) (cell (comp v8 0) 0) hole hole hole hole hole hole hole hole hole hole hole hole hole hole hole hole (cell (comp v8 0) 17) (cell (comp v8 0) 18) hole hole hole (cell (comp v13 0) 0) hole hole hole hole hole hole hole hole hole hole hole hole hole hole hole hole (cell (comp v13 0) 17) (cell (comp v13 0) 18) hole hole hole)) (
 tv (pbin (.int .i64) .neq (comp v13 1) (I 0)) fun v15 =>
 jmp [1, 0, 1, 1, 1, 1, 1, 1] (f5_0_S x2 (comp v8 1) (comp v13 1) v15 (cell x0 0) (cell (comp v8 0) 1) (cell (comp v8 0) 2) (cell (comp v8 0) 3) (cell (comp v8 0) 4) (cell (comp v8 0) 5) (cell (comp v8 0) 6) (cell (comp v8 0) 7) (cell (comp v8 0) 8) (cell (comp v8 0) 9) (cell (comp v8 0) 10) (cell (comp v8 0) 11) (cell (comp v8 0) 12) (cell (comp v8 0) 13) (cell (comp v8 0) 14) (cell (comp v8 0) 15) (cell (comp v8 0) 16) (cell (comp v8 0) 19) (cell (comp v8 0) 20) (cell (comp v13 0) 1) (cell (comp v13 0) 2) (cell (comp v13 0) 3) (cell (comp v13 0) 4) (cell (comp v13 0) 5) (cell (comp v13 0) 6) (cell (comp v13 0) 7) (cell (comp v13 0) 8) (cell (comp v13 0) 9) (cell (comp v13 0) 10) (cell (comp v13 0) 11) (cell (comp v13 0) 12) (cell (comp v13 0) 13) (cell (comp v13 0) 14) (cell (comp v13 0) 15) (cell (comp v13 0) 16) (cell (comp v13 0) 19) (cell (comp v13 0) 20) (cell (comp v8 0) 0) hole hole hole hole hole hole hole hole hole hole hole hole hole hole hole hole (cell (comp v8 0) 17) (cell (comp v8 0) 18) hole hole hole (cell (comp v13 0) 0) hole hole hole hole hole hole hole hole hole hole hole hole hole hole hole hole (cell (comp v13 0) 17) (cell (comp v13 0) 18) hole hole hole))))))))))))))
def f5_0  (x0 x1 x2 x3 y4 y5 y6 y7 y8 y9 y10 y11 y12 y13 y14 y15 y16 y17 y18 y19 y20 y21 y22 y23 y24 y25 y26 y27 y28 y29 y30 y31 y32 y33 y34 y35 y36 y37 y38 y39 y40 w41 w42 w43 w44 w45 w46 w47 w48 w49 w50 w51 w52 w53 w54 w55 w56 w57 w58 w59 w60 w61 w62 w63 w64 w65 w66 w67 w68 w69 w70 w71 w72 w73 w74 w75 w76 w77 w78 w79 w80 w81 w82 w83 w84 : TV) : Prg TV :=
 Prg.ite (asBool x3) (
 tv (pbin (.int .i64) .eql x1 x2) fun v16 =>
 ret v16) (
 tv (pbin (.int .i64) .eql y21 (I 6)) fun v17 =>
 Prg.ite (asBool v17) (
 call 17 [frz w59, frz w81] fun v18 =>
 chk (fitsAt zBool [v18] 0) (
 ret v18)) (
 call 20 [agg [frz w41, y5, y6, y7, y8, y9, y10, y11, y12, y13, y14, y15, y16, y17, y18, y19, y20, frz w58, frz w59, y21, y22], agg [frz w63, y23, y24, y25, y26, y27, y28, y29, y30, y31, y32, y33, y34, y35, y36, y37, y38, frz w80, frz w81, y39, y40]] fun v19 =>
 chk (fitsAt zBool [v19] 0) (
 tv (pun .not v19) fun v20 =>
 Prg.ite (asBool v20) (
 ret (B false)) (
 tv (plen (.slice 47) w41) fun v21 =>
 tv (plen (.slice 47) w63) fun v22 =>
 tv (pbin (.int .i64) .neq v21 v22) fun v23 =>
 Prg.ite (asBool v23) (
 ret (B false)) (
 tv (peqL IntKind.u16 .neq [y5, y6, y7, y8, y9, y10, y11, y12, y13, y14, y15, y16, y17, y18, y19, y20] [y23, y24, y25, y26, y27, y28, y29, y30, y31, y32, y33, y34, y35, y36, y37, y38]) fun v24 =>
 Prg.ite (asBool v24) (
 ret (B false)) (
 tv (plen (.slice 29) w80) fun v25 =>
 tv (plen (.slice 29) w58) fun v26 =>
 tv (plen (.slice 29) x0) fun v27 =>
 tv (pbin (.int .i64) .add v26 v27) fun v28 =>
 tv (pbin (.int .i64) .neq v25 v28) fun v29 =>
 Prg.ite (asBool v29) (
 ret (B false)) (
 call 19 [agg [y4], agg [frz w41, y5, y6, y7, y8, y9, y10, y11, y12, y13, y14, y15, y16, y17, y18, y19, y20, frz w58, frz w59, y21, y22]] fun v30 =>
 chk (isTup v30 2) (
 chk (Bool.and (TV.isAgg (comp v30 0) 21) (fitsAt z32 (cellsL true (comp v30 0)) 0)) (
 chk (fitsAt zInt [comp v30 1] 0) (
 tv (pbin (.int .i64) .eql (comp v30 1) (I 0)) fun v31 =>
 Prg.ite (asBool v31) (
 tv (plen (.slice 47) (cell (comp v30 0) 0)) fun v32 =>
 tv (plen (.slice 47) w41) fun v33 =>
 tv (pbin (.int .i64) .add v33 (I 1)) fun v34 =>
 tv (pbin (.int .i64) .leq v32 v34) fun v35 =>
 Prg.ite (asBool v35) (
 tv (plen (.slice 3) (cell (comp v30 0) 18)) fun v36 =>
 tv (plen (.slice 3) w59) fun v37 =>
 tv (pbin (.int .i64) .add v37 (I 1)) fun v38 =>
 tv (pbin (.int .i64) .leq v36 v38) fun v39 =>
 Prg.ite (asBool v39) (
 tv (plen (.slice 29) (cell (comp v30 0) 17)) fun v40 =>
 tv (plen (.slice 29) w58) fun v41 =>
 tv (pbin (.int .i64) .sub v41 (I 1)) fun v42 =>
 tv (pbin (.int .i64) .geq v40 v42) fun v43 =>
 ret v43) (
 ret (B false))) (
 ret (B false))) (
 ret (B false))))))))))))
theorem f5_MR (x0 x1 x2 x3 : TV) : startQ prog 5 [x0, x1, x2, x3] = f5_M x0 x1 x2 x3 := by kernel_rfl
theorem f5_0_J  {x0 x1 x2 x3 y4 y5 y6 y7 y8 y9 y10 y11 y12 y13 y14 y15 y16 y17 y18 y19 y20 y21 y22 y23 y24 y25 y26 y27 y28 y29 y30 y31 y32 y33 y34 y35 y36 y37 y38 y39 y40 w41 w42 w43 w44 w45 w46 w47 w48 w49 w50 w51 w52 w53 w54 w55 w56 w57 w58 w59 w60 w61 w62 w63 w64 w65 w66 w67 w68 w69 w70 w71 w72 w73 w74 w75 w76 w77 w78 w79 w80 w81 w82 w83 w84 : TV} {r : TV} (h : Goes prog 5 (f5_0 x0 x1 x2 x3 y4 y5 y6 y7 y8 y9 y10 y11 y12 y13 y14 y15 y16 y17 y18 y19 y20 y21 y22 y23 y24 y25 y26 y27 y28 y29 y30 y31 y32 y33 y34 y35 y36 y37 y38 y39 y40 w41 w42 w43 w44 w45 w46 w47 w48 w49 w50 w51 w52 w53 w54 w55 w56 w57 w58 w59 w60 w61 w62 w63 w64 w65 w66 w67 w68 w69 w70 w71 w72 w73 w74 w75 w76 w77 w78 w79 w80 w81 w82 w83 w84) r) : Goes prog 5 (.jmp [1, 0, 1, 1, 1, 1, 1, 1] (f5_0_S x0 x1 x2 x3 y4 y5 y6 y7 y8 y9 y10 y11 y12 y13 y14 y15 y16 y17 y18 y19 y20 y21 y22 y23 y24 y25 y26 y27 y28 y29 y30 y31 y32 y33 y34 y35 y36 y37 y38 y39 y40 w41 w42 w43 w44 w45 w46 w47 w48 w49 w50 w51 w52 w53 w54 w55 w56 w57 w58 w59 w60 w61 w62 w63 w64 w65 w66 w67 w68 w69 w70 w71 w72 w73 w74 w75 w76 w77 w78 w79 w80 w81 w82 w83 w84)) r := Goes.jmp (by kernel_rfl) h
def f12_M (x0 x1 : TV) : Prg TV :=
 chk (TV.isAgg x0 1) (
 call 34 [agg [cell x0 0]] fun v0 =>
 chk (fitsAt zBool [v0] 0) (
 Prg.ite (asBool v0) (
 tv (plen (.slice 29) x1) fun v1 =>
 tv (pbin (.int .i64) .leq v1 (I 30)) fun v2 =>
 ret v2) (
 ret (B false))))
theorem f12_MR (x0 x1 : TV) : startQ prog 12 [x0, x1] = f12_M x0 x1 := by kernel_rfl
def f13_0_S  (x0 y1 y2 y3 y4 y5 y6 y7 y8 y9 y10 y11 y12 y13 y14 y15 y16 y17 y18 w19 w20 w21 w22 w23 w24 w25 w26 w27 w28 w29 w30 w31 w32 w33 w34 w35 w36 w37 w38 w39 w40 w41 : TV) : ASt := ⟨[AV.one CA.junk, AV.one CA.junk, AV.tv x0, AV.one CA.junk, AV.one CA.junk, AV.one CA.junk, AV.one (CA.ptr 0 0), AV.one CA.junk, AV.one CA.junk, AV.one CA.junk, AV.one (CA.ptr 1 0)] ++ List.replicate 29 (AV.one CA.junk), [some (BC.cells [CA.junk, CA.junk, CA.junk, CA.junk, CA.junk, CA.junk, CA.junk, CA.junk, CA.junk, CA.junk, CA.junk, CA.junk, CA.junk, CA.junk, CA.junk, CA.junk, CA.junk, CA.junk, CA.junk, CA.junk, CA.junk]), some (BC.cells [CA.sref 2 0 [], CA.t y1, CA.t y2, CA.t y3, CA.t y4, CA.t y5, CA.t y6, CA.t y7, CA.t y8, CA.t y9, CA.t y10, CA.t y11, CA.t y12, CA.t y13, CA.t y14, CA.t y15, CA.t y16, CA.sref 2 17 [], CA.sref 2 18 [], CA.t y17, CA.t y18, CA.sref 3 0 []]), some (BC.tree [w19, w20, w21, w22, w23, w24, w25, w26, w27, w28, w29, w30, w31, w32, w33, w34, w35, w36, w37, w38, w39, w40]), some (BC.tree [w41])] ++ List.replicate 60 (none), []⟩
def f13_1_S  (y0 y1 y2 y3 y4 y5 y6 y7 y8 y9 y10 y11 y12 y13 y14 y15 y16 y17 w18 w19 w20 w21 w22 w23 w24 w25 w26 w27 w28 w29 w30 w31 w32 w33 w34 w35 w36 w37 w38 w39 w40 : TV) : ASt := ⟨List.replicate 6 (AV.one CA.junk) ++ [AV.one (CA.ptr 0 0), AV.one CA.junk, AV.one CA.junk, AV.one CA.junk, AV.one (CA.ptr 1 0)] ++ List.replicate 29 (AV.one CA.junk), [some (BC.cells [CA.junk, CA.junk, CA.junk, CA.junk, CA.junk, CA.junk, CA.junk, CA.junk, CA.junk, CA.junk, CA.junk, CA.junk, CA.junk, CA.junk, CA.junk, CA.junk, CA.junk, CA.junk, CA.junk, CA.junk, CA.junk]), some (BC.cells [CA.sref 2 0 [], CA.t y0, CA.t y1, CA.t y2, CA.t y3, CA.t y4, CA.t y5, CA.t y6, CA.t y7, CA.t y8, CA.t y9, CA.t y10, CA.t y11, CA.t y12, CA.t y13, CA.t y14, CA.t y15, CA.sref 2 17 [], CA.sref 2 18 [], CA.t y16, CA.t y17, CA.sref 3 0 []]), some (BC.tree [w18, w19, w20, w21, w22, w23, w24, w25, w26, w27, w28, w29, w30, w31, w32, w33, w34, w35, w36, w37, w38, w39]), some (BC.tree [w40])] ++ List.replicate 60 (none), []⟩
def f13_M (x0 x1 x2 : TV) : Prg TV :=
 chk (TV.isAgg x0 1) (
 call 35 [agg [cell x0 0], x1] fun v0 =>
 chk (isTup v0 2) (
 chk (Bool.and (TV.isAgg (comp v0 0) 21) (fitsAt z32 (cellsL true (comp v0 0)) 0)) (
 chk (fitsAt zInt [comp v0 1] 0) (
 tv (pbin (.int .i64) .neq (comp v0 1) (I 0)) fun v1 =>
 Prg.ite (asBool v1) (
 chk true (
 ret (tup [agg [TV.lit nilV, W 0, W 0, W 0, W 0, W 0, W 0, W 0, W 0, W 0, W 0, W 0, W 0, W 0, W 0, W 0, W 0, TV.lit nilV, TV.lit nilV, I 0, W 0], I 1]))) (
 tv (pbin (.int .i64) .gtr x2 (I 1048576)) fun v2 =>
 Prg.ite (asBool v2) (
 chk true (
 ret (tup [agg [TV.lit nilV, W 0, W 0, W 0, W 0, W 0, W 0, W 0, W 0, W 0, W 0, W 0, W 0, W 0, W 0, W 0, W 0, TV.lit nilV, TV.lit nilV, I 0, W 0], I 1]))) (
 chk (isSl (cell x0 0)) (
 jmp [0, 0, 0, 1, 1, 1, 1] (f13_0_S x2 (cell (comp v0 0) 1) (cell (comp v0 0) 2) (cell (comp v0 0) 3) (cell (comp v0 0) 4) (cell (comp v0 0) 5) (cell (comp v0 0) 6) (cell (comp v0 0) 7) (cell (comp v0 0) 8) (cell (comp v0 0) 9) (cell (comp v0 0) 10) (cell (comp v0 0) 11) (cell (comp v0 0) 12) (cell (comp v0 0) 13) (cell (comp v0 0) 14) (cell (comp v0 0) 15) (cell (comp v0 0) 16) (cell (comp v0 0) 19) (cell (comp v0 0) 20) (cell (comp v0 0) 0) hole hole hole hole hole hole hole hole hole hole hole hole hole hole hole hole (cell (comp v0 0) 17) (cell (comp v0 0) 18) hole hole hole (cell x0 0)))))))))
def f13_0  (x0 y1 y2 y3 y4 y5 y6 y7 y8 y9 y10 y11 y12 y13 y14 y15 y16 y17 y18 w19 w20 w21 w22 w23 w24 w25 w26 w27 w28 w29 w30 w31 w32 w33 w34 w35 w36 w37 w38 w39 w40 w41 : TV) : Prg TV :=
 tv (pbin (.int .i64) .gtr x0 (I 0)) fun v3 =>
 Prg.ite (asBool v3) (
 tv (pbin (.int .i64) .eql y17 (I 0)) fun v4 =>
 Prg.ite (asBool v4) (
 chk (Bool.and (isSl w19) (Bool.and (isSc y1) (Bool.and (isSc y2) (Bool.and (isSc y3) (Bool.and (isSc y4) (Bool.and (isSc y5) (Bool.and (isSc y6) (Bool.and (isSc y7) (Bool.and (isSc y8) (Bool.and (isSc y9) (Bool.and (isSc y10) (Bool.and (isSc y11) (Bool.and (isSc y12) (Bool.and (isSc y13) (Bool.and (isSc y14) (Bool.and (isSc y15) (Bool.and (isSc y16) (Bool.and (isSl w36) (Bool.and (isSl w37) (Bool.and (isSc y17) (Bool.and (isSc y18) (Bool.and (isSl w41) true)))))))))))))))))))))) (
 call 36 [tup [w19, y1, y2, y3, y4, y5, y6, y7, y8, y9, y10, y11, y12, y13, y14, y15, y16, w36, w37, y17, y18, w41]] fun v5 =>
 chk (Bool.and (Bool.and (isTup v5 2) (isTup (comp v5 1) 22)) (Bool.and (isSl (comp (comp v5 1) 0)) (Bool.and (isSc (comp (comp v5 1) 1)) (Bool.and (isSc (comp (comp v5 1) 2)) (Bool.and (isSc (comp (comp v5 1) 3)) (Bool.and (isSc (comp (comp v5 1) 4)) (Bool.and (isSc (comp (comp v5 1) 5)) (Bool.and (isSc (comp (comp v5 1) 6)) (Bool.and (isSc (comp (comp v5 1) 7)) (Bool.and (isSc (comp (comp v5 1) 8)) (Bool.and (isSc (comp (comp v5 1) 9)) (Bool.and (isSc (comp (comp v5 1) 10)) (Bool.and (isSc (comp (comp v5 1) 11)) (Bool.and (isSc (comp (comp v5 1) 12)) (Bool.and (isSc (comp (comp v5 1) 13)) (Bool.and (isSc (comp (comp v5 1) 14)) (Bool.and (isSc (comp (comp v5 1) 15)) (Bool.and (isSc (comp (comp v5 1) 16)) (Bool.and (isSl (comp (comp v5 1) 17)) (Bool.and (isSl (comp (comp v5 1) 18)) (Bool.and (isSc (comp (comp v5 1) 19)) (Bool.and (isSc (comp (comp v5 1) 20)) (Bool.and (isSl (comp (comp v5 1) 21)) true))))))))))))))))))))))) (
 chk (isTup (comp v5 0) 0) (
 tv (pbin (.int .i64) .sub x0 (I 1)) fun v6 =>
 jmp [0, 0, 0, 1, 1, 1, 1] (f13_0_S v6 (comp (comp v5 1) 1) (comp (comp v5 1) 2) (comp (comp v5 1) 3) (comp (comp v5 1) 4) (comp (comp v5 1) 5) (comp (comp v5 1) 6) (comp (comp v5 1) 7) (comp (comp v5 1) 8) (comp (comp v5 1) 9) (comp (comp v5 1) 10) (comp (comp v5 1) 11) (comp (comp v5 1) 12) (comp (comp v5 1) 13) (comp (comp v5 1) 14) (comp (comp v5 1) 15) (comp (comp v5 1) 16) (comp (comp v5 1) 19) (comp (comp v5 1) 20) (comp (comp v5 1) 0) hole hole hole hole hole hole hole hole hole hole hole hole hole hole hole hole (comp (comp v5 1) 17) (comp (comp v5 1) 18) hole hole hole (comp (comp v5 1) 21)))))) (
 jmp [1, 1, 1, 1, 1] (f13_1_S y1 y2 y3 y4 y5 y6 y7 y8 y9 y10 y11 y12 y13 y14 y15 y16 y17 y18 w19 w20 w21 w22 w23 w24 w25 w26 w27 w28 w29 w30 w31 w32 w33 w34 w35 w36 w37 w38 w39 w40 w41))) (
 jmp [1, 1, 1, 1, 1] (f13_1_S y1 y2 y3 y4 y5 y6 y7 y8 y9 y10 y11 y12 y13 y14 y15 y16 y17 y18 w19 w20 w21 w22 w23 w24 w25 w26 w27 w28 w29 w30 w31 w32 w33 w34 w35 w36 w37 w38 w39 w40 w41))
def f13_1  (y0 y1 y2 y3 y4 y5 y6 y7 y8 y9 y10 y11 y12 y13 y14 y15 y16 y17 w18 w19 w20 w21 w22 w23 w24 w25 w26 w27 w28 w29 w30 w31 w32 w33 w34 w35 w36 w37 w38 w39 w40 : TV) : Prg TV :=
 chk (isOwnL [agg [w18, y0, y1, y2, y3, y4, y5, y6, y7, y8, y9, y10, y11, y12, y13, y14, y15, w35, w36, y16, y17], I 0]) (
 ret (tup [agg [w18, y0, y1, y2, y3, y4, y5, y6, y7, y8, y9, y10, y11, y12, y13, y14, y15, w35, w36, y16, y17], I 0]))
theorem f13_MR (x0 x1 x2 : TV) : startQ prog 13 [x0, x1, x2] = f13_M x0 x1 x2 := by kernel_rfl
theorem f13_0_J  {x0 y1 y2 y3 y4 y5 y6 y7 y8 y9 y10 y11 y12 y13 y14 y15 y16 y17 y18 w19 w20 w21 w22 w23 w24 w25 w26 w27 w28 w29 w30 w31 w32 w33 w34 w35 w36 w37 w38 w39 w40 w41 : TV} {r : TV} (h : Goes prog 13 (f13_0 x0 y1 y2 y3 y4 y5 y6 y7 y8 y9 y10 y11 y12 y13 y14 y15 y16 y17 y18 w19 w20 w21 w22 w23 w24 w25 w26 w27 w28 w29 w30 w31 w32 w33 w34 w35 w36 w37 w38 w39 w40 w41) r) : Goes prog 13 (.jmp [0, 0, 0, 1, 1, 1, 1] (f13_0_S x0 y1 y2 y3 y4 y5 y6 y7 y8 y9 y10 y11 y12 y13 y14 y15 y16 y17 y18 w19 w20 w21 w22 w23 w24 w25 w26 w27 w28 w29 w30 w31 w32 w33 w34 w35 w36 w37 w38 w39 w40 w41)) r := Goes.jmp (by kernel_rfl) h
theorem f13_1_J  {y0 y1 y2 y3 y4 y5 y6 y7 y8 y9 y10 y11 y12 y13 y14 y15 y16 y17 w18 w19 w20 w21 w22 w23 w24 w25 w26 w27 w28 w29 w30 w31 w32 w33 w34 w35 w36 w37 w38 w39 w40 : TV} {r : TV} (h : Goes prog 13 (f13_1 y0 y1 y2 y3 y4 y5 y6 y7 y8 y9 y10 y11 y12 y13 y14 y15 y16 y17 w18 w19 w20 w21 w22 w23 w24 w25 w26 w27 w28 w29 w30 w31 w32 w33 w34 w35 w36 w37 w38 w39 w40) r) : Goes prog 13 (.jmp [1, 1, 1, 1, 1] (f13_1_S y0 y1 y2 y3 y4 y5 y6 y7 y8 y9 y10 y11 y12 y13 y14 y15 y16 y17 w18 w19 w20 w21 w22 w23 w24 w25 w26 w27 w28 w29 w30 w31 w32 w33 w34 w35 w36 w37 w38 w39 w40)) r := Goes.jmp (by kernel_rfl) h
def f17_M (x0 x1 : TV) : Prg TV :=
 tv (plen (.slice 3) x0) fun v0 =>
 tv (plen (.slice 3) x1) fun v1 =>
 tv (pbin (.int .i64) .leq v0 v1) fun v2 =>
 Prg.ite (asBool v2) (
 tv (plen (.slice 3) x0) fun v3 =>
 nat (asNat v3) fun n4 =>
 tv (pslice (.slice 3) 1 x1 none (some n4)) fun v5 =>
 call 23 [x0, v5] fun v6 =>
 chk (fitsAt zBool [v6] 0) (
 ret v6)) (
 ret (B false))
theorem f17_MR (x0 x1 : TV) : startQ prog 17 [x0, x1] = f17_M x0 x1 := by kernel_rfl
def f18_0_S  (y0 y1 y2 y3 y4 y5 y6 y7 y8 y9 y10 y11 y12 y13 y14 y15 y16 y17 y18 y19 y20 y21 : TV) : ASt := ⟨[AV.one CA.junk, AV.one CA.junk, AV.one (CA.ptr 0 0), AV.one (CA.ptr 1 0)] ++ List.replicate 61 (AV.one CA.junk), [some (BC.cells [CA.t y0]), some (BC.cells [CA.t y1, CA.t y2, CA.t y3, CA.t y4, CA.t y5, CA.t y6, CA.t y7, CA.t y8, CA.t y9, CA.t y10, CA.t y11, CA.t y12, CA.t y13, CA.t y14, CA.t y15, CA.t y16, CA.t y17, CA.t y18, CA.t y19, CA.t y20, CA.t y21])] ++ List.replicate 87 (none), []⟩
def f18_1_S  (x0 x1 x2 y3 y4 y5 y6 y7 y8 y9 y10 y11 y12 y13 y14 y15 y16 y17 y18 y19 y20 y21 y22 y23 y24 : TV) : ASt := ⟨[AV.one CA.junk, AV.one CA.junk, AV.one (CA.ptr 0 0), AV.one (CA.ptr 1 0)] ++ List.replicate 32 (AV.one CA.junk) ++ [AV.tv x0, AV.tv x1, AV.tv x2] ++ List.replicate 26 (AV.one CA.junk), [some (BC.cells [CA.t y3]), some (BC.cells [CA.t y4, CA.t y5, CA.t y6, CA.t y7, CA.t y8, CA.t y9, CA.t y10, CA.t y11, CA.t y12, CA.t y13, CA.t y14, CA.t y15, CA.t y16, CA.t y17, CA.t y18, CA.t y19, CA.t y20, CA.t y21, CA.t y22, CA.t y23, CA.t y24])] ++ List.replicate 87 (none), []⟩
def f18_M (x0 x1 : TV) : Prg TV :=
 chk (TV.isAgg x0 1) (
 chk (TV.isAgg x1 21) (
 call 41 [agg [cell x0 0]] fun v0 =>
 chk (fitsAt zBool [v0] 0) (
 tv (pun .not v0) fun v1 =>
 Prg.ite (asBool v1) (
 ret (B false)) (
 tv (pbin (.int .i64) .lss (cell x1 19) (I 0)) fun v2 =>
 Prg.ite (asBool v2) (
 ret (B false)) (
 tv (pbin (.int .i64) .gtr (cell x1 19) (I 6)) fun v3 =>
 Prg.ite (asBool v3) (
 ret (B false)) (
 tv (plen (.slice 47) (cell x1 0)) fun v4 =>
 tv (pbin (.int .i64) .gtr v4 (I 32)) fun v5 =>
 Prg.ite (asBool v5) (
 ret (B false)) (
 tv (pbin (.int .i64) .eql (cell x1 19) (I 0)) fun v6 =>
 Prg.ite (asBool v6) (
 tv (plen (.slice 47) (cell x1 0)) fun v7 =>
 tv (pbin (.int .i64) .eql v7 (I 0)) fun v8 =>
 Prg.ite (asBool v8) (
 ret (B false)) (
 jmp [1, 1, 1] (f18_0_S (cell x0 0) (cell x1 0) (cell x1 1) (cell x1 2) (cell x1 3) (cell x1 4) (cell x1 5) (cell x1 6) (cell x1 7) (cell x1 8) (cell x1 9) (cell x1 10) (cell x1 11) (cell x1 12) (cell x1 13) (cell x1 14) (cell x1 15) (cell x1 16) (cell x1 17) (cell x1 18) (cell x1 19) (cell x1 20)))) (
 jmp [1, 1, 1] (f18_0_S (cell x0 0) (cell x1 0) (cell x1 1) (cell x1 2) (cell x1 3) (cell x1 4) (cell x1 5) (cell x1 6) (cell x1 7) (cell x1 8) (cell x1 9) (cell x1 10) (cell x1 11) (cell x1 12) (cell x1 13) (cell x1 14) (cell x1 15) (cell x1 16) (cell x1 17) (cell x1 18) (cell x1 19) (cell x1 20))))))))))
def f18_0  (y0 y1 y2 y3 y4 y5 y6 y7 y8 y9 y10 y11 y12 y13 y14 y15 y16 y17 y18 y19 y20 y21 : TV) : Prg TV :=
 tv (plen (.slice 47) y1) fun v9 =>
 jmp [0, 0, 1, 0, 1, 1, 1] (f18_1_S y1 v9 (I 0) y0 y1 y2 y3 y4 y5 y6 y7 y8 y9 y10 y11 y12 y13 y14 y15 y16 y17 y18 y19 y20 y21)
def f18_1  (x0 x1 x2 y3 y4 y5 y6 y7 y8 y9 y10 y11 y12 y13 y14 y15 y16 y17 y18 y19 y20 y21 y22 y23 y24 : TV) : Prg TV :=
 tv (pbin (.int .i64) .lss x2 x1) fun v10 =>
 Prg.ite (asBool v10) (
 tvs (pidx 5 x0 x2) fun e11 =>
 chk (Nat.ble 5 (List.length e11)) (
 call 42 [agg [y3], agg [nth hole e11 0, nth hole e11 1, nth hole e11 2, nth hole e11 3, nth hole e11 4]] fun v12 =>
 chk (fitsAt zBool [v12] 0) (
 tv (pun .not v12) fun v13 =>
 Prg.ite (asBool v13) (
 ret (B false)) (
 tv (pbin (.int .i64) .gtr x2 (I 0)) fun v14 =>
 Prg.ite (asBool v14) (
 tv (pbin (.int .i64) .sub x2 (I 1)) fun v15 =>
 tvs (pidx 5 y4 v15) fun e16 =>
 chk (Nat.ble 5 (List.length e16)) (
 call 43 [agg [y3], agg [nth hole e16 0, nth hole e16 1, nth hole e16 2, nth hole e16 3, nth hole e16 4], nth hole e11 0] fun v17 =>
 chk (fitsAt zBool [v17] 0) (
 tv (pun .not v17) fun v18 =>
 Prg.ite (asBool v18) (
 ret (B false)) (
 tv (pbin (.int .i64) .add x2 (I 1)) fun v19 =>
 jmp [0, 0, 1, 0, 1, 1, 1] (f18_1_S x0 x1 v19 y3 y4 y5 y6 y7 y8 y9 y10 y11 y12 y13 y14 y15 y16 y17 y18 y19 y20 y21 y22 y23 y24))))) (
 tv (pbin (.int .i64) .add x2 (I 1)) fun v20 =>
 jmp [0, 0, 1, 0, 1, 1, 1] (f18_1_S x0 x1 v20 y3 y4 y5 y6 y7 y8 y9 y10 y11 y12 y13 y14 y15 y16 y17 y18 y19 y20 y21 y22 y23 y24)))))) (
 ret (B true))
theorem f18_MR (x0 x1 : TV) : startQ prog 18 [x0, x1] = f18_M x0 x1 := by kernel_rfl
theorem f18_0_J  {y0 y1 y2 y3 y4 y5 y6 y7 y8 y9 y10 y11 y12 y13 y14 y15 y16 y17 y18 y19 y20 y21 : TV} {r : TV} (h : Goes prog 18 (f18_0 y0 y1 y2 y3 y4 y5 y6 y7 y8 y9 y10 y11 y12 y13 y14 y15 y16 y17 y18 y19 y20 y21) r) : Goes prog 18 (.jmp [1, 1, 1] (f18_0_S y0 y1 y2 y3 y4 y5 y6 y7 y8 y9 y10 y11 y12 y13 y14 y15 y16 y17 y18 y19 y20 y21)) r := Goes.jmp (by kernel_rfl) h
theorem f18_1_J  {x0 x1 x2 y3 y4 y5 y6 y7 y8 y9 y10 y11 y12 y13 y14 y15 y16 y17 y18 y19 y20 y21 y22 y23 y24 : TV} {r : TV} (h : Goes prog 18 (f18_1 x0 x1 x2 y3 y4 y5 y6 y7 y8 y9 y10 y11 y12 y13 y14 y15 y16 y17 y18 y19 y20 y21 y22 y23 y24) r) : Goes prog 18 (.jmp [0, 0, 1, 0, 1, 1, 1] (f18_1_S x0 x1 x2 y3 y4 y5 y6 y7 y8 y9 y10 y11 y12 y13 y14 y15 y16 y17 y18 y19 y20 y21 y22 y23 y24)) r := Goes.jmp (by kernel_rfl) h
end Go.Ab.G7

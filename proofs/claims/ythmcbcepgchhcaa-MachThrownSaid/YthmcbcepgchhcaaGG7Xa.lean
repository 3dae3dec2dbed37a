import Derived.Test.YthmcbcepgchhcaaGG7T
import Derived.Test.YthmcbcepgchhcaaGB0
set_option linter.unusedVariables false
set_option maxRecDepth 100000
namespace Go.Ab.G7
open Go Go.Ab Go.Proofs
open Go.Ab.TV (hole cell comp isSl isSc isTup cellsL tup agg)
open Go.Ab.Prg (tv tvs rws nat chk call jmp ret)
def f6_0_S  (x0 y1 y2 y3 y4 y5 y6 y7 y8 y9 y10 y11 y12 y13 y14 y15 y16 y17 y18 y19 y20 y21 y22 : TV) (k23 : Nat) (y24 y25 y26 y27 y28 y29 y30 y31 y32 y33 y34 y35 y36 y37 y38 y39 y40 y41 y42 y43 y44 y45 y46 y47 y48 y49 y50 y51 y52 y53 y54 y55 y56 w57 w58 w59 w60 w61 w62 w63 w64 w65 w66 w67 w68 w69 w70 w71 w72 w73 w74 w75 w76 w77 w78 w79 w80 w81 w82 w83 w84 w85 w86 w87 w88 w89 w90 w91 w92 w93 w94 w95 w96 w97 w98 w99 w100 : TV) : ASt := ⟨[AV.one CA.junk, AV.one CA.junk, AV.one CA.junk, AV.one (CA.ptr 0 0), AV.one CA.junk, AV.one CA.junk, AV.one CA.junk, AV.one (CA.ptr 1 0), AV.one CA.junk, AV.one (CA.ptr 2 0), AV.one (CA.ptr 3 0), AV.one (CA.ptr 4 0), AV.one CA.junk, AV.tv x0] ++ List.replicate 189 (AV.one CA.junk), [some (BC.cells [CA.t y1]), some (BC.cells [CA.sref 5 0 [], CA.t y2, CA.t y3, CA.t y4, CA.t y5, CA.t y6, CA.t y7, CA.t y8, CA.t y9, CA.t y10, CA.t y11, CA.t y12, CA.t y13, CA.t y14, CA.t y15, CA.t y16, CA.t y17, CA.sref 5 17 [], CA.sref 5 18 [], CA.t y18, CA.t y19]), some (BC.cells [CA.t y20, CA.t y21, CA.t y22, CA.sref 5 0 [(k23, 3)], CA.t y24]), some (BC.cells [CA.t y25, CA.t y26, CA.t y27, CA.t y28, CA.t y29, CA.t y30, CA.t y31, CA.t y32, CA.t y33, CA.t y34, CA.t y35, CA.t y36, CA.t y37, CA.t y38]), some (BC.cells [CA.sref 6 0 [], CA.t y39, CA.t y40, CA.t y41, CA.t y42, CA.t y43, CA.t y44, CA.t y45, CA.t y46, CA.t y47, CA.t y48, CA.t y49, CA.t y50, CA.t y51, CA.t y52, CA.t y53, CA.t y54, CA.sref 6 17 [], CA.sref 6 18 [], CA.t y55, CA.t y56]), some (BC.tree [w57, w58, w59, w60, w61, w62, w63, w64, w65, w66, w67, w68, w69, w70, w71, w72, w73, w74, w75, w76, w77, w78]), some (BC.tree [w79, w80, w81, w82, w83, w84, w85, w86, w87, w88, w89, w90, w91, w92, w93, w94, w95, w96, w97, w98, w99, w100])] ++ List.replicate 220 (none), []⟩
def f6_1_S  (y0 y1 y2 y3 y4 y5 y6 y7 y8 y9 y10 y11 y12 y13 y14 y15 y16 y17 y18 y19 y20 y21 : TV) (k22 : Nat) (y23 y24 y25 y26 y27 y28 y29 y30 y31 y32 y33 y34 y35 y36 y37 y38 y39 y40 y41 y42 y43 y44 y45 y46 y47 y48 y49 y50 y51 y52 y53 y54 y55 w56 w57 w58 w59 w60 w61 w62 w63 w64 w65 w66 w67 w68 w69 w70 w71 w72 w73 w74 w75 w76 w77 w78 w79 w80 w81 w82 w83 w84 w85 w86 w87 w88 w89 w90 w91 w92 w93 w94 w95 w96 w97 w98 w99 : TV) : ASt := ⟨[AV.one CA.junk, AV.one CA.junk, AV.one CA.junk, AV.one (CA.ptr 0 0), AV.one CA.junk, AV.one CA.junk, AV.one CA.junk, AV.one (CA.ptr 1 0), AV.one CA.junk, AV.one (CA.ptr 2 0), AV.one (CA.ptr 3 0), AV.one (CA.ptr 4 0)] ++ List.replicate 191 (AV.one CA.junk), [some (BC.cells [CA.t y0]), some (BC.cells [CA.sref 5 0 [], CA.t y1, CA.t y2, CA.t y3, CA.t y4, CA.t y5, CA.t y6, CA.t y7, CA.t y8, CA.t y9, CA.t y10, CA.t y11, CA.t y12, CA.t y13, CA.t y14, CA.t y15, CA.t y16, CA.sref 5 17 [], CA.sref 5 18 [], CA.t y17, CA.t y18]), some (BC.cells [CA.t y19, CA.t y20, CA.t y21, CA.sref 5 0 [(k22, 3)], CA.t y23]), some (BC.cells [CA.t y24, CA.t y25, CA.t y26, CA.t y27, CA.t y28, CA.t y29, CA.t y30, CA.t y31, CA.t y32, CA.t y33, CA.t y34, CA.t y35, CA.t y36, CA.t y37]), some (BC.cells [CA.sref 6 0 [], CA.t y38, CA.t y39, CA.t y40, CA.t y41, CA.t y42, CA.t y43, CA.t y44, CA.t y45, CA.t y46, CA.t y47, CA.t y48, CA.t y49, CA.t y50, CA.t y51, CA.t y52, CA.t y53, CA.sref 6 17 [], CA.sref 6 18 [], CA.t y54, CA.t y55]), some (BC.tree [w56, w57, w58, w59, w60, w61, w62, w63, w64, w65, w66, w67, w68, w69, w70, w71, w72, w73, w74, w75, w76, w77]), some (BC.tree [w78, w79, w80, w81, w82, w83, w84, w85, w86, w87, w88, w89, w90, w91, w92, w93, w94, w95, w96, w97, w98, w99])] ++ List.replicate 220 (none), []⟩
def f6_2_S  (x0 y1 y2 y3 y4 y5 y6 y7 y8 y9 y10 y11 y12 y13 y14 y15 y16 y17 y18 y19 y20 y21 y22 : TV) (k23 : Nat) (y24 y25 y26 y27 y28 y29 y30 y31 y32 y33 y34 y35 y36 y37 y38 y39 y40 y41 y42 y43 y44 y45 y46 y47 y48 y49 y50 y51 y52 y53 y54 y55 y56 w57 w58 w59 w60 w61 w62 w63 w64 w65 w66 w67 w68 w69 w70 w71 w72 w73 w74 w75 w76 w77 w78 w79 w80 w81 w82 w83 w84 w85 w86 w87 w88 w89 w90 w91 w92 w93 w94 w95 w96 w97 w98 w99 w100 : TV) : ASt := ⟨[AV.one CA.junk, AV.one CA.junk, AV.one CA.junk, AV.one (CA.ptr 0 0), AV.one CA.junk, AV.one CA.junk, AV.one CA.junk, AV.one (CA.ptr 1 0), AV.one CA.junk, AV.one (CA.ptr 2 0), AV.one (CA.ptr 3 0), AV.one (CA.ptr 4 0)] ++ List.replicate 97 (AV.one CA.junk) ++ [AV.tv x0] ++ List.replicate 93 (AV.one CA.junk), [some (BC.cells [CA.t y1]), some (BC.cells [CA.sref 5 0 [], CA.t y2, CA.t y3, CA.t y4, CA.t y5, CA.t y6, CA.t y7, CA.t y8, CA.t y9, CA.t y10, CA.t y11, CA.t y12, CA.t y13, CA.t y14, CA.t y15, CA.t y16, CA.t y17, CA.sref 5 17 [], CA.sref 5 18 [], CA.t y18, CA.t y19]), some (BC.cells [CA.t y20, CA.t y21, CA.t y22, CA.sref 5 0 [(k23, 3)], CA.t y24]), some (BC.cells [CA.t y25, CA.t y26, CA.t y27, CA.t y28, CA.t y29, CA.t y30, CA.t y31, CA.t y32, CA.t y33, CA.t y34, CA.t y35, CA.t y36, CA.t y37, CA.t y38]), some (BC.cells [CA.sref 6 0 [], CA.t y39, CA.t y40, CA.t y41, CA.t y42, CA.t y43, CA.t y44, CA.t y45, CA.t y46, CA.t y47, CA.t y48, CA.t y49, CA.t y50, CA.t y51, CA.t y52, CA.t y53, CA.t y54, CA.sref 6 17 [], CA.sref 6 18 [], CA.t y55, CA.t y56]), some (BC.tree [w57, w58, w59, w60, w61, w62, w63, w64, w65, w66, w67, w68, w69, w70, w71, w72, w73, w74, w75, w76, w77, w78]), some (BC.tree [w79, w80, w81, w82, w83, w84, w85, w86, w87, w88, w89, w90, w91, w92, w93, w94, w95, w96, w97, w98, w99, w100])] ++ List.replicate 220 (none), []⟩
def f6_3_S  (x0 x1 y2 y3 y4 y5 y6 y7 y8 y9 y10 y11 y12 y13 y14 y15 y16 y17 y18 y19 y20 y21 y22 y23 y24 y25 y26 y27 y28 y29 y30 y31 y32 y33 y34 y35 y36 y37 y38 w39 w40 w41 w42 w43 w44 w45 w46 w47 w48 w49 w50 w51 w52 w53 w54 w55 w56 w57 w58 w59 w60 w61 w62 w63 w64 w65 w66 w67 w68 w69 w70 w71 w72 w73 w74 w75 w76 w77 w78 w79 w80 w81 w82 : TV) : ASt := ⟨[AV.one CA.junk, AV.one CA.junk, AV.one CA.junk, AV.one (CA.ptr 0 0), AV.one CA.junk, AV.one CA.junk, AV.one CA.junk, AV.one (CA.ptr 1 0), AV.one CA.junk, AV.one CA.junk, AV.one CA.junk, AV.one (CA.ptr 2 0), AV.one CA.junk, AV.one CA.junk, AV.tv x0] ++ List.replicate 113 (AV.one CA.junk) ++ [AV.tv x1] ++ List.replicate 74 (AV.one CA.junk), [some (BC.cells [CA.t y2]), some (BC.cells [CA.sref 3 0 [], CA.t y3, CA.t y4, CA.t y5, CA.t y6, CA.t y7, CA.t y8, CA.t y9, CA.t y10, CA.t y11, CA.t y12, CA.t y13, CA.t y14, CA.t y15, CA.t y16, CA.t y17, CA.t y18, CA.sref 3 17 [], CA.sref 3 18 [], CA.t y19, CA.t y20]), some (BC.cells [CA.sref 4 0 [], CA.t y21, CA.t y22, CA.t y23, CA.t y24, CA.t y25, CA.t y26, CA.t y27, CA.t y28, CA.t y29, CA.t y30, CA.t y31, CA.t y32, CA.t y33, CA.t y34, CA.t y35, CA.t y36, CA.sref 4 17 [], CA.sref 4 18 [], CA.t y37, CA.t y38]), some (BC.tree [w39, w40, w41, w42, w43, w44, w45, w46, w47, w48, w49, w50, w51, w52, w53, w54, w55, w56, w57, w58, w59, w60]), some (BC.tree [w61, w62, w63, w64, w65, w66, w67, w68, w69, w70, w71, w72, w73, w74, w75, w76, w77, w78, w79, w80, w81, w82])] ++ List.replicate 222 (none), []⟩
def f6_M (x0 x1 x2 : TV) : Prg TV :=
 chk (TV.isAgg x0 1) (
 call 11 [] fun v0 =>
 chk (fitsAt zBool [v0] 0) (
 tv (pun .not v0) fun v1 =>
 Prg.ite (asBool v1) (
 ret (B false)) (
 call 12 [agg [cell x0 0], x1] fun v2 =>
 chk (fitsAt zBool [v2] 0) (
 tv (pun .not v2) fun v3 =>
 Prg.ite (asBool v3) (
 ret (B true)) (
 tv (pbin (.int .u8) .rem x2 (TV.lit (Value.int IntKind.u8 (150 : Int)))) fun v4 =>
 tv (pconv (.int .i64) v4) fun v5 =>
 call 13 [agg [cell x0 0], x1, v5] fun v6 =>
 chk (isTup v6 2) (
 chk (Bool.and (TV.isAgg (comp v6 0) 21) (fitsAt z32 (cellsL true (comp v6 0)) 0)) (
 chk (fitsAt zInt [comp v6 1] 0) (
 tv (pbin (.int .i64) .neq (comp v6 1) (I 0)) fun v7 =>
 Prg.ite (asBool v7) (
 ret (B true)) (
 tv (pbin (.int .i64) .neq (cell (comp v6 0) 19) (I 0)) fun v8 =>
 Prg.ite (asBool v8) (
 ret (B true)) (
 tv (plen (.slice 47) (cell (comp v6 0) 0)) fun v9 =>
 tv (pbin (.int .i64) .sub v9 (I 1)) fun v10 =>
 nat (slLen (cell (comp v6 0) 0)) fun n11 =>
 nat (asNat v10) fun n12 =>
 chk (Bool.and (slSize (cell (comp v6 0) 0) 5) (Nat.blt n12 n11)) (
 tvs (pel (cell (comp v6 0) 0) n12) fun e13 =>
 chk (fitsAt z46 e13 0) (
 tvs (pidx 3 (cell x0 0) (nth hole e13 0)) fun e14 =>
 chk (Nat.blt 2 (List.length e14)) (
 tvs (pidx 14 (nth hole e14 2) (nth hole e13 1)) fun e15 =>
 chk (Nat.ble 14 (List.length e15)) (
 call 19 [agg [cell x0 0], agg [frz (cell (comp v6 0) 0), cell (comp v6 0) 1, cell (comp v6 0) 2, cell (comp v6 0) 3, cell (comp v6 0) 4, cell (comp v6 0) 5, cell (comp v6 0) 6, cell (comp v6 0) 7, cell (comp v6 0) 8, cell (comp v6 0) 9, cell (comp v6 0) 10, cell (comp v6 0) 11, cell (comp v6 0) 12, cell (comp v6 0) 13, cell (comp v6 0) 14, cell (comp v6 0) 15, cell (comp v6 0) 16, frz (cell (comp v6 0) 17), frz (cell (comp v6 0) 18), cell (comp v6 0) 19, cell (comp v6 0) 20]] fun v16 =>
 chk (isTup v16 2) (
 chk (Bool.and (TV.isAgg (comp v16 0) 21) (fitsAt z32 (cellsL true (comp v16 0)) 0)) (
 chk (fitsAt zInt [comp v16 1] 0) (
 tv (pbin (.int .i64) .neq (comp v16 1) (I 0)) fun v17 =>
 Prg.ite (asBool v17) (
 ret (B false)) (
 jmp [0, 0, 1, 0, 1, 1, 1, 1, 1, 1, 1, 1, 1] (f6_0_S (I 0) (cell x0 0) (cell (comp v6 0) 1) (cell (comp v6 0) 2) (cell (comp v6 0) 3) (cell (comp v6 0) 4) (cell (comp v6 0) 5) (cell (comp v6 0) 6) (cell (comp v6 0) 7) (cell (comp v6 0) 8) (cell (comp v6 0) 9) (cell (comp v6 0) 10) (cell (comp v6 0) 11) (cell (comp v6 0) 12) (cell (comp v6 0) 13) (cell (comp v6 0) 14) (cell (comp v6 0) 15) (cell (comp v6 0) 16) (cell (comp v6 0) 19) (cell (comp v6 0) 20) (nth hole e13 0) (nth hole e13 1) (nth hole e13 2) n12 (nth hole e13 4) (nth hole e15 0) (nth hole e15 1) (nth hole e15 2) (nth hole e15 3) (nth hole e15 4) (nth hole e15 5) (nth hole e15 6) (nth hole e15 7) (nth hole e15 8) (nth hole e15 9) (nth hole e15 10) (nth hole e15 11) (nth hole e15 12) (nth hole e15 13) (cell (comp v16 0) 1) (cell (comp v16 0) 2) (cell (comp v16 0) 3) (cell (comp v16 0) 4) (cell (comp v16 0) 5) (cell (comp v16 0) 6) (cell (comp v16 0) 7) (cell (comp v16 0) 8) (cell (comp v16 0) 9) (cell (comp v16 0) 10) (cell (comp v16 0) 11) (cell (comp v16 0) 12) (cell (comp v16 0) 13) (cell (comp v16 0) 14) (cell (comp v16 0) 15) (cell (comp v16 0) 16) (cell (comp v16 0) 19) (cell (comp v16 0) 20) (cell (comp v6 0) 0) hole hole hole hole hole hole hole hole hole hole hole hole hole hole hole hole (cell (comp v6 0) 17) (cell (comp v6 0) 18) hole hole hole (cell (comp v16 0) 0) hole hole hole hole hole hole hole hole hole hole hole hole hole hole hole hole (cell (comp v16 0) 17) (cell (comp v16 0) 18) hole hole hole)))))))))))))))))))
def f6_0  (x0 y1 y2 y3 y4 y5 y6 y7 y8 y9 y10 y11 y12 y13 y14 y15 y16 y17 y18 y19 y20 y21 y22 : TV) (k23 : Nat) (y24 y25 y26 y27 y28 y29 y30 y31 y32 y33 y34 y35 y36 y37 y38 y39 y40 y41 y42 y43 y44 y45 y46 y47 y48 y49 y50 y51 y52 y53 y54 y55 y56 w57 w58 w59 w60 w61 w62 w63 w64 w65 w66 w67 w68 w69 w70 w71 w72 w73 w74 w75 w76 w77 w78 w79 w80 w81 w82 w83 w84 w85 w86 w87 w88 w89 w90 w91 w92 w93 w94 w95 w96 w97 w98 w99 w100 : TV) : Prg TV :=
 tv (pbin (.int .i64) .add x0 (I 1)) fun v18 =>
 tv (plen (.slice 47) w79) fun v19 =>
 tv (pbin (.int .i64) .lss v18 v19) fun v20 =>
 Prg.ite (asBool v20) (
 tv (plen (.slice 47) w57) fun v21 =>
 tv (pbin (.int .i64) .lss x0 v21) fun v22 =>
 Prg.ite (asBool v22) (
 nat (slLen w57) fun n23 =>
 nat (asNat x0) fun n24 =>
 chk (Bool.and (slSize w57 5) (Nat.blt n24 n23)) (
 tvs (pel w57 n24) fun e25 =>
 chk (fitsAt z46 e25 0) (
 nat (slLen w79) fun n26 =>
 nat (asNat x0) fun n27 =>
 chk (Bool.and (slSize w79 5) (Nat.blt n27 n26)) (
 tvs (pel w79 n27) fun e28 =>
 chk (fitsAt z46 e28 0) (
 tv (getP [(n24, 3)] w57) fun v29 =>
 tv (getP [(n27, 3)] w79) fun v30 =>
 call 21 [agg [nth hole e25 0, nth hole e25 1, nth hole e25 2, frz v29, nth hole e25 4], agg [nth hole e28 0, nth hole e28 1, nth hole e28 2, frz v30, nth hole e28 4]] fun v31 =>
 chk (fitsAt zBool [v31] 0) (
 tv (pun .not v31) fun v32 =>
 Prg.ite (asBool v32) (
 ret (B false)) (
 tv (pbin (.int .i64) .add x0 (I 1)) fun v33 =>
 jmp [0, 0, 1, 0, 1, 1, 1, 1, 1, 1, 1, 1, 1] (f6_0_S v33 y1 y2 y3 y4 y5 y6 y7 y8 y9 y10 y11 y12 y13 y14 y15 y16 y17 y18 y19 y20 y21 y22 k23 y24 y25 y26 y27 y28 y29 y30 y31 y32 y33 y34 y35 y36 y37 y38 y39 y40 y41 y42 y43 y44 y45 y46 y47 y48 y49 y50 y51 y52 y53 y54 y55 y56 w57 w58 w59 w60 w61 w62 w63 w64 w65 w66 w67 w68 w69 w70 w71 w72 w73 w74 w75 w76 w77 w78 w79 w80 w81 w82 w83 w84 w85 w86 w87 w88 w89 w90 w91 w92 w93 w94 w95 w96 w97 w98 w99 w100)))))))) (
 jmp [1, 1, 1, 1, 1, 1, 1, 1, 1, 1] (f6_1_S y1 y2 y3 y4 y5 y6 y7 y8 y9 y10 y11 y12 y13 y14 y15 y16 y17 y18 y19 y20 y21 y22 k23 y24 y25 y26 y27 y28 y29 y30 y31 y32 y33 y34 y35 y36 y37 y38 y39 y40 y41 y42 y43 y44 y45 y46 y47 y48 y49 y50 y51 y52 y53 y54 y55 y56 w57 w58 w59 w60 w61 w62 w63 w64 w65 w66 w67 w68 w69 w70 w71 w72 w73 w74 w75 w76 w77 w78 w79 w80 w81 w82 w83 w84 w85 w86 w87 w88 w89 w90 w91 w92 w93 w94 w95 w96 w97 w98 w99 w100))) (
 jmp [1, 1, 1, 1, 1, 1, 1, 1, 1, 1] (f6_1_S y1 y2 y3 y4 y5 y6 y7 y8 y9 y10 y11 y12 y13 y14 y15 y16 y17 y18 y19 y20 y21 y22 k23 y24 y25 y26 y27 y28 y29 y30 y31 y32 y33 y34 y35 y36 y37 y38 y39 y40 y41 y42 y43 y44 y45 y46 y47 y48 y49 y50 y51 y52 y53 y54 y55 y56 w57 w58 w59 w60 w61 w62 w63 w64 w65 w66 w67 w68 w69 w70 w71 w72 w73 w74 w75 w76 w77 w78 w79 w80 w81 w82 w83 w84 w85 w86 w87 w88 w89 w90 w91 w92 w93 w94 w95 w96 w97 w98 w99 w100))
def f6_1  (y0 y1 y2 y3 y4 y5 y6 y7 y8 y9 y10 y11 y12 y13 y14 y15 y16 y17 y18 y19 y20 y21 : TV) (k22 : Nat) (y23 y24 y25 y26 y27 y28 y29 y30 y31 y32 y33 y34 y35 y36 y37 y38 y39 y40 y41 y42 y43 y44 y45 y46 y47 y48 y49 y50 y51 y52 y53 y54 y55 w56 w57 w58 w59 w60 w61 w62 w63 w64 w65 w66 w67 w68 w69 w70 w71 w72 w73 w74 w75 w76 w77 w78 w79 w80 w81 w82 w83 w84 w85 w86 w87 w88 w89 w90 w91 w92 w93 w94 w95 w96 w97 w98 w99 : TV) : Prg TV :=
 tv (plen (.slice 70) y29) fun v34 =>
 tv (pbin (.int .i64) .lss y21 v34) fun v35 =>
 Prg.ite (asBool v35) (
 jmp [1, 0, 1, 1, 1, 1, 1, 1, 1, 1, 1, 1] (f6_2_S (B true) y0 y1 y2 y3 y4 y5 y6 y7 y8 y9 y10 y11 y12 y13 y14 y15 y16 y17 y18 y19 y20 y21 k22 y23 y24 y25 y26 y27 y28 y29 y30 y31 y32 y33 y34 y35 y36 y37 y38 y39 y40 y41 y42 y43 y44 y45 y46 y47 y48 y49 y50 y51 y52 y53 y54 y55 w56 w57 w58 w59 w60 w61 w62 w63 w64 w65 w66 w67 w68 w69 w70 w71 w72 w73 w74 w75 w76 w77 w78 w79 w80 w81 w82 w83 w84 w85 w86 w87 w88 w89 w90 w91 w92 w93 w94 w95 w96 w97 w98 w99)) (
 tv (pbin (.int .i64) .neq y30 (I 5)) fun v36 =>
 Prg.ite (asBool v36) (
 tv (pbin (.int .i64) .neq y30 (I 6)) fun v37 =>
 jmp [1, 0, 1, 1, 1, 1, 1, 1, 1, 1, 1, 1] (f6_2_S v37 y0 y1 y2 y3 y4 y5 y6 y7 y8 y9 y10 y11 y12 y13 y14 y15 y16 y17 y18 y19 y20 y21 k22 y23 y24 y25 y26 y27 y28 y29 y30 y31 y32 y33 y34 y35 y36 y37 y38 y39 y40 y41 y42 y43 y44 y45 y46 y47 y48 y49 y50 y51 y52 y53 y54 y55 w56 w57 w58 w59 w60 w61 w62 w63 w64 w65 w66 w67 w68 w69 w70 w71 w72 w73 w74 w75 w76 w77 w78 w79 w80 w81 w82 w83 w84 w85 w86 w87 w88 w89 w90 w91 w92 w93 w94 w95 w96 w97 w98 w99)) (
 jmp [1, 0, 1, 1, 1, 1, 1, 1, 1, 1, 1, 1] (f6_2_S (B false) y0 y1 y2 y3 y4 y5 y6 y7 y8 y9 y10 y11 y12 y13 y14 y15 y16 y17 y18 y19 y20 y21 k22 y23 y24 y25 y26 y27 y28 y29 y30 y31 y32 y33 y34 y35 y36 y37 y38 y39 y40 y41 y42 y43 y44 y45 y46 y47 y48 y49 y50 y51 y52 y53 y54 y55 w56 w57 w58 w59 w60 w61 w62 w63 w64 w65 w66 w67 w68 w69 w70 w71 w72 w73 w74 w75 w76 w77 w78 w79 w80 w81 w82 w83 w84 w85 w86 w87 w88 w89 w90 w91 w92 w93 w94 w95 w96 w97 w98 w99)))
def f6_2  (x0 y1 y2 y3 y4 y5 y6 y7 y8 y9 y10 y11 y12 y13 y14 y15 y16 y17 y18 y19 y20 y21 y22 : TV) (k23 : Nat) (y24 y25 y26 y27 y28 y29 y30 y31 y32 y33 y34 y35 y36 y37 y38 y39 y40 y41 y42 y43 y44 y45 y46 y47 y48 y49 y50 y51 y52 y53 y54 y55 y56 w57 w58 w59 w60 w61 w62 w63 w64 w65 w66 w67 w68 w69 w70 w71 w72 w73 w74 w75 w76 w77 w78 w79 w80 w81 w82 w83 w84 w85 w86 w87 w88 w89 w90 w91 w92 w93 w94 w95 w96 w97 w98 w99 w100 : TV) : Prg TV :=
 Prg.ite (asBool x0) (
 tv (pbin (.int .i64) .neq y55 (I 2)) fun v38 =>
 ret v38) (
 tv (pbin (.int .i64) .eql y31 (I 5)) fun v39 =>
 Prg.ite (asBool v39) (
 tv (getP [(k23, 3)] w57) fun v40 =>
 nat (slLen v40) fun n41 =>
 nat (asNat y32) fun n42 =>
 chk (Bool.and (slSize v40 1) (Nat.blt n42 n41)) (
 tv (getP [(k23, 3)] w57) fun v43 =>
 tvs (pel v43 n42) fun e44 =>
 chk (fitsAt zWord e44 0) (
 tv (pbin (.int .i64) .eql y55 (I 2)) fun v45 =>
 jmp [1, 0, 1, 1, 1, 1, 1, 1, 1, 1, 1, 1, 1, 1, 1] (f6_3_S (nth hole e44 0) v45 y1 y2 y3 y4 y5 y6 y7 y8 y9 y10 y11 y12 y13 y14 y15 y16 y17 y18 y19 y39 y40 y41 y42 y43 y44 y45 y46 y47 y48 y49 y50 y51 y52 y53 y54 y55 y56 w57 w58 w59 w60 w61 w62 w63 w64 w65 w66 w67 w68 w69 w70 w71 w72 w73 w74 w75 w76 w77 w78 w79 w80 w81 w82 w83 w84 w85 w86 w87 w88 w89 w90 w91 w92 w93 w94 w95 w96 w97 w98 w99 w100)))) (
 tv (pbin (.int .i64) .eql y55 (I 2)) fun v46 =>
 jmp [1, 0, 1, 1, 1, 1, 1, 1, 1, 1, 1, 1, 1, 1, 1] (f6_3_S y24 v46 y1 y2 y3 y4 y5 y6 y7 y8 y9 y10 y11 y12 y13 y14 y15 y16 y17 y18 y19 y39 y40 y41 y42 y43 y44 y45 y46 y47 y48 y49 y50 y51 y52 y53 y54 y55 y56 w57 w58 w59 w60 w61 w62 w63 w64 w65 w66 w67 w68 w69 w70 w71 w72 w73 w74 w75 w76 w77 w78 w79 w80 w81 w82 w83 w84 w85 w86 w87 w88 w89 w90 w91 w92 w93 w94 w95 w96 w97 w98 w99 w100)))
def f6_3  (x0 x1 y2 y3 y4 y5 y6 y7 y8 y9 y10 y11 y12 y13 y14 y15 y16 y17 y18 y19 y20 y21 y22 y23 y24 y25 y26 y27 y28 y29 y30 y31 y32 y33 y34 y35 y36 y37 y38 w39 w40 w41 w42 w43 w44 w45 w46 w47 w48 w49 w50 w51 w52 w53 w54 w55 w56 w57 w58 w59 w60 w61 w62 w63 w64 w65 w66 w67 w68 w69 w70 w71 w72 w73 w74 w75 w76 w77 w78 w79 w80 w81 w82 : TV) : Prg TV :=
 Prg.ite (asBool x1) (
 tv (pbin (.int .u16) .eql y38 x0) fun v47 =>
 Prg.ite (asBool v47) (
 tv (plen (.slice 47) w61) fun v48 =>
 tv (plen (.slice 47) w39) fun v49 =>
 tv (pbin (.int .i64) .sub v49 (I 1)) fun v50 =>
 tv (pbin (.int .i64) .eql v48 v50) fun v51 =>
 ret v51) (
 ret (B false))) (
 tv (plen (.slice 47) w61) fun v52 =>
 tv (pbin (.int .i64) .sub v52 (I 1)) fun v53 =>
 tv (pbin (.int .i64) .eql y37 (I 0)) fun v54 =>
 Prg.ite (asBool v54) (
 tv (pbin (.int .i64) .geq v53 (I 0)) fun v55 =>
 Prg.ite (asBool v55) (
 tv (plen (.slice 47) w39) fun v56 =>
 tv (pbin (.int .i64) .sub v56 (I 1)) fun v57 =>
 tv (pbin (.int .i64) .lss v53 v57) fun v58 =>
 Prg.ite (asBool v58) (
 nat (slLen w61) fun n59 =>
 nat (asNat v53) fun n60 =>
 chk (Bool.and (slSize w61 5) (Nat.blt n60 n59)) (
 tvs (pel w61 n60) fun e61 =>
 chk (fitsAt zWord e61 4) (
 tv (pbin (.int .u16) .eql (nth hole e61 4) x0) fun v62 =>
 Prg.ite (asBool v62) (
 nat (slLen w61) fun n63 =>
 nat (asNat v53) fun n64 =>
 chk (Bool.and (slSize w61 5) (Nat.blt n64 n63)) (
 tvs (pel w61 n64) fun e65 =>
 chk (fitsAt zInt e65 2) (
 tv (pbin (.int .i64) .eql (nth hole e65 2) (I 0)) fun v66 =>
 Prg.ite (asBool v66) (
 nat (slLen w61) fun n67 =>
 nat (asNat v53) fun n68 =>
 chk (Bool.and (slSize w61 5) (Nat.blt n68 n67)) (
 tvs (pel w61 n68) fun e69 =>
 chk (fitsAt zInt e69 0) (
 tvs (pidx 3 y2 (nth hole e69 0)) fun e70 =>
 chk (Nat.blt 2 (List.length e70)) (
 nat (slLen w61) fun n71 =>
 nat (asNat v53) fun n72 =>
 chk (Bool.and (slSize w61 5) (Nat.blt n72 n71)) (
 tvs (pel w61 n72) fun e73 =>
 chk (fitsAt zInt e73 1) (
 tvs (pidx 14 (nth hole e70 2) (nth hole e73 1)) fun e74 =>
 chk (Nat.blt 0 (List.length e74)) (
 ret (nth hole e74 0)))))))) (
 ret (B false))))) (
 ret (B false))))) (
 ret (B false))) (
 ret (B false))) (
 ret (B false)))
theorem f6_MR (x0 x1 x2 : TV) : startQ prog 6 [x0, x1, x2] = f6_M x0 x1 x2 := by kernel_rfl
theorem f6_0_J  {x0 y1 y2 y3 y4 y5 y6 y7 y8 y9 y10 y11 y12 y13 y14 y15 y16 y17 y18 y19 y20 y21 y22 : TV} {k23 : Nat} {y24 y25 y26 y27 y28 y29 y30 y31 y32 y33 y34 y35 y36 y37 y38 y39 y40 y41 y42 y43 y44 y45 y46 y47 y48 y49 y50 y51 y52 y53 y54 y55 y56 w57 w58 w59 w60 w61 w62 w63 w64 w65 w66 w67 w68 w69 w70 w71 w72 w73 w74 w75 w76 w77 w78 w79 w80 w81 w82 w83 w84 w85 w86 w87 w88 w89 w90 w91 w92 w93 w94 w95 w96 w97 w98 w99 w100 : TV} {r : TV} (h : Goes prog 6 (f6_0 x0 y1 y2 y3 y4 y5 y6 y7 y8 y9 y10 y11 y12 y13 y14 y15 y16 y17 y18 y19 y20 y21 y22 k23 y24 y25 y26 y27 y28 y29 y30 y31 y32 y33 y34 y35 y36 y37 y38 y39 y40 y41 y42 y43 y44 y45 y46 y47 y48 y49 y50 y51 y52 y53 y54 y55 y56 w57 w58 w59 w60 w61 w62 w63 w64 w65 w66 w67 w68 w69 w70 w71 w72 w73 w74 w75 w76 w77 w78 w79 w80 w81 w82 w83 w84 w85 w86 w87 w88 w89 w90 w91 w92 w93 w94 w95 w96 w97 w98 w99 w100) r) : Goes prog 6 (.jmp [0, 0, 1, 0, 1, 1, 1, 1, 1, 1, 1, 1, 1] (f6_0_S x0 y1 y2 y3 y4 y5 y6 y7 y8 y9 y10 y11 y12 y13 y14 y15 y16 y17 y18 y19 y20 y21 y22 k23 y24 y25 y26 y27 y28 y29 y30 y31 y32 y33 y34 y35 y36 y37 y38 y39 y40 y41 y42 y43 y44 y45 y46 y47 y48 y49 y50 y51 y52 y53 y54 y55 y56 w57 w58 w59 w60 w61 w62 w63 w64 w65 w66 w67 w68 w69 w70 w71 w72 w73 w74 w75 w76 w77 w78 w79 w80 w81 w82 w83 w84 w85 w86 w87 w88 w89 w90 w91 w92 w93 w94 w95 w96 w97 w98 w99 w100)) r := Goes.jmp (by kernel_rfl) h
theorem f6_1_J  {y0 y1 y2 y3 y4 y5 y6 y7 y8 y9 y10 y11 y12 y13 y14 y15 y16 y17 y18 y19 y20 y21 : TV} {k22 : Nat} {y23 y24 y25 y26 y27 y28 y29 y30 y31 y32 y33 y34 y35 y36 y37 y38 y39 y40 y41 y42 y43 y44 y45 y46 y47 y48 y49 y50 y51 y52 y53 y54 y55 w56 w57 w58 w59 w60 w61 w62 w63 w64 w65 w66 w67 w68 w69 w70 w71 w72 w73 w74 w75 w76 w77 w78 w79 w80 w81 w82 w83 w84 w85 w86 w87 w88 w89 w90 w91 w92 w93 w94 w95 w96 w97 w98 w99 : TV} {r : TV} (h : Goes prog 6 (f6_1 y0 y1 y2 y3 y4 y5 y6 y7 y8 y9 y10 y11 y12 y13 y14 y15 y16 y17 y18 y19 y20 y21 k22 y23 y24 y25 y26 y27 y28 y29 y30 y31 y32 y33 y34 y35 y36 y37 y38 y39 y40 y41 y42 y43 y44 y45 y46 y47 y48 y49 y50 y51 y52 y53 y54 y55 w56 w57 w58 w59 w60 w61 w62 w63 w64 w65 w66 w67 w68 w69 w70 w71 w72 w73 w74 w75 w76 w77 w78 w79 w80 w81 w82 w83 w84 w85 w86 w87 w88 w89 w90 w91 w92 w93 w94 w95 w96 w97 w98 w99) r) : Goes prog 6 (.jmp [1, 1, 1, 1, 1, 1, 1, 1, 1, 1] (f6_1_S y0 y1 y2 y3 y4 y5 y6 y7 y8 y9 y10 y11 y12 y13 y14 y15 y16 y17 y18 y19 y20 y21 k22 y23 y24 y25 y26 y27 y28 y29 y30 y31 y32 y33 y34 y35 y36 y37 y38 y39 y40 y41 y42 y43 y44 y45 y46 y47 y48 y49 y50 y51 y52 y53 y54 y55 w56 w57 w58 w59 w60 w61 w62 w63 w64 w65 w66 w67 w68 w69 w70 w71 w72 w73 w74 w75 w76 w77 w78 w79 w80 w81 w82 w83 w84 w85 w86 w87 w88 w89 w90 w91 w92 w93 w94 w95 w96 w97 w98 w99)) r := Goes.jmp (by kernel_rfl) h
theorem f6_2_J  {x0 y1 y2 y3 y4 y5 y6 y7 y8 y9 y10 y11 y12 y13 y14 y15 y16 y17 y18 y19 y20 y21 y22 : TV} {k23 : Nat} {y24 y25 y26 y27 y28 y29 y30 y31 y32 y33 y34 y35 y36 y37 y38 y39 y40 y41 y42 y43 y44 y45 y46 y47 y48 y49 y50 y51 y52 y53 y54 y55 y56 w57 w58 w59 w60 w61 w62 w63 w64 w65 w66 w67 w68 w69 w70 w71 w72 w73 w74 w75 w76 w77 w78 w79 w80 w81 w82 w83 w84 w85 w86 w87 w88 w89 w90 w91 w92 w93 w94 w95 w96 w97 w98 w99 w100 : TV} {r : TV} (h : Goes prog 6 (f6_2 x0 y1 y2 y3 y4 y5 y6 y7 y8 y9 y10 y11 y12 y13 y14 y15 y16 y17 y18 y19 y20 y21 y22 k23 y24 y25 y26 y27 y28 y29 y30 y31 y32 y33 y34 y35 y36 y37 y38 y39 y40 y41 y42 y43 y44 y45 y46 y47 y48 y49 y50 y51 y52 y53 y54 y55 y56 w57 w58 w59 w60 w61 w62 w63 w64 w65 w66 w67 w68 w69 w70 w71 w72 w73 w74 w75 w76 w77 w78 w79 w80 w81 w82 w83 w84 w85 w86 w87 w88 w89 w90 w91 w92 w93 w94 w95 w96 w97 w98 w99 w100) r) : Goes prog 6 (.jmp [1, 0, 1, 1, 1, 1, 1, 1, 1, 1, 1, 1] (f6_2_S x0 y1 y2 y3 y4 y5 y6 y7 y8 y9 y10 y11 y12 y13 y14 y15 y16 y17 y18 y19 y20 y21 y22 k23 y24 y25 y26 y27 y28 y29 y30 y31 y32 y33 y34 y35 y36 y37 y38 y39 y40 y41 y42 y43 y44 y45 y46 y47 y48 y49 y50 y51 y52 y53 y54 y55 y56 w57 w58 w59 w60 w61 w62 w63 w64 w65 w66 w67 w68 w69 w70 w71 w72 w73 w74 w75 w76 w77 w78 w79 w80 w81 w82 w83 w84 w85 w86 w87 w88 w89 w90 w91 w92 w93 w94 w95 w96 w97 w98 w99 w100)) r := Goes.jmp (by kernel_rfl) h
theorem f6_3_J  {x0 x1 y2 y3 y4 y5 y6 y7 y8 y9 y10 y11 y12 y13 y14 y15 y16 y17 y18 y19 y20 y21 y22 y23 y24 y25 y26 y27 y28 y29 y30 y31 y32 y33 y34 y35 y36 y37 y38 w39 w40 w41 w42 w43 w44 w45 w46 w47 w48 w49 w50 w51 w52 w53 w54 w55 w56 w57 w58 w59 w60 w61 w62 w63 w64 w65 w66 w67 w68 w69 w70 w71 w72 w73 w74 w75 w76 w77 w78 w79 w80 w81 w82 : TV} {r : TV} (h : Goes prog 6 (f6_3 x0 x1 y2 y3 y4 y5 y6 y7 y8 y9 y10 y11 y12 y13 y14 y15 y16 y17 y18 y19 y20 y21 y22 y23 y24 y25 y26 y27 y28 y29 y30 y31 y32 y33 y34 y35 y36 y37 y38 w39 w40 w41 w42 w43 w44 w45 w46 w47 w48 w49 w50 w51 w52 w53 w54 w55 w56 w57 w58 w59 w60 w61 w62 w63 w64 w65 w66 w67 w68 w69 w70 w71 w72 w73 w74 w75 w76 w77 w78 w79 w80 w81 w82) r) : Goes prog 6 (.jmp [1, 0, 1, 1, 1, 1, 1, 1, 1, 1, 1, 1, 1, 1, 1] (f6_3_S x0 x1 y2 y3 y4 y5 y6 y7 y8 y9 y10 y11 y12 y13 y14 y15 y16 y17 y18 y19 y20 y21 y22 y23 y24 y25 y26 y27 y28 y29 y30 y31 y32 y33 y34 y35 y36 y37 y38 w39 w40 w41 w42 w43 w44 w45 w46 w47 w48 w49 w50 w51 w52 w53 w54 w55 w56 w57 w58 w59 w60 w61 w62 w63 w64 w65 w66 w67 w68 w69 w70 w71 w72 w73 w74 w75 w76 w77 w78 w79 w80 w81 w82)) r := Goes.jmp (by kernel_rfl) h
def f12_M (x0 x1 : TV) : Prg TV :=
 chk (TV.isAgg x0 1) (
 call 34 [agg [cell x0 0]] fun v0 =>
 chk (fitsAt zBool [v0] 0) (
 Prg.ite (asBool v0) (
 tv (plen (.slice 29) x1) fun v1 =>
 tv (pbin (.int .i64) .leq v1 (I 30)) fun v2 =>
 ret v2) (
 ret (B false))))
theorem f12_MR (x0 x1 : TV) : startQ prog 12 [x0, x1] = f12_M x0 x1 := by kernel_rfl
def f13_0_S  (x0 y1 y2 y3 y4 y5 y6 y7 y8 y9 y10 y11 y12 y13 y14 y15 y16 y17 y18 w19 w20 w21 w22 w23 w24 w25 w26 w27 w28 w29 w30 w31 w32 w33 w34 w35 w36 w37 w38 w39 w40 w41 : TV) : ASt := ⟨[AV.one CA.junk, AV.one CA.junk, AV.tv x0, AV.one CA.junk, AV.one CA.junk, AV.one CA.junk, AV.one (CA.ptr 0 0), AV.one CA.junk, AV.one CA.junk, AV.one CA.junk, AV.one (CA.ptr 1 0)] ++ List.replicate 29 (AV.one CA.junk), [some (BC.cells [CA.junk, CA.junk, CA.junk, CA.junk, CA.junk, CA.junk, CA.junk, CA.junk, CA.junk, CA.junk, CA.junk, CA.junk, CA.junk, CA.junk, CA.junk, CA.junk, CA.junk, CA.junk, CA.junk, CA.junk, CA.junk]), some (BC.cells [CA.sref 2 0 [], CA.t y1, CA.t y2, CA.t y3, CA.t y4, CA.t y5, CA.t y6, CA.t y7, CA.t y8, CA.t y9, CA.t y10, CA.t y11, CA.t y12, CA.t y13, CA.t y14, CA.t y15, CA.t y16, CA.sref 2 17 [], CA.sref 2 18 [], CA.t y17, CA.t y18, CA.sref 3 0 []]), some (BC.tree [w19, w20, w21, w22, w23, w24, w25, w26, w27, w28, w29, w30, w31, w32, w33, w34, w35, w36, w37, w38, w39, w40]), some (BC.tree [w41])] ++ List.replicate 60 (none), []⟩
def f13_1_S  (y0 y1 y2 y3 y4 y5 y6 y7 y8 y9 y10 y11 y12 y13 y14 y15 y16 y17 w18 w19 w20 w21 w22 w23 w24 w25 w26 w27 w28 w29 w30 w31 w32 w33 w34 w35 w36 w37 w38 w39 w40 : TV) : ASt := ⟨List.replicate 6 (AV.one CA.junk) ++ [AV.one (CA.ptr 0 0), AV.one CA.junk, AV.one CA.junk, AV.one CA.junk, AV.one (CA.ptr 1 0)] ++ List.replicate 29 (AV.one CA.junk), [some (BC.cells [CA.junk, CA.junk, CA.junk, CA.junk, CA.junk, CA.junk, CA.junk, CA.junk, CA.junk, CA.junk, CA.junk, CA.junk, CA.junk, CA.junk, CA.junk, CA.junk, CA.junk, CA.junk, CA.junk, CA.junk, CA.junk]), some (BC.cells [CA.sref 2 0 [], CA.t y0, CA.t y1, CA.t y2, CA.t y3, CA.t y4, CA.t y5, CA.t y6, CA.t y7, CA.t y8, CA.t y9, CA.t y10, CA.t y11, CA.t y12, CA.t y13, CA.t y14, CA.t y15, CA.sref 2 17 [], CA.sref 2 18 [], CA.t y16, CA.t y17, CA.sref 3 0 []]), some (BC.tree [w18, w19, w20, w21, w22, w23, w24, w25, w26, w27, w28, w29, w30, w31, w32, w33, w34, w35, w36, w37, w38, w39]), some (BC.tree [w40])] ++ List.replicate 60 (none), []⟩
def f13_M (x0 x1 x2 : TV) : Prg TV :=
 chk (TV.isAgg x0 1) (
 call 35 [agg [cell x0 0], x1] fun v0 =>
 chk (isTup v0 2) (
 chk (Bool.and (TV.isAgg (comp v0 0) 21) (fitsAt z32 (cellsL true (comp v0 0)) 0)) (
 chk (fitsAt zInt [comp v0 1] 0) (
 tv (pbin (.int .i64) .neq (comp v0 1) (I 0)) fun v1 =>
 Prg.ite (asBool v1) (
 chk true (
 ret (tup [agg [TV.lit nilV, W 0, W 0, W 0, W 0, W 0, W 0, W 0, W 0, W 0, W 0, W 0, W 0, W 0, W 0, W 0, W 0, TV.lit nilV, TV.lit nilV, I 0, W 0], I 1]))) (
 tv (pbin (.int .i64) .gtr x2 (I 1048576)) fun v2 =>
 Prg.ite (asBool v2) (
 chk true (
 ret (tup [agg [TV.lit nilV, W 0, W 0, W 0, W 0, W 0, W 0, W 0, W 0, W 0, W 0, W 0, W 0, W 0, W 0, W 0, W 0, TV.lit nilV, TV.lit nilV, I 0, W 0], I 1]))) (
 chk (isSl (cell x0 0)) (
 jmp [0, 0, 0, 1, 1, 1, 1] (f13_0_S x2 (cell (comp v0 0) 1) (cell (comp v0 0) 2) (cell (comp v0 0) 3) (cell (comp v0 0) 4) (cell (comp v0 0) 5) (cell (comp v0 0) 6) (cell (comp v0 0) 7) (cell (comp v0 0) 8) (cell (comp v0 0) 9) (cell (comp v0 0) 10) (cell (comp v0 0) 11) (cell (comp v0 0) 12) (cell (comp v0 0) 13) (cell (comp v0 0) 14) (cell (comp v0 0) 15) (cell (comp v0 0) 16) (cell (comp v0 0) 19) (cell (comp v0 0) 20) (cell (comp v0 0) 0) hole hole hole hole hole hole hole hole hole hole hole hole hole hole hole hole (cell (comp v0 0) 17) (cell (comp v0 0) 18) hole hole hole (cell x0 0)))))))))
def f13_0  (x0 y1 y2 y3 y4 y5 y6 y7 y8 y9 y10 y11 y12 y13 y14 y15 y16 y17 y18 w19 w20 w21 w22 w23 w24 w25 w26 w27 w28 w29 w30 w31 w32 w33 w34 w35 w36 w37 w38 w39 w40 w41 : TV) : Prg TV :=
 tv (pbin (.int .i64) .gtr x0 (I 0)) fun v3 =>
 Prg.ite (asBool v3) (
 tv (pbin (.int .i64) .eql y17 (I 0)) fun v4 =>
 Prg.ite (asBool v4) (
 chk (Bool.and (isSl w19) (Bool.and (isSc y1) (Bool.and (isSc y2) (Bool.and (isSc y3) (Bool.and (isSc y4) (Bool.and (isSc y5) (Bool.and (isSc y6) (Bool.and (isSc y7) (Bool.and (isSc y8) (Bool.and (isSc y9) (Bool.and (isSc y10) (Bool.and (isSc y11) (Bool.and (isSc y12) (Bool.and (isSc y13) (Bool.and (isSc y14) (Bool.and (isSc y15) (Bool.and (isSc y16) (Bool.and (isSl w36) (Bool.and (isSl w37) (Bool.and (isSc y17) (Bool.and (isSc y18) (Bool.and (isSl w41) true)))))))))))))))))))))) (
 call 36 [tup [w19, y1, y2, y3, y4, y5, y6, y7, y8, y9, y10, y11, y12, y13, y14, y15, y16, w36, w37, y17, y18, w41]] fun v5 =>
 chk (Bool.and (Bool.and (isTup v5 2) (isTup (comp v5 1) 22)) (Bool.and (isSl (comp (comp v5 1) 0)) (Bool.and (isSc (comp (comp v5 1) 1)) (Bool.and (isSc (comp (comp v5 1) 2)) (Bool.and (isSc (comp (comp v5 1) 3)) (Bool.and (isSc (comp (comp v5 1) 4)) (Bool.and (isSc (comp (comp v5 1) 5)) (Bool.and (isSc (comp (comp v5 1) 6)) (Bool.and (isSc (comp (comp v5 1) 7)) (Bool.and (isSc (comp (comp v5 1) 8)) (Bool.and (isSc (comp (comp v5 1) 9)) (Bool.and (isSc (comp (comp v5 1) 10)) (Bool.and (isSc (comp (comp v5 1) 11)) (Bool.and (isSc (comp (comp v5 1) 12)) (Bool.and (isSc (comp (comp v5 1) 13)) (Bool.and (isSc (comp (comp v5 1) 14)) (Bool.and (isSc (comp (comp v5 1) 15)) (Bool.and (isSc (comp (comp v5 1) 16)) (Bool.and (isSl (comp (comp v5 1) 17)) (Bool.and (isSl (comp (comp v5 1) 18)) (Bool.and (isSc (comp (comp v5 1) 19)) (Bool.and (isSc (comp (comp v5 1) 20)) (Bool.and (isSl (comp (comp v5 1) 21)) true))))))))))))))))))))))) (
 chk (isTup (comp v5 0) 0) (
 tv (pbin (.int .i64) .sub x0 (I 1)) fun v6 =>
 jmp [0, 0, 0, 1, 1, 1, 1] (f13_0_S v6 (comp (comp v5 1) 1) (comp (comp v5 1) 2) (comp (comp v5 1) 3) (comp (comp v5 1) 4) (comp (comp v5 1) 5) (comp (comp v5 1) 6) (comp (comp v5 1) 7) (comp (comp v5 1) 8) (comp (comp v5 1) 9) (comp (comp v5 1) 10) (comp (comp v5 1) 11) (comp (comp v5 1) 12) (comp (comp v5 1) 13) (comp (comp v5 1) 14) (comp (comp v5 1) 15) (comp (comp v5 1) 16) (comp (comp v5 1) 19) (comp (comp v5 1) 20) (comp (comp v5 1) 0) hole hole hole hole hole hole hole hole hole hole hole hole hole hole hole hole (comp (comp v5 1) 17) (comp (comp v5 1) 18) hole hole hole (comp (comp v5 1) 21)))))) (
 jmp [1, 1, 1, 1, 1] (f13_1_S y1 y2 y3 y4 y5 y6 y7 y8 y9 y10 y11 y12 y13 y14 y15 y16 y17 y18 w19 w20 w21 w22 w23 w24 w25 w26 w27 w28 w29 w30 w31 w32 w33 w34 w35 w36 w37 w38 w39 w40 w41))) (
 jmp [1, 1, 1, 1, 1] (f13_1_S y1 y2 y3 y4 y5 y6 y7 y8 y9 y10 y11 y12 y13 y14 y15 y16 y17 y18 w19 w20 w21 w22 w23 w24 w25 w26 w27 w28 w29 w30 w31 w32 w33 w34 w35 w36 w37 w38 w39 w40 w41))
def f13_1  (y0 y1 y2 y3 y4 y5 y6 y7 y8 y9 y10 y11 y12 y13 y14 y15 y16 y17 w18 w19 w20 w21 w22 w23 w24 w25 w26 w27 w28 w29 w30 w31 w32 w33 w34 w35 w36 w37 w38 w39 w40 : TV) : Prg TV :=
 chk (isOwnL [agg [w18, y0, y1, y2, y3, y4, y5, y6, y7, y8, y9, y10, y11, y12, y13, y14, y15, w35, w36, y16, y17], I 0]) (
 ret (tup [agg [w18, y0, y1, y2, y3, y4, y5, y6, y7, y8, y9, y10, y11, y12, y13, y14, y15, w35, w36, y16, y17], I 0]))
theorem f13_MR (x0 x1 x2 : TV) : startQ prog 13 [x0, x1, x2] = f13_M x0 x1 x2 := by kernel_rfl
theorem f13_0_J  {x0 y1 y2 y3 y4 y5 y6 y7 y8 y9 y10 y11 y12 y13 y14 y15 y16 y17 y18 w19 w20 w21 w22 w23 w24 w25 w26 w27 w28 w29 w30 w31 w32 w33 w34 w35 w36 w37 w38 w39 w40 w41 : TV} {r : TV} (h : Goes prog 13 (f13_0 x0 y1 y2 y3 y4 y5 y6 y7 y8 y9 y10 y11 y12 y13 y14 y15 y16 y17 y18 w19 w20 w21 w22 w23 w24 w25 w26 w27 w28 w29 w30 w31 w32 w33 w34 w35 w36 w37 w38 w39 w40 w41) r) : Goes prog 13 (.jmp [0, 0, 0, 1, 1, 1, 1] (f13_0_S x0 y1 y2 y3 y4 y5 y6 y7 y8 y9 y10 y11 y12 y13 y14 y15 y16 y17 y18 w19 w20 w21 w22 w23 w24 w25 w26 w27 w28 w29 w30 w31 w32 w33 w34 w35 w36 w37 w38 w39 w40 w41)) r := Goes.jmp (by kernel_rfl) h
theorem f13_1_J  {y0 y1 y2 y3 y4 y5 y6 y7 y8 y9 y10 y11 y12 y13 y14 y15 y16 y17 w18 w19 w20 w21 w22 w23 w24 w25 w26 w27 w28 w29 w30 w31 w32 w33 w34 w35 w36 w37 w38 w39 w40 : TV} {r : TV} (h : Goes prog 13 (f13_1 y0 y1 y2 y3 y4 y5 y6 y7 y8 y9 y10 y11 y12 y13 y14 y15 y16 y17 w18 w19 w20 w21 w22 w23 w24 w25 w26 w27 w28 w29 w30 w31 w32 w33 w34 w35 w36 w37 w38 w39 w40) r) : Goes prog 13 (.jmp [1, 1, 1, 1, 1] (f13_1_S y0 y1 y2 y3 y4 y5 y6 y7 y8 y9 y10 y11 y12 y13 y14 y15 y16 y17 w18 w19 w20 w21 w22 w23 w24 w25 w26 w27 w28 w29 w30 w31 w32 w33 w34 w35 w36 w37 w38 w39 w40)) r := Goes.jmp (by kernel_rfl) h
def f18_0_S  (y0 y1 y2 y3 y4 y5 y6 y7 y8 y9 y10 y11 y12 y13 y14 y15 y16 y17 y18 y19 y20 y21 : TV) : ASt := ⟨[AV.one CA.junk, AV.one CA.junk, AV.one (CA.ptr 0 0), AV.one (CA.ptr 1 0)] ++ List.replicate 61 (AV.one CA.junk), [some (BC.cells [CA.t y0]), some (BC.cells [CA.t y1, CA.t y2, CA.t y3, CA.t y4, CA.t y5, CA.t y6, CA.t y7, CA.t y8, CA.t y9, CA.t y10, CA.t y11, CA.t y12, CA.t y13, CA.t y14, CA.t y15, CA.t y16, CA.t y17, CA.t y18, CA.t y19, CA.t y20, CA.t y21])] ++ List.replicate 87 (none), []⟩
def f18_1_S  (x0 x1 x2 y3 y4 y5 y6 y7 y8 y9 y10 y11 y12 y13 y14 y15 y16 y17 y18 y19 y20 y21 y22 y23 y24 : TV) : ASt := ⟨[AV.one CA.junk, AV.one CA.junk, AV.one (CA.ptr 0 0), AV.one (CA.ptr 1 0)] ++ List.replicate 32 (AV.one CA.junk) ++ [AV.tv x0, AV.tv x1, AV.tv x2] ++ List.replicate 26 (AV.one CA.junk), [some (BC.cells [CA.t y3]), some (BC.cells [CA.t y4, CA.t y5, CA.t y6, CA.t y7, CA.t y8, CA.t y9, CA.t y10, CA.t y11, CA.t y12, CA.t y13, CA.t y14, CA.t y15, CA.t y16, CA.t y17, CA.t y18, CA.t y19, CA.t y20, CA.t y21, CA.t y22, CA.t y23, CA.t y24])] ++ List.replicate 87 (none), []⟩
def f18_M (x0 x1 : TV) : Prg TV :=
 chk (TV.isAgg x0 1) (
 chk (TV.isAgg x1 21) (
 call 41 [agg [cell x0 0]] fun v0 =>
 chk (fitsAt zBool [v0] 0) (
 tv (pun .not v0) fun v1 =>
 Prg.ite (asBool v1) (
 ret (B false)) (
 tv (pbin (.int .i64) .lss (cell x1 19) (I 0)) fun v2 =>
 Prg.ite (asBool v2) (
 ret (B false)) (
 tv (pbin (.int .i64) .gtr (cell x1 19) (I 6)) fun v3 =>
 Prg.ite (asBool v3) (
 ret (B false)) (
 tv (plen (.slice 47) (cell x1 0)) fun v4 =>
 tv (pbin (.int .i64) .gtr v4 (I 32)) fun v5 =>
 Prg.ite (asBool v5) (
 ret (B false)) (
 tv (pbin (.int .i64) .eql (cell x1 19) (I 0)) fun v6 =>
 Prg.ite (asBool v6) (
 tv (plen (.slice 47) (cell x1 0)) fun v7 =>
 tv (pbin (.int .i64) .eql v7 (I 0)) fun v8 =>
 Prg.ite (asBool v8) (
 ret (B false)) (
 jmp [1, 1, 1] (f18_0_S (cell x0 0) (cell x1 0) (cell x1 1) (cell x1 2) (cell x1 3) (cell x1 4) (cell x1 5) (cell x1 6) (cell x1 7) (cell x1 8) (cell x1 9) (cell x1 10) (cell x1 11) (cell x1 12) (cell x1 13) (cell x1 14) (cell x1 15) (cell x1 16) (cell x1 17) (cell x1 18) (cell x1 19) (cell x1 20)))) (
 jmp [1, 1, 1] (f18_0_S (cell x0 0) (cell x1 0) (cell x1 1) (cell x1 2) (cell x1 3) (cell x1 4) (cell x1 5) (cell x1 6) (cell x1 7) (cell x1 8) (cell x1 9) (cell x1 10) (cell x1 11) (cell x1 12) (cell x1 13) (cell x1 14) (cell x1 15) (cell x1 16) (cell x1 17) (cell x1 18) (cell x1 19) (cell x1 20))))))))))
def f18_0  (y0 y1 y2 y3 y4 y5 y6 y7 y8 y9 y10 y11 y12 y13 y14 y15 y16 y17 y18 y19 y20 y21 : TV) : Prg TV :=
 tv (plen (.slice 47) y1) fun v9 =>
 jmp [0, 0, 1, 0, 1, 1, 1] (f18_1_S y1 v9 (I 0) y0 y1 y2 y3 y4 y5 y6 y7 y8 y9 y10 y11 y12 y13 y14 y15 y16 y17 y18 y19 y20 y21)
def f18_1  (x0 x1 x2 y3 y4 y5 y6 y7 y8 y9 y10 y11 y12 y13 y14 y15 y16 y17 y18 y19 y20 y21 y22 y23 y24 : TV) : Prg TV :=
 tv (pbin (.int .i64) .lss x2 x1) fun v10 =>
 Prg.ite (asBool v10) (
 tvs (pidx 5 x0 x2) fun e11 =>
 chk (Nat.ble 5 (List.length e11)) (
 call 42 [agg [y3], agg [nth hole e11 0, nth hole e11 1, nth hole e11 2, nth hole e11 3, nth hole e11 4]] fun v12 =>
 chk (fitsAt zBool [v12] 0) (
 tv (pun .not v12) fun v13 =>
 Prg.ite (asBool v13) (
 ret (B false)) (
 tv (pbin (.int .i64) .gtr x2 (I 0)) fun v14 =>
 Prg.ite (asBool v14) (
 tv (pbin (.int .i64) .sub x2 (I 1)) fun v15 =>
 tvs (pidx 5 y4 v15) fun e16 =>
 chk (Nat.ble 5 (List.length e16)) (
 call 43 [agg [y3], agg [nth hole e16 0, nth hole e16 1, nth hole e16 2, nth hole e16 3, nth hole e16 4], nth hole e11 0] fun v17 =>
 chk (fitsAt zBool [v17] 0) (
 tv (pun .not v17) fun v18 =>
 Prg.ite (asBool v18) (
 ret (B false)) (
 tv (pbin (.int .i64) .add x2 (I 1)) fun v19 =>
 jmp [0, 0, 1, 0, 1, 1, 1] (f18_1_S x0 x1 v19 y3 y4 y5 y6 y7 y8 y9 y10 y11 y12 y13 y14 y15 y16 y17 y18 y19 y20 y21 y22 y23 y24))))) (
 tv (pbin (.int .i64) .add x2 (I 1)) fun v20 =>
 jmp [0, 0, 1, 0, 1, 1, 1] (f18_1_S x0 x1 v20 y3 y4 y5 y6 y7 y8 y9 y10 y11 y12 y13 y14 y15 y16 y17 y18 y19 y20 y21 y22 y23 y24)))))) (
 ret (B true))
theorem f18_MR (x0 x1 : TV) : startQ prog 18 [x0, x1] = f18_M x0 x1 := by kernel_rfl
theorem f18_0_J  {y0 y1 y2 y3 y4 y5 y6 y7 y8 y9 y10 y11 y12 y13 y14 y15 y16 y17 y18 y19 y20 y21 : TV} {r : TV} (h : Goes prog 18 (f18_0 y0 y1 y2 y3 y4 y5 y6 y7 y8 y9 y10 y11 y12 y13 y14 y15 y16 y17 y18 y19 y20 y21) r) : Goes prog 18 (.jmp [1, 1, 1] (f18_0_S y0 y1 y2 y3 y4 y5 y6 y7 y8 y9 y10 y11 y12 y13 y14 y15 y16 y17 y18 y19 y20 y21)) r := Goes.jmp (by kernel_rfl) h
theorem f18_1_J  {x0 x1 x2 y3 y4 y5 y6 y7 y8 y9 y10 y11 y12 y13 y14 y15 y16 y17 y18 y19 y20 y21 y22 y23 y24 : TV} {r : TV} (h : Goes prog 18 (f18_1 x0 x1 x2 y3 y4 y5 y6 y7 y8 y9 y10 y11 y12 y13 y14 y15 y16 y17 y18 y19 y20 y21 y22 y23 y24) r) : Goes prog 18 (.jmp [0, 0, 1, 0, 1, 1, 1] (f18_1_S x0 x1 x2 y3 y4 y5 y6 y7 y8 y9 y10 y11 y12 y13 y14 y15 y16 y17 y18 y19 y20 y21 y22 y23 y24)) r := Goes.jmp (by kernel_rfl) h
end Go.Ab.G7

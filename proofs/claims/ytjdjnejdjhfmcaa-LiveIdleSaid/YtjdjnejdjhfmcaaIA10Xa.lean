import Derived.Test.YtjdjnejdjhfmcaaIA10T
set_option linter.all false
set_option maxRecDepth 100000
namespace Go.Ab.A10
open Go Go.Ab Go.Proofs
open Go.Ab.TV (hole cell comp isSl isSc isTup cellsL tup agg)
open Go.Ab.Prg (tv tvs rws nat chk call jmp ret)
def f3_0_S  (x0 x1 x2 x3 y4 y5 y6 y7 y8 y9 y10 y11 y12 y13 y14 y15 y16 y17 y18 y19 y20 y21 y22 y23 y24 y25:TV) (k26:Nat) (y27 w28 y29 y30 y31 y32 y33 y34 y35 y36 y37 y38 y39 y40 y41 y42 y43 y44 y45 y46 w47 w48 w49 w50 w51 w52 w53 w54 w55 w56 w57 w58 w59 w60 w61 w62 w63 w64 w65 w66 w67 w68 w69 w70 w71 w72 w73 w74 w75 w76 w77 w78 w79 w80 w81 w82 w83 w84 w85 w86 w87 w88 w89:TV):ASt:=⟨[AV.one CA.junk,AV.one CA.junk,AV.one CA.junk,AV.tv x0,AV.tv x1,AV.one (CA.ptr 0 0)] ++ List.replicate 5 (AV.one CA.junk) ++ [AV.one (CA.ptr 1 0),AV.one CA.junk,AV.tv x2,AV.one (CA.ptr 2 0),AV.one (CA.sref 3 0 []),AV.one (CA.ptr 4 0),AV.tv x3] ++ List.replicate 144 (AV.one CA.junk),[some (BC.cells [CA.t y4]),some (BC.cells [CA.sref 5 0 [],CA.t y5,CA.t y6,CA.t y7,CA.t y8,CA.t y9,CA.t y10,CA.t y11,CA.t y12,CA.t y13,CA.t y14,CA.t y15,CA.t y16,CA.t y17,CA.t y18,CA.t y19,CA.t y20,CA.sref 5 17 [],CA.sref 5 18 [],CA.t y21,CA.t y22]),some (BC.cells [CA.t y23,CA.t y24,CA.t y25,CA.sref 5 0 [(k26,3)],CA.t y27]),some (BC.tree [w28]),some (BC.cells [CA.sref 6 0 [],CA.t y29,CA.t y30,CA.t y31,CA.t y32,CA.t y33,CA.t y34,CA.t y35,CA.t y36,CA.t y37,CA.t y38,CA.t y39,CA.t y40,CA.t y41,CA.t y42,CA.t y43,CA.t y44,CA.sref 6 17 [],CA.sref 6 18 [],CA.t y45,CA.t y46]),some (BC.tree [w47,w48,w49,w50,w51,w52,w53,w54,w55,w56,w57,w58,w59,w60,w61,w62,w63,w64,w65,w66,w67,w68]),some (BC.tree [w69,w70,w71,w72,w73,w74,w75,w76,w77,w78,w79,w80,w81,w82,w83,w84,w85,w86,w87,w88,w89])] ++ List.replicate 179 (none),[]⟩
def f3_1_S  (x0 y1 y2 y3 y4 y5 y6 y7 y8 y9 y10 y11 y12 y13 y14 y15 y16 y17 y18 y19 y20 y21 y22 y23 y24 y25 y26 y27 y28 y29 y30 y31 y32 y33 y34 y35 y36 y37 w38 w39 w40 w41 w42 w43 w44 w45 w46 w47 w48 w49 w50 w51 w52 w53 w54 w55 w56 w57 w58 w59 w60 w61 w62 w63 w64 w65 w66 w67 w68 w69 w70 w71 w72 w73 w74 w75 w76 w77 w78 w79 w80:TV):ASt:=⟨[AV.one CA.junk,AV.one CA.junk,AV.one CA.junk,AV.tv x0,AV.one CA.junk,AV.one (CA.ptr 0 0)] ++ List.replicate 5 (AV.one CA.junk) ++ [AV.one (CA.ptr 1 0)] ++ List.replicate 4 (AV.one CA.junk) ++ [AV.one (CA.ptr 2 0)] ++ List.replicate 145 (AV.one CA.junk),[some (BC.cells [CA.t y1]),some (BC.cells [CA.sref 3 0 [],CA.t y2,CA.t y3,CA.t y4,CA.t y5,CA.t y6,CA.t y7,CA.t y8,CA.t y9,CA.t y10,CA.t y11,CA.t y12,CA.t y13,CA.t y14,CA.t y15,CA.t y16,CA.t y17,CA.sref 3 17 [],CA.sref 3 18 [],CA.t y18,CA.t y19]),some (BC.cells [CA.sref 4 0 [],CA.t y20,CA.t y21,CA.t y22,CA.t y23,CA.t y24,CA.t y25,CA.t y26,CA.t y27,CA.t y28,CA.t y29,CA.t y30,CA.t y31,CA.t y32,CA.t y33,CA.t y34,CA.t y35,CA.sref 4 17 [],CA.sref 4 18 [],CA.t y36,CA.t y37]),some (BC.tree [w38,w39,w40,w41,w42,w43,w44,w45,w46,w47,w48,w49,w50,w51,w52,w53,w54,w55,w56,w57,w58,w59]),some (BC.tree [w60,w61,w62,w63,w64,w65,w66,w67,w68,w69,w70,w71,w72,w73,w74,w75,w76,w77,w78,w79,w80])] ++ List.replicate 181 (none),[]⟩
def f3_2_S  (x0 x1 y2 y3 y4 y5 y6 y7 y8 y9 y10 y11 y12 y13 y14 y15 y16 y17 y18 y19 y20 y21 y22 y23 y24 y25 y26 y27 y28 y29 y30 y31 y32 y33 y34 y35 y36 y37 y38 w39 w40 w41 w42 w43 w44 w45 w46 w47 w48 w49 w50 w51 w52 w53 w54 w55 w56 w57 w58 w59 w60 w61 w62 w63:TV):ASt:=⟨[AV.one CA.junk,AV.one CA.junk,AV.one CA.junk,AV.tv x0,AV.one CA.junk,AV.one (CA.ptr 0 0)] ++ List.replicate 5 (AV.one CA.junk) ++ [AV.one (CA.ptr 1 0)] ++ List.replicate 4 (AV.one CA.junk) ++ [AV.one (CA.ptr 2 0),AV.one CA.junk,AV.tv x1] ++ List.replicate 143 (AV.one CA.junk),[some (BC.cells [CA.t y2]),some (BC.cells [CA.sref 3 0 [],CA.t y3,CA.t y4,CA.t y5,CA.t y6,CA.t y7,CA.t y8,CA.t y9,CA.t y10,CA.t y11,CA.t y12,CA.t y13,CA.t y14,CA.t y15,CA.t y16,CA.t y17,CA.t y18,CA.sref 3 17 [],CA.sref 3 18 [],CA.t y19,CA.t y20]),some (BC.cells [CA.sref 4 0 [],CA.t y21,CA.t y22,CA.t y23,CA.t y24,CA.t y25,CA.t y26,CA.t y27,CA.t y28,CA.t y29,CA.t y30,CA.t y31,CA.t y32,CA.t y33,CA.t y34,CA.t y35,CA.t y36,CA.sref 5 0 [],CA.sref 6 0 [],CA.t y37,CA.t y38]),some (BC.tree [w39,w40,w41,w42,w43,w44,w45,w46,w47,w48,w49,w50,w51,w52,w53,w54,w55,w56,w57,w58,w59,w60]),some (BC.tree [w61]),some (BC.tree [w62]),some (BC.tree [w63])] ++ List.replicate 179 (none),[]⟩
def f3_M (x0 x1 x2 x3 x4:TV):Prg TV :=
 chk (TV.isAgg x0 1) (
 call 5 [] fun v0 =>
 chk (ab au [v0] 0) (
 tv (pun .not v0) fun v1 =>
 Prg.ite (asBool v1) (
 ret (B false)) (
 call 6 [agg [cell x0 0],x1] fun v2 =>
 chk (ab au [v2] 0) (
 tv (pun .not v2) fun v3 =>
 Prg.ite (asBool v3) (
 ret (B true)) (
 tv (plen (.slice 29) x4) fun v4 =>
 tv (pbin (.int .i64) .eql v4 (I 0)) fun v5 =>
 Prg.ite (asBool v5) (
 ret (B true)) (
 tv (pbin (.int .u8) .rem x2 (TV.lit (Value.int IntKind.u8 (150:Int)))) fun v6 =>
 tv (pconv (.int .i64) v6) fun v7 =>
 call 7 [agg [cell x0 0],x1,v7] fun v8 =>
 chk (isTup v8 2) (
 chk (Bool.and (TV.isAgg (comp v8 0) 21) (ab z32 (cellsL true (comp v8 0)) 0)) (
 chk (ab fo [comp v8 1] 0) (
 tv (pbin (.int .i64) .neq (comp v8 1) (I 0)) fun v9 =>
 Prg.ite (asBool v9) (
 ret (B true)) (
 tv (pbin (.int .i64) .neq (cell (comp v8 0) 19) (I 0)) fun v10 =>
 Prg.ite (asBool v10) (
 ret (B true)) (
 tv (plen (.slice 38) (cell (comp v8 0) 0)) fun v11 =>
 tv (pbin (.int .i64) .sub v11 (I 1)) fun v12 =>
 nat (slLen (cell (comp v8 0) 0)) fun n13 =>
 nat (aj v12) fun n14 =>
 chk (Bool.and (slSize (cell (comp v8 0) 0) 5) (Nat.blt n14 n13)) (
 tvs (pel (cell (comp v8 0) 0) n14) fun e15 =>
 chk (ab z37 e15 0) (
 tvs (pidx 3 (cell x0 0) (nth hole e15 0)) fun e16 =>
 chk (Nat.ble 3 (List.length e16)) (
 call 8 [agg [nth hole e16 0,nth hole e16 1,nth hole e16 2]] fun v17 =>
 chk (ab zSl [v17] 0) (
 tv (plen (.slice 45) v17) fun v18 =>
 tvs (pidx 3 (cell x0 0) (nth hole e15 0)) fun e19 =>
 chk (Nat.blt 2 (List.length e19)) (
 tv (plen (.slice 55) (nth hole e19 2)) fun v20 =>
 tv (pbin (.int .i64) .neq v18 v20) fun v21 =>
 Prg.ite (asBool v21) (
 ret (B false)) (
 tv (pbin (.int .i64) .neq (nth hole e15 2) (I 0)) fun v22 =>
 Prg.ite (asBool v22) (
 ret (B true)) (
 call 9 [agg [frz (cell (comp v8 0) 0),cell (comp v8 0) 1,cell (comp v8 0) 2,cell (comp v8 0) 3,cell (comp v8 0) 4,cell (comp v8 0) 5,cell (comp v8 0) 6,cell (comp v8 0) 7,cell (comp v8 0) 8,cell (comp v8 0) 9,cell (comp v8 0) 10,cell (comp v8 0) 11,cell (comp v8 0) 12,cell (comp v8 0) 13,cell (comp v8 0) 14,cell (comp v8 0) 15,cell (comp v8 0) 16,frz (cell (comp v8 0) 17),frz (cell (comp v8 0) 18),cell (comp v8 0) 19,cell (comp v8 0) 20]] fun v23 =>
 chk (Bool.and (TV.isAgg v23 21) (ab z32 (cellsL true v23) 0)) (
 jmp [0,0,1,0,1,1,1,1,1,1,1,1,1,1,1] (f3_0_S x3 x4 v12 (I 0) (cell x0 0) (cell (comp v8 0) 1) (cell (comp v8 0) 2) (cell (comp v8 0) 3) (cell (comp v8 0) 4) (cell (comp v8 0) 5) (cell (comp v8 0) 6) (cell (comp v8 0) 7) (cell (comp v8 0) 8) (cell (comp v8 0) 9) (cell (comp v8 0) 10) (cell (comp v8 0) 11) (cell (comp v8 0) 12) (cell (comp v8 0) 13) (cell (comp v8 0) 14) (cell (comp v8 0) 15) (cell (comp v8 0) 16) (cell (comp v8 0) 19) (cell (comp v8 0) 20) (nth hole e15 0) (nth hole e15 1) (nth hole e15 2) n14 (nth hole e15 4) v17 (cell v23 1) (cell v23 2) (cell v23 3) (cell v23 4) (cell v23 5) (cell v23 6) (cell v23 7) (cell v23 8) (cell v23 9) (cell v23 10) (cell v23 11) (cell v23 12) (cell v23 13) (cell v23 14) (cell v23 15) (cell v23 16) (cell v23 19) (cell v23 20) (cell (comp v8 0) 0) hole hole hole hole hole hole hole hole hole hole hole hole hole hole hole hole (cell (comp v8 0) 17) (cell (comp v8 0) 18) hole hole hole (cell v23 0) hole hole hole hole hole hole hole hole hole hole hole hole hole hole hole hole (cell v23 17) (cell v23 18) hole hole))))))))))))))))))))
def f3_0  (x0 x1 x2 x3 y4 y5 y6 y7 y8 y9 y10 y11 y12 y13 y14 y15 y16 y17 y18 y19 y20 y21 y22 y23 y24 y25:TV) (k26:Nat) (y27 w28 y29 y30 y31 y32 y33 y34 y35 y36 y37 y38 y39 y40 y41 y42 y43 y44 y45 y46 w47 w48 w49 w50 w51 w52 w53 w54 w55 w56 w57 w58 w59 w60 w61 w62 w63 w64 w65 w66 w67 w68 w69 w70 w71 w72 w73 w74 w75 w76 w77 w78 w79 w80 w81 w82 w83 w84 w85 w86 w87 w88 w89:TV):Prg TV :=
 tv (aF [(k26,3)] w47) fun v24 =>
 tv (plen (.slice 29) v24) fun v25 =>
 tv (pbin (.int .i64) .lss x3 v25) fun v26 =>
 Prg.ite (asBool v26) (
 nat (slLen w28) fun n27 =>
 nat (aj y24) fun n28 =>
 chk (Bool.and (slSize w28 1) (Nat.blt n28 n27)) (
 tvs (pel w28 n28) fun e29 =>
 chk (ab zSl e29 0) (
 tv (aF [(n28,0)] w28) fun v30 =>
 nat (slLen v30) fun n31 =>
 nat (aj x3) fun n32 =>
 chk (Bool.and (slSize v30 1) (Nat.blt n32 n31)) (
 tv (aF [(n28,0)] w28) fun v33 =>
 tvs (pel v33 n32) fun e34 =>
 chk (ab au e34 0) (
 tv (pun .not (nth hole e34 0)) fun v35 =>
 Prg.ite (asBool v35) (
 nat (slLen w69) fun n36 =>
 nat (aj x2) fun n37 =>
 chk (Bool.and (slSize w69 5) (Nat.blt n37 n36)) (
 tvs (pel w69 n37) fun e38 =>
 chk (ab zSl e38 3) (
 tv (plen (.slice 29) x1) fun v39 =>
 tv (pbin (.int .i64) .rem x3 v39) fun v40 =>
 tvs (pidx 1 x1 v40) fun e41 =>
 chk (Nat.blt 0 (List.length e41)) (
 tv (aF [(n37,3)] w69) fun v42 =>
 nat (slLen v42) fun n43 =>
 nat (aj x3) fun n44 =>
 chk (Bool.and (slSize v42 1) (Nat.blt n44 n43)) (
 tv (aF [(n37,3)] w69) fun v45 =>
 tvs (pel v45 n44) fun e46 =>
 chk (ab cU e46 0) (
 tv (bI [(n37,3)] w69 n44 0 [nth hole e41 0]) fun v47 =>
 tv (pbin (.int .i64) .add x3 (I 1)) fun v48 =>
 jmp [0,0,1,0,1,1,1,1,1,1,1,1,1,1,1] (f3_0_S x0 x1 x2 v48 y4 y5 y6 y7 y8 y9 y10 y11 y12 y13 y14 y15 y16 y17 y18 y19 y20 y21 y22 y23 y24 y25 k26 y27 w28 y29 y30 y31 y32 y33 y34 y35 y36 y37 y38 y39 y40 y41 y42 y43 y44 y45 y46 w47 w48 w49 w50 w51 w52 w53 w54 w55 w56 w57 w58 w59 w60 w61 w62 w63 w64 w65 w66 w67 w68 v47 w70 w71 w72 w73 w74 w75 w76 w77 w78 w79 w80 w81 w82 w83 w84 w85 w86 w87 w88 w89))))))) (
 tv (pbin (.int .i64) .add x3 (I 1)) fun v49 =>
 jmp [0,0,1,0,1,1,1,1,1,1,1,1,1,1,1] (f3_0_S x0 x1 x2 v49 y4 y5 y6 y7 y8 y9 y10 y11 y12 y13 y14 y15 y16 y17 y18 y19 y20 y21 y22 y23 y24 y25 k26 y27 w28 y29 y30 y31 y32 y33 y34 y35 y36 y37 y38 y39 y40 y41 y42 y43 y44 y45 y46 w47 w48 w49 w50 w51 w52 w53 w54 w55 w56 w57 w58 w59 w60 w61 w62 w63 w64 w65 w66 w67 w68 w69 w70 w71 w72 w73 w74 w75 w76 w77 w78 w79 w80 w81 w82 w83 w84 w85 w86 w87 w88 w89))))))) (
 jmp [1,1,1,1,1,1,1,1,1,1,1,1] (f3_1_S x0 y4 y5 y6 y7 y8 y9 y10 y11 y12 y13 y14 y15 y16 y17 y18 y19 y20 y21 y22 y29 y30 y31 y32 y33 y34 y35 y36 y37 y38 y39 y40 y41 y42 y43 y44 y45 y46 w47 w48 w49 w50 w51 w52 w53 w54 w55 w56 w57 w58 w59 w60 w61 w62 w63 w64 w65 w66 w67 w68 w69 w70 w71 w72 w73 w74 w75 w76 w77 w78 w79 w80 w81 w82 w83 w84 w85 w86 w87 w88 w89))
def f3_1  (x0 y1 y2 y3 y4 y5 y6 y7 y8 y9 y10 y11 y12 y13 y14 y15 y16 y17 y18 y19 y20 y21 y22 y23 y24 y25 y26 y27 y28 y29 y30 y31 y32 y33 y34 y35 y36 y37 w38 w39 w40 w41 w42 w43 w44 w45 w46 w47 w48 w49 w50 w51 w52 w53 w54 w55 w56 w57 w58 w59 w60 w61 w62 w63 w64 w65 w66 w67 w68 w69 w70 w71 w72 w73 w74 w75 w76 w77 w78 w79 w80:TV):Prg TV :=
 jmp [0,0,1,0,1,1,1,1,1,1,1,1,1,1,1,1] (f3_2_S x0 (I 0) y1 y2 y3 y4 y5 y6 y7 y8 y9 y10 y11 y12 y13 y14 y15 y16 y17 y18 y19 y20 y21 y22 y23 y24 y25 y26 y27 y28 y29 y30 y31 y32 y33 y34 y35 y36 y37 w38 w39 w40 w41 w42 w43 w44 w45 w46 w47 w48 w49 w50 w51 w52 w53 w54 w55 w56 w57 w58 w59 w60 w77 w78)
def f3_2  (x0 x1 y2 y3 y4 y5 y6 y7 y8 y9 y10 y11 y12 y13 y14 y15 y16 y17 y18 y19 y20 y21 y22 y23 y24 y25 y26 y27 y28 y29 y30 y31 y32 y33 y34 y35 y36 y37 y38 w39 w40 w41 w42 w43 w44 w45 w46 w47 w48 w49 w50 w51 w52 w53 w54 w55 w56 w57 w58 w59 w60 w61 w62 w63:TV):Prg TV :=
 tv (pbin (.int .u8) .rem x0 (TV.lit (Value.int IntKind.u8 (60:Int)))) fun v50 =>
 tv (pconv (.int .i64) v50) fun v51 =>
 tv (pbin (.int .i64) .lss x1 v51) fun v52 =>
 Prg.ite (asBool v52) (
 call 10 [agg [y2],agg [frz w39,y3,y4,y5,y6,y7,y8,y9,y10,y11,y12,y13,y14,y15,y16,y17,y18,frz w56,frz w57,y19,y20]] fun v53 =>
 chk (isTup v53 2) (
 chk (Bool.and (TV.isAgg (comp v53 0) 21) (ab z32 (cellsL true (comp v53 0)) 0)) (
 chk (ab fo [comp v53 1] 0) (
 call 10 [agg [y2],agg [frz w61,y21,y22,y23,y24,y25,y26,y27,y28,y29,y30,y31,y32,y33,y34,y35,y36,frz w62,frz w63,y37,y38]] fun v54 =>
 chk (isTup v54 2) (
 chk (Bool.and (TV.isAgg (comp v54 0) 21) (ab z32 (cellsL true (comp v54 0)) 0)) (
 chk (ab fo [comp v54 1] 0) (
 tv (pbin (.int .i64) .neq (comp v53 1) (I 0)) fun v55 =>
 Prg.ite (asBool v55) (
 ret (B false)) (
 tv (pbin (.int .i64) .neq (comp v54 1) (I 0)) fun v56 =>
 Prg.ite (asBool v56) (
 ret (B false)) (
 call 11 [agg [frz (cell (comp v53 0) 0),cell (comp v53 0) 1,cell (comp v53 0) 2,cell (comp v53 0) 3,cell (comp v53 0) 4,cell (comp v53 0) 5,cell (comp v53 0) 6,cell (comp v53 0) 7,cell (comp v53 0) 8,cell (comp v53 0) 9,cell (comp v53 0) 10,cell (comp v53 0) 11,cell (comp v53 0) 12,cell (comp v53 0) 13,cell (comp v53 0) 14,cell (comp v53 0) 15,cell (comp v53 0) 16,frz (cell (comp v53 0) 17),frz (cell (comp v53 0) 18),cell (comp v53 0) 19,cell (comp v53 0) 20],agg [frz (cell (comp v54 0) 0),cell (comp v54 0) 1,cell (comp v54 0) 2,cell (comp v54 0) 3,cell (comp v54 0) 4,cell (comp v54 0) 5,cell (comp v54 0) 6,cell (comp v54 0) 7,cell (comp v54 0) 8,cell (comp v54 0) 9,cell (comp v54 0) 10,cell (comp v54 0) 11,cell (comp v54 0) 12,cell (comp v54 0) 13,cell (comp v54 0) 14,cell (comp v54 0) 15,cell (comp v54 0) 16,frz (cell (comp v54 0) 17),frz (cell (comp v54 0) 18),cell (comp v54 0) 19,cell (comp v54 0) 20]] fun v57 =>
 chk (ab au [v57] 0) (
 tv (pun .not v57) fun v58 =>
 Prg.ite (asBool v58) (
 ret (B false)) (
 tv (plen (.slice 38) (cell (comp v53 0) 0)) fun v59 =>
 tv (plen (.slice 38) (cell (comp v54 0) 0)) fun v60 =>
 tv (pbin (.int .i64) .neq v59 v60) fun v61 =>
 Prg.ite (asBool v61) (
 ret (B false)) (
 tv (A4 IntKind.u16 .neq [cell (comp v53 0) 1,cell (comp v53 0) 2,cell (comp v53 0) 3,cell (comp v53 0) 4,cell (comp v53 0) 5,cell (comp v53 0) 6,cell (comp v53 0) 7,cell (comp v53 0) 8,cell (comp v53 0) 9,cell (comp v53 0) 10,cell (comp v53 0) 11,cell (comp v53 0) 12,cell (comp v53 0) 13,cell (comp v53 0) 14,cell (comp v53 0) 15,cell (comp v53 0) 16] [cell (comp v54 0) 1,cell (comp v54 0) 2,cell (comp v54 0) 3,cell (comp v54 0) 4,cell (comp v54 0) 5,cell (comp v54 0) 6,cell (comp v54 0) 7,cell (comp v54 0) 8,cell (comp v54 0) 9,cell (comp v54 0) 10,cell (comp v54 0) 11,cell (comp v54 0) 12,cell (comp v54 0) 13,cell (comp v54 0) 14,cell (comp v54 0) 15,cell (comp v54 0) 16]) fun v62 =>
 Prg.ite (asBool v62) (
 ret (B false)) (
 tv (pbin (.int .i64) .add x1 (I 1)) fun v63 =>
 jmp [0,0,1,0,1,1,1,1,1,1,1,1,1,1,1,1] (f3_2_S x0 v63 y2 (cell (comp v53 0) 1) (cell (comp v53 0) 2) (cell (comp v53 0) 3) (cell (comp v53 0) 4) (cell (comp v53 0) 5) (cell (comp v53 0) 6) (cell (comp v53 0) 7) (cell (comp v53 0) 8) (cell (comp v53 0) 9) (cell (comp v53 0) 10) (cell (comp v53 0) 11) (cell (comp v53 0) 12) (cell (comp v53 0) 13) (cell (comp v53 0) 14) (cell (comp v53 0) 15) (cell (comp v53 0) 16) (cell (comp v53 0) 19) (cell (comp v53 0) 20) (cell (comp v54 0) 1) (cell (comp v54 0) 2) (cell (comp v54 0) 3) (cell (comp v54 0) 4) (cell (comp v54 0) 5) (cell (comp v54 0) 6) (cell (comp v54 0) 7) (cell (comp v54 0) 8) (cell (comp v54 0) 9) (cell (comp v54 0) 10) (cell (comp v54 0) 11) (cell (comp v54 0) 12) (cell (comp v54 0) 13) (cell (comp v54 0) 14) (cell (comp v54 0) 15) (cell (comp v54 0) 16) (cell (comp v54 0) 19) (cell (comp v54 0) 20) (cell (comp v53 0) 0) hole hole hole hole hole hole hole hole hole hole hole hole hole hole hole hole (cell (comp v53 0) 17) (cell (comp v53 0) 18) hole hole hole (cell (comp v54 0) 0) (cell (comp v54 0) 17) (cell (comp v54 0) 18))))))))))))))) (
 ret (B true))
theorem f3_MR (x0 x1 x2 x3 x4:TV):aw prog 3 [x0,x1,x2,x3,x4]=f3_M x0 x1 x2 x3 x4:=by kernel_rfl
theorem f3_0_J  {x0 x1 x2 x3 y4 y5 y6 y7 y8 y9 y10 y11 y12 y13 y14 y15 y16 y17 y18 y19 y20 y21 y22 y23 y24 y25:TV} {k26:Nat} {y27 w28 y29 y30 y31 y32 y33 y34 y35 y36 y37 y38 y39 y40 y41 y42 y43 y44 y45 y46 w47 w48 w49 w50 w51 w52 w53 w54 w55 w56 w57 w58 w59 w60 w61 w62 w63 w64 w65 w66 w67 w68 w69 w70 w71 w72 w73 w74 w75 w76 w77 w78 w79 w80 w81 w82 w83 w84 w85 w86 w87 w88 w89:TV} {r:TV} (h:aa prog 3 (f3_0 x0 x1 x2 x3 y4 y5 y6 y7 y8 y9 y10 y11 y12 y13 y14 y15 y16 y17 y18 y19 y20 y21 y22 y23 y24 y25 k26 y27 w28 y29 y30 y31 y32 y33 y34 y35 y36 y37 y38 y39 y40 y41 y42 y43 y44 y45 y46 w47 w48 w49 w50 w51 w52 w53 w54 w55 w56 w57 w58 w59 w60 w61 w62 w63 w64 w65 w66 w67 w68 w69 w70 w71 w72 w73 w74 w75 w76 w77 w78 w79 w80 w81 w82 w83 w84 w85 w86 w87 w88 w89) r):aa prog 3 (.jmp [0,0,1,0,1,1,1,1,1,1,1,1,1,1,1] (f3_0_S x0 x1 x2 x3 y4 y5 y6 y7 y8 y9 y10 y11 y12 y13 y14 y15 y16 y17 y18 y19 y20 y21 y22 y23 y24 y25 k26 y27 w28 y29 y30 y31 y32 y33 y34 y35 y36 y37 y38 y39 y40 y41 y42 y43 y44 y45 y46 w47 w48 w49 w50 w51 w52 w53 w54 w55 w56 w57 w58 w59 w60 w61 w62 w63 w64 w65 w66 w67 w68 w69 w70 w71 w72 w73 w74 w75 w76 w77 w78 w79 w80 w81 w82 w83 w84 w85 w86 w87 w88 w89)) r:=aa.jmp (by kernel_rfl) h
theorem f3_1_J  {x0 y1 y2 y3 y4 y5 y6 y7 y8 y9 y10 y11 y12 y13 y14 y15 y16 y17 y18 y19 y20 y21 y22 y23 y24 y25 y26 y27 y28 y29 y30 y31 y32 y33 y34 y35 y36 y37 w38 w39 w40 w41 w42 w43 w44 w45 w46 w47 w48 w49 w50 w51 w52 w53 w54 w55 w56 w57 w58 w59 w60 w61 w62 w63 w64 w65 w66 w67 w68 w69 w70 w71 w72 w73 w74 w75 w76 w77 w78 w79 w80:TV} {r:TV} (h:aa prog 3 (f3_1 x0 y1 y2 y3 y4 y5 y6 y7 y8 y9 y10 y11 y12 y13 y14 y15 y16 y17 y18 y19 y20 y21 y22 y23 y24 y25 y26 y27 y28 y29 y30 y31 y32 y33 y34 y35 y36 y37 w38 w39 w40 w41 w42 w43 w44 w45 w46 w47 w48 w49 w50 w51 w52 w53 w54 w55 w56 w57 w58 w59 w60 w61 w62 w63 w64 w65 w66 w67 w68 w69 w70 w71 w72 w73 w74 w75 w76 w77 w78 w79 w80) r):aa prog 3 (.jmp [1,1,1,1,1,1,1,1,1,1,1,1] (f3_1_S x0 y1 y2 y3 y4 y5 y6 y7 y8 y9 y10 y11 y12 y13 y14 y15 y16 y17 y18 y19 y20 y21 y22 y23 y24 y25 y26 y27 y28 y29 y30 y31 y32 y33 y34 y35 y36 y37 w38 w39 w40 w41 w42 w43 w44 w45 w46 w47 w48 w49 w50 w51 w52 w53 w54 w55 w56 w57 w58 w59 w60 w61 w62 w63 w64 w65 w66 w67 w68 w69 w70 w71 w72 w73 w74 w75 w76 w77 w78 w79 w80)) r:=aa.jmp (by kernel_rfl) h
theorem f3_2_J  {x0 x1 y2 y3 y4 y5 y6 y7 y8 y9 y10 y11 y12 y13 y14 y15 y16 y17 y18 y19 y20 y21 y22 y23 y24 y25 y26 y27 y28 y29 y30 y31 y32 y33 y34 y35 y36 y37 y38 w39 w40 w41 w42 w43 w44 w45 w46 w47 w48 w49 w50 w51 w52 w53 w54 w55 w56 w57 w58 w59 w60 w61 w62 w63:TV} {r:TV} (h:aa prog 3 (f3_2 x0 x1 y2 y3 y4 y5 y6 y7 y8 y9 y10 y11 y12 y13 y14 y15 y16 y17 y18 y19 y20 y21 y22 y23 y24 y25 y26 y27 y28 y29 y30 y31 y32 y33 y34 y35 y36 y37 y38 w39 w40 w41 w42 w43 w44 w45 w46 w47 w48 w49 w50 w51 w52 w53 w54 w55 w56 w57 w58 w59 w60 w61 w62 w63) r):aa prog 3 (.jmp [0,0,1,0,1,1,1,1,1,1,1,1,1,1,1,1] (f3_2_S x0 x1 y2 y3 y4 y5 y6 y7 y8 y9 y10 y11 y12 y13 y14 y15 y16 y17 y18 y19 y20 y21 y22 y23 y24 y25 y26 y27 y28 y29 y30 y31 y32 y33 y34 y35 y36 y37 y38 w39 w40 w41 w42 w43 w44 w45 w46 w47 w48 w49 w50 w51 w52 w53 w54 w55 w56 w57 w58 w59 w60 w61 w62 w63)) r:=aa.jmp (by kernel_rfl) h
def f6_M (x0 x1:TV):Prg TV :=
 chk (TV.isAgg x0 1) (
 call 14 [agg [cell x0 0]] fun v0 =>
 chk (ab au [v0] 0) (
 Prg.ite (asBool v0) (
 tv (plen (.slice 29) x1) fun v1 =>
 tv (pbin (.int .i64) .leq v1 (I 30)) fun v2 =>
 ret v2) (
 ret (B false))))
theorem f6_MR (x0 x1:TV):aw prog 6 [x0,x1]=f6_M x0 x1:=by kernel_rfl
def f7_0_S  (x0 y1 y2 y3 y4 y5 y6 y7 y8 y9 y10 y11 y12 y13 y14 y15 y16 y17 y18 w19 w20 w21 w22 w23 w24 w25 w26 w27 w28 w29 w30 w31 w32 w33 w34 w35 w36 w37 w38 w39 w40 w41:TV):ASt:=⟨[AV.one CA.junk,AV.one CA.junk,AV.tv x0,AV.one CA.junk,AV.one CA.junk,AV.one CA.junk,AV.one (CA.ptr 0 0),AV.one CA.junk,AV.one CA.junk,AV.one CA.junk,AV.one (CA.ptr 1 0)] ++ List.replicate 29 (AV.one CA.junk),[some (BC.cells [CA.junk,CA.junk,CA.junk,CA.junk,CA.junk,CA.junk,CA.junk,CA.junk,CA.junk,CA.junk,CA.junk,CA.junk,CA.junk,CA.junk,CA.junk,CA.junk,CA.junk,CA.junk,CA.junk,CA.junk,CA.junk]),some (BC.cells [CA.sref 2 0 [],CA.t y1,CA.t y2,CA.t y3,CA.t y4,CA.t y5,CA.t y6,CA.t y7,CA.t y8,CA.t y9,CA.t y10,CA.t y11,CA.t y12,CA.t y13,CA.t y14,CA.t y15,CA.t y16,CA.sref 2 17 [],CA.sref 2 18 [],CA.t y17,CA.t y18,CA.sref 3 0 []]),some (BC.tree [w19,w20,w21,w22,w23,w24,w25,w26,w27,w28,w29,w30,w31,w32,w33,w34,w35,w36,w37,w38,w39,w40]),some (BC.tree [w41])] ++ List.replicate 60 (none),[]⟩
def f7_1_S  (y0 y1 y2 y3 y4 y5 y6 y7 y8 y9 y10 y11 y12 y13 y14 y15 y16 y17 w18 w19 w20 w21 w22 w23 w24 w25 w26 w27 w28 w29 w30 w31 w32 w33 w34 w35 w36 w37 w38 w39 w40:TV):ASt:=⟨List.replicate 6 (AV.one CA.junk) ++ [AV.one (CA.ptr 0 0),AV.one CA.junk,AV.one CA.junk,AV.one CA.junk,AV.one (CA.ptr 1 0)] ++ List.replicate 29 (AV.one CA.junk),[some (BC.cells [CA.junk,CA.junk,CA.junk,CA.junk,CA.junk,CA.junk,CA.junk,CA.junk,CA.junk,CA.junk,CA.junk,CA.junk,CA.junk,CA.junk,CA.junk,CA.junk,CA.junk,CA.junk,CA.junk,CA.junk,CA.junk]),some (BC.cells [CA.sref 2 0 [],CA.t y0,CA.t y1,CA.t y2,CA.t y3,CA.t y4,CA.t y5,CA.t y6,CA.t y7,CA.t y8,CA.t y9,CA.t y10,CA.t y11,CA.t y12,CA.t y13,CA.t y14,CA.t y15,CA.sref 2 17 [],CA.sref 2 18 [],CA.t y16,CA.t y17,CA.sref 3 0 []]),some (BC.tree [w18,w19,w20,w21,w22,w23,w24,w25,w26,w27,w28,w29,w30,w31,w32,w33,w34,w35,w36,w37,w38,w39]),some (BC.tree [w40])] ++ List.replicate 60 (none),[]⟩
def f7_M (x0 x1 x2:TV):Prg TV :=
 chk (TV.isAgg x0 1) (
 call 15 [agg [cell x0 0],x1] fun v0 =>
 chk (isTup v0 2) (
 chk (Bool.and (TV.isAgg (comp v0 0) 21) (ab z32 (cellsL true (comp v0 0)) 0)) (
 chk (ab fo [comp v0 1] 0) (
 tv (pbin (.int .i64) .neq (comp v0 1) (I 0)) fun v1 =>
 Prg.ite (asBool v1) (
 chk true (
 ret (tup [agg [TV.lit aI,W 0,W 0,W 0,W 0,W 0,W 0,W 0,W 0,W 0,W 0,W 0,W 0,W 0,W 0,W 0,W 0,TV.lit aI,TV.lit aI,I 0,W 0],I 1]))) (
 tv (pbin (.int .i64) .gtr x2 (I 1048576)) fun v2 =>
 Prg.ite (asBool v2) (
 chk true (
 ret (tup [agg [TV.lit aI,W 0,W 0,W 0,W 0,W 0,W 0,W 0,W 0,W 0,W 0,W 0,W 0,W 0,W 0,W 0,W 0,TV.lit aI,TV.lit aI,I 0,W 0],I 1]))) (
 chk (isSl (cell x0 0)) (
 jmp [0,0,0,1,1,1,1] (f7_0_S x2 (cell (comp v0 0) 1) (cell (comp v0 0) 2) (cell (comp v0 0) 3) (cell (comp v0 0) 4) (cell (comp v0 0) 5) (cell (comp v0 0) 6) (cell (comp v0 0) 7) (cell (comp v0 0) 8) (cell (comp v0 0) 9) (cell (comp v0 0) 10) (cell (comp v0 0) 11) (cell (comp v0 0) 12) (cell (comp v0 0) 13) (cell (comp v0 0) 14) (cell (comp v0 0) 15) (cell (comp v0 0) 16) (cell (comp v0 0) 19) (cell (comp v0 0) 20) (cell (comp v0 0) 0) hole hole hole hole hole hole hole hole hole hole hole hole hole hole hole hole (cell (comp v0 0) 17) (cell (comp v0 0) 18) hole hole hole (cell x0 0)))))))))
def f7_0  (x0 y1 y2 y3 y4 y5 y6 y7 y8 y9 y10 y11 y12 y13 y14 y15 y16 y17 y18 w19 w20 w21 w22 w23 w24 w25 w26 w27 w28 w29 w30 w31 w32 w33 w34 w35 w36 w37 w38 w39 w40 w41:TV):Prg TV :=
 tv (pbin (.int .i64) .gtr x0 (I 0)) fun v3 =>
 Prg.ite (asBool v3) (
 tv (pbin (.int .i64) .eql y17 (I 0)) fun v4 =>
 Prg.ite (asBool v4) (
 chk (Bool.and (isSl w19) (Bool.and (isSc y1) (Bool.and (isSc y2) (Bool.and (isSc y3) (Bool.and (isSc y4) (Bool.and (isSc y5) (Bool.and (isSc y6) (Bool.and (isSc y7) (Bool.and (isSc y8) (Bool.and (isSc y9) (Bool.and (isSc y10) (Bool.and (isSc y11) (Bool.and (isSc y12) (Bool.and (isSc y13) (Bool.and (isSc y14) (Bool.and (isSc y15) (Bool.and (isSc y16) (Bool.and (isSl w36) (Bool.and (isSl w37) (Bool.and (isSc y17) (Bool.and (isSc y18) (Bool.and (isSl w41) true)))))))))))))))))))))) (
 call 16 [tup [w19,y1,y2,y3,y4,y5,y6,y7,y8,y9,y10,y11,y12,y13,y14,y15,y16,w36,w37,y17,y18,w41]] fun v5 =>
 chk (Bool.and (Bool.and (isTup v5 2) (isTup (comp v5 1) 22)) (Bool.and (isSl (comp (comp v5 1) 0)) (Bool.and (isSc (comp (comp v5 1) 1)) (Bool.and (isSc (comp (comp v5 1) 2)) (Bool.and (isSc (comp (comp v5 1) 3)) (Bool.and (isSc (comp (comp v5 1) 4)) (Bool.and (isSc (comp (comp v5 1) 5)) (Bool.and (isSc (comp (comp v5 1) 6)) (Bool.and (isSc (comp (comp v5 1) 7)) (Bool.and (isSc (comp (comp v5 1) 8)) (Bool.and (isSc (comp (comp v5 1) 9)) (Bool.and (isSc (comp (comp v5 1) 10)) (Bool.and (isSc (comp (comp v5 1) 11)) (Bool.and (isSc (comp (comp v5 1) 12)) (Bool.and (isSc (comp (comp v5 1) 13)) (Bool.and (isSc (comp (comp v5 1) 14)) (Bool.and (isSc (comp (comp v5 1) 15)) (Bool.and (isSc (comp (comp v5 1) 16)) (Bool.and (isSl (comp (comp v5 1) 17)) (Bool.and (isSl (comp (comp v5 1) 18)) (Bool.and (isSc (comp (comp v5 1) 19)) (Bool.and (isSc (comp (comp v5 1) 20)) (Bool.and (isSl (comp (comp v5 1) 21)) true))))))))))))))))))))))) (
 chk (isTup (comp v5 0) 0) (
 tv (pbin (.int .i64) .sub x0 (I 1)) fun v6 =>
 jmp [0,0,0,1,1,1,1] (f7_0_S v6 (comp (comp v5 1) 1) (comp (comp v5 1) 2) (comp (comp v5 1) 3) (comp (comp v5 1) 4) (comp (comp v5 1) 5) (comp (comp v5 1) 6) (comp (comp v5 1) 7) (comp (comp v5 1) 8) (comp (comp v5 1) 9) (comp (comp v5 1) 10) (comp (comp v5 1) 11) (comp (comp v5 1) 12) (comp (comp v5 1) 13) (comp (comp v5 1) 14) (comp (comp v5 1) 15) (comp (comp v5 1) 16) (comp (comp v5 1) 19) (comp (comp v5 1) 20) (comp (comp v5 1) 0) hole hole hole hole hole hole hole hole hole hole hole hole hole hole hole hole (comp (comp v5 1) 17) (comp (comp v5 1) 18) hole hole hole (comp (comp v5 1) 21)))))) (
 jmp [1,1,1,1,1] (f7_1_S y1 y2 y3 y4 y5 y6 y7 y8 y9 y10 y11 y12 y13 y14 y15 y16 y17 y18 w19 w20 w21 w22 w23 w24 w25 w26 w27 w28 w29 w30 w31 w32 w33 w34 w35 w36 w37 w38 w39 w40 w41))) (
 jmp [1,1,1,1,1] (f7_1_S y1 y2 y3 y4 y5 y6 y7 y8 y9 y10 y11 y12 y13 y14 y15 y16 y17 y18 w19 w20 w21 w22 w23 w24 w25 w26 w27 w28 w29 w30 w31 w32 w33 w34 w35 w36 w37 w38 w39 w40 w41))
def f7_1  (y0 y1 y2 y3 y4 y5 y6 y7 y8 y9 y10 y11 y12 y13 y14 y15 y16 y17 w18 w19 w20 w21 w22 w23 w24 w25 w26 w27 w28 w29 w30 w31 w32 w33 w34 w35 w36 w37 w38 w39 w40:TV):Prg TV :=
 chk (aV [agg [w18,y0,y1,y2,y3,y4,y5,y6,y7,y8,y9,y10,y11,y12,y13,y14,y15,w35,w36,y16,y17],I 0]) (
 ret (tup [agg [w18,y0,y1,y2,y3,y4,y5,y6,y7,y8,y9,y10,y11,y12,y13,y14,y15,w35,w36,y16,y17],I 0]))
theorem f7_MR (x0 x1 x2:TV):aw prog 7 [x0,x1,x2]=f7_M x0 x1 x2:=by kernel_rfl
theorem f7_0_J  {x0 y1 y2 y3 y4 y5 y6 y7 y8 y9 y10 y11 y12 y13 y14 y15 y16 y17 y18 w19 w20 w21 w22 w23 w24 w25 w26 w27 w28 w29 w30 w31 w32 w33 w34 w35 w36 w37 w38 w39 w40 w41:TV} {r:TV} (h:aa prog 7 (f7_0 x0 y1 y2 y3 y4 y5 y6 y7 y8 y9 y10 y11 y12 y13 y14 y15 y16 y17 y18 w19 w20 w21 w22 w23 w24 w25 w26 w27 w28 w29 w30 w31 w32 w33 w34 w35 w36 w37 w38 w39 w40 w41) r):aa prog 7 (.jmp [0,0,0,1,1,1,1] (f7_0_S x0 y1 y2 y3 y4 y5 y6 y7 y8 y9 y10 y11 y12 y13 y14 y15 y16 y17 y18 w19 w20 w21 w22 w23 w24 w25 w26 w27 w28 w29 w30 w31 w32 w33 w34 w35 w36 w37 w38 w39 w40 w41)) r:=aa.jmp (by kernel_rfl) h
theorem f7_1_J  {y0 y1 y2 y3 y4 y5 y6 y7 y8 y9 y10 y11 y12 y13 y14 y15 y16 y17 w18 w19 w20 w21 w22 w23 w24 w25 w26 w27 w28 w29 w30 w31 w32 w33 w34 w35 w36 w37 w38 w39 w40:TV} {r:TV} (h:aa prog 7 (f7_1 y0 y1 y2 y3 y4 y5 y6 y7 y8 y9 y10 y11 y12 y13 y14 y15 y16 y17 w18 w19 w20 w21 w22 w23 w24 w25 w26 w27 w28 w29 w30 w31 w32 w33 w34 w35 w36 w37 w38 w39 w40) r):aa prog 7 (.jmp [1,1,1,1,1] (f7_1_S y0 y1 y2 y3 y4 y5 y6 y7 y8 y9 y10 y11 y12 y13 y14 y15 y16 y17 w18 w19 w20 w21 w22 w23 w24 w25 w26 w27 w28 w29 w30 w31 w32 w33 w34 w35 w36 w37 w38 w39 w40)) r:=aa.jmp (by kernel_rfl) h
def f8_0_S  (x0 x1 y2 y3 y4 y5 y6 y7 w8 w9:TV):ASt:=⟨[AV.one CA.junk,AV.one (CA.ptr 0 0),AV.one (CA.ptr 1 0),AV.one (CA.ptr 2 0)] ++ List.replicate 17 (AV.one CA.junk) ++ [AV.tv x0,AV.tv x1] ++ List.replicate 12 (AV.one CA.junk),[some (BC.cells [CA.t y2,CA.t y3,CA.t y4]),some (BC.cells [CA.junk,CA.junk,CA.junk,CA.junk,CA.junk]),some (BC.cells [CA.t y5,CA.t y6,CA.t y7,CA.sref 3 0 [],CA.sref 4 0 []]),some (BC.tree [w8]),some (BC.tree [w9])] ++ List.replicate 60 (none),List.replicate 6 (AV.one CA.junk)⟩
def f8_1_S  (y0 y1 y2 w3 w4:TV):ASt:=⟨[AV.one CA.junk,AV.one CA.junk,AV.one (CA.ptr 0 0),AV.one (CA.ptr 1 0)] ++ List.replicate 31 (AV.one CA.junk),[some (BC.cells [CA.junk,CA.junk,CA.junk,CA.junk,CA.junk]),some (BC.cells [CA.t y0,CA.t y1,CA.t y2,CA.sref 2 0 [],CA.sref 3 0 []]),some (BC.tree [w3]),some (BC.tree [w4])] ++ List.replicate 61 (none),List.replicate 6 (AV.one CA.junk)⟩
def f8_2_S  (y0 y1 y2 w3 w4:TV):ASt:=⟨[AV.one CA.junk,AV.one CA.junk,AV.one (CA.ptr 0 0),AV.one (CA.ptr 1 0)] ++ List.replicate 31 (AV.one CA.junk),[some (BC.cells [CA.junk,CA.junk,CA.junk,CA.junk,CA.junk]),some (BC.cells [CA.t y0,CA.t y1,CA.t y2,CA.sref 2 0 [],CA.sref 3 0 []]),some (BC.tree [w3]),some (BC.tree [w4])] ++ List.replicate 61 (none),List.replicate 6 (AV.one CA.junk)⟩
def f8_3_S  (x0 y1 y2 y3 y4 y5 y6 y7 y8 w9 w10:TV):ASt:=⟨[AV.one (CA.yl 0),AV.one (CA.ptr 0 0),AV.one CA.junk,AV.tv x0] ++ List.replicate 15 (AV.one CA.junk),[some (BC.cells [CA.t y1]),some (BC.cells [CA.junk,CA.junk,CA.junk,CA.junk,CA.junk]),some (BC.cells [CA.t y2,CA.t y3,CA.t y4,CA.sref 5 0 [],CA.sref 6 0 []]),some (BC.cells [CA.t y5,CA.t y6,CA.t y7,CA.sref 5 0 [],CA.sref 6 0 []]),some (BC.cells [CA.t y8]),some (BC.tree [w9]),some (BC.tree [w10])] ++ List.replicate 106 (none),(List.replicate 8 (AV.one CA.junk) ++ [AV.one (CA.ptr 1 0),AV.one (CA.ptr 2 0)] ++ List.replicate 32 (AV.one CA.junk) ++ [AV.one (CA.ptr 3 0),AV.one CA.junk,AV.one (CA.ptr 4 0)] ++ List.replicate 6 (AV.one CA.junk) ++ [AV.clo 64 [CA.ptr 0 0]] ++ List.replicate 18 (AV.one CA.junk))⟩
def f8_M (x0:TV):Prg TV :=
 chk (TV.isAgg x0 3) (
 call 28 [agg [cell x0 0,cell x0 1,cell x0 2]] fun v0 =>
 chk (ab au [v0] 0) (
 tv (pun .not v0) fun v1 =>
 Prg.ite (asBool v1) (
 chk true (
 ret (TV.lit aI))) (
 tv (plen (.slice 55) (cell x0 2)) fun v2 =>
 nat (aj v2) fun n3 =>
 nat (aj v2) fun n4 =>
 chk (Bool.and (Nat.ble n3 n4) (Nat.ble n4 4294967296)) (
 tv (plen (.slice 55) (cell x0 2)) fun v5 =>
 nat (aj v5) fun n6 =>
 nat (aj v5) fun n7 =>
 chk (Bool.and (Nat.ble n6 n7) (Nat.ble n7 4294967296)) (
 tv (plen (.slice 55) (cell x0 2)) fun v8 =>
 jmp [0,0,1,0,1,1,1,4,0,1] (f8_0_S v8 (I 0) (cell x0 0) (cell x0 1) (cell x0 2) (cell x0 0) (cell x0 1) (cell x0 2) (TV.sl true 1 (List.replicate n3 [TV.lit aI])) (TV.sl true 1 (List.replicate n6 [TV.lit aI]))))))))
def f8_0  (x0 x1 y2 y3 y4 y5 y6 y7 w8 w9:TV):Prg TV :=
 tv (pbin (.int .i64) .lss x1 x0) fun v9 =>
 Prg.ite (asBool v9) (
 nat (aj y3) fun n10 =>
 nat (aj y3) fun n11 =>
 chk (Bool.and (Nat.ble n10 n11) (Nat.ble n11 4294967296)) (
 tvs (pidx 14 y7 x1) fun e12 =>
 chk (Nat.ble 14 (List.length e12)) (
 call 45 [agg [nth hole e12 0,nth hole e12 1,nth hole e12 2,nth hole e12 3,nth hole e12 4,nth hole e12 5,nth hole e12 6,nth hole e12 7,nth hole e12 8,nth hole e12 9,nth hole e12 10,nth hole e12 11,nth hole e12 12,nth hole e12 13],frz (TV.sl true 1 (List.replicate n10 [B false]))] fun v13 =>
 chk (ab zSl [v13] 0) (
 nat (slLen w8) fun n14 =>
 nat (aj x1) fun n15 =>
 chk (Bool.and (slSize w8 1) (Nat.blt n15 n14)) (
 tvs (pel w8 n15) fun e16 =>
 chk (Bool.and (a7 zSl e16 0) (ab zSl [v13] 0)) (
 tv (bI [] w8 n15 0 [v13]) fun v17 =>
 nat (slLen w9) fun n18 =>
 nat (aj x1) fun n19 =>
 chk (Bool.and (slSize w9 1) (Nat.blt n19 n18)) (
 tvs (pel w9 n19) fun e20 =>
 chk (Bool.and (a7 zSl e20 0) (ab zSl [TV.sl true 1 (List.replicate n10 [B false])] 0)) (
 tv (bI [] w9 n19 0 [TV.sl true 1 (List.replicate n10 [B false])]) fun v21 =>
 tv (pbin (.int .i64) .add x1 (I 1)) fun v22 =>
 jmp [0,0,1,0,1,1,1,4,0,1] (f8_0_S x0 v22 y2 y3 y4 y5 y6 y7 v17 v21))))))))) (
 jmp [1,1,1,1,4,0,1] (f8_1_S y5 y6 y7 w8 w9))
def f8_1  (y0 y1 y2 w3 w4:TV):Prg TV :=
 jmp [0,0,0,1,1,1,1,4,0,1] (f8_2_S y0 y1 y2 w3 w4)
def f8_2  (y0 y1 y2 w3 w4:TV):Prg TV :=
 tv (plen (.slice 55) y2) fun v23 =>
 tv (pbin (.int .i64) .sub v23 (I 1)) fun v24 =>
 jmp [0,0,1,64,0,1,0,1,1,4,0,0,0,0,0,1,1,1,1,4,0,1] (f8_3_S v24 y2 y0 y1 y2 y0 y1 y2 (B false) w3 w4)
def f8_3  (x0 y1 y2 y3 y4 y5 y6 y7 y8 w9 w10:TV):Prg TV :=
 tv (pbin (.int .i64) .geq x0 (I 0)) fun v25 =>
 Prg.ite (asBool v25) (
 tvs (pidx 14 y1 x0) fun e26 =>
 chk (Nat.ble 14 (List.length e26)) (
 call 47 [agg [y5,y6,y7,frz w9,frz w10],agg [nth hole e26 0,nth hole e26 1,nth hole e26 2,nth hole e26 3,nth hole e26 4,nth hole e26 5,nth hole e26 6,nth hole e26 7,nth hole e26 8,nth hole e26 9,nth hole e26 10,nth hole e26 11,nth hole e26 12,nth hole e26 13]] fun v27 =>
 chk (ab zSl [v27] 0) (
 nat (slLen w10) fun n28 =>
 nat (aj x0) fun n29 =>
 chk (Bool.and (slSize w10 1) (Nat.blt n29 n28)) (
 tvs (pel w10 n29) fun e30 =>
 chk (ab zSl e30 0) (
 tv (aF [(n29,0)] w10) fun v31 =>
 call 48 [frz v27,frz v31] fun v32 =>
 chk (ab au [v32] 0) (
 tv (pun .not v32) fun v33 =>
 Prg.ite (asBool v33) (
 tvs (pidx 14 y7 x0) fun e34 =>
 chk (Nat.ble 14 (List.length e34)) (
 call 45 [agg [nth hole e34 0,nth hole e34 1,nth hole e34 2,nth hole e34 3,nth hole e34 4,nth hole e34 5,nth hole e34 6,nth hole e34 7,nth hole e34 8,nth hole e34 9,nth hole e34 10,nth hole e34 11,nth hole e34 12,nth hole e34 13],frz v27] fun v35 =>
 chk (ab zSl [v35] 0) (
 nat (slLen w9) fun n36 =>
 nat (aj x0) fun n37 =>
 chk (Bool.and (slSize w9 1) (Nat.blt n37 n36)) (
 tvs (pel w9 n37) fun e38 =>
 chk (Bool.and (a7 zSl e38 0) (ab zSl [v35] 0)) (
 tv (bI [] w9 n37 0 [v35]) fun v39 =>
 nat (slLen w10) fun n40 =>
 nat (aj x0) fun n41 =>
 chk (Bool.and (slSize w10 1) (Nat.blt n41 n40)) (
 tvs (pel w10 n41) fun e42 =>
 chk (Bool.and (a7 zSl e42 0) (ab zSl [v27] 0)) (
 tv (bI [] w10 n41 0 [v27]) fun v43 =>
 tv (pbin (.int .i64) .sub x0 (I 1)) fun v44 =>
 jmp [0,0,1,64,0,1,0,1,1,4,0,0,0,0,0,1,1,1,1,4,0,1] (f8_3_S v44 y1 y2 y3 y4 y5 y6 y7 (B true) v39 v43)))))))) (
 tv (pbin (.int .i64) .sub x0 (I 1)) fun v45 =>
 jmp [0,0,1,64,0,1,0,1,1,4,0,0,0,0,0,1,1,1,1,4,0,1] (f8_3_S v45 y1 y2 y3 y4 y5 y6 y7 y8 w9 w10)))))))) (
 Prg.ite (asBool y8) (
 jmp [0,0,0,1,1,1,1,4,0,1] (f8_2_S y2 y3 y4 w9 w10)) (
 chk (isOwn w9) (
 ret w9)))
theorem f8_MR (x0:TV):aw prog 8 [x0]=f8_M x0:=by kernel_rfl
theorem f8_0_J  {x0 x1 y2 y3 y4 y5 y6 y7 w8 w9:TV} {r:TV} (h:aa prog 8 (f8_0 x0 x1 y2 y3 y4 y5 y6 y7 w8 w9) r):aa prog 8 (.jmp [0,0,1,0,1,1,1,4,0,1] (f8_0_S x0 x1 y2 y3 y4 y5 y6 y7 w8 w9)) r:=aa.jmp (by kernel_rfl) h
theorem f8_1_J  {y0 y1 y2 w3 w4:TV} {r:TV} (h:aa prog 8 (f8_1 y0 y1 y2 w3 w4) r):aa prog 8 (.jmp [1,1,1,1,4,0,1] (f8_1_S y0 y1 y2 w3 w4)) r:=aa.jmp (by kernel_rfl) h
theorem f8_2_J  {y0 y1 y2 w3 w4:TV} {r:TV} (h:aa prog 8 (f8_2 y0 y1 y2 w3 w4) r):aa prog 8 (.jmp [0,0,0,1,1,1,1,4,0,1] (f8_2_S y0 y1 y2 w3 w4)) r:=aa.jmp (by kernel_rfl) h
theorem f8_3_J  {x0 y1 y2 y3 y4 y5 y6 y7 y8 w9 w10:TV} {r:TV} (h:aa prog 8 (f8_3 x0 y1 y2 y3 y4 y5 y6 y7 y8 w9 w10) r):aa prog 8 (.jmp [0,0,1,64,0,1,0,1,1,4,0,0,0,0,0,1,1,1,1,4,0,1] (f8_3_S x0 y1 y2 y3 y4 y5 y6 y7 y8 w9 w10)) r:=aa.jmp (by kernel_rfl) h
def f9_0_S  (x0 x1 y2 y3 y4 y5 y6 y7 y8 y9 y10 y11 y12 y13 y14 y15 y16 y17 y18 y19 y20 y21 w22:TV):ASt:=⟨[AV.one CA.junk,AV.one (CA.ptr 0 0),AV.one (CA.ptr 1 0)] ++ List.replicate 7 (AV.one CA.junk) ++ [AV.tv x0,AV.tv x1] ++ List.replicate 24 (AV.one CA.junk),[some (BC.cells [CA.sref 2 0 [],CA.t y2,CA.t y3,CA.t y4,CA.t y5,CA.t y6,CA.t y7,CA.t y8,CA.t y9,CA.t y10,CA.t y11,CA.t y12,CA.t y13,CA.t y14,CA.t y15,CA.t y16,CA.t y17,CA.t y18,CA.t y19,CA.t y20,CA.t y21]),some (BC.cells [CA.junk,CA.junk,CA.junk,CA.junk,CA.junk,CA.junk,CA.junk,CA.junk,CA.junk,CA.junk,CA.junk,CA.junk,CA.junk,CA.junk,CA.junk,CA.junk,CA.junk,CA.junk,CA.junk,CA.junk,CA.junk]),some (BC.tree [w22])] ++ List.replicate 57 (none),[]⟩
def f9_1_S  (y0 y1 y2 y3 y4 y5 y6 y7 y8 y9 y10 y11 y12 y13 y14 y15 y16 y17 y18 y19 w20:TV):ASt:=⟨[AV.one CA.junk,AV.one (CA.ptr 0 0),AV.one (CA.ptr 1 0)] ++ List.replicate 33 (AV.one CA.junk),[some (BC.cells [CA.sref 2 0 [],CA.t y0,CA.t y1,CA.t y2,CA.t y3,CA.t y4,CA.t y5,CA.t y6,CA.t y7,CA.t y8,CA.t y9,CA.t y10,CA.t y11,CA.t y12,CA.t y13,CA.t y14,CA.t y15,CA.t y16,CA.t y17,CA.t y18,CA.t y19]),some (BC.cells [CA.junk,CA.junk,CA.junk,CA.junk,CA.junk,CA.junk,CA.junk,CA.junk,CA.junk,CA.junk,CA.junk,CA.junk,CA.junk,CA.junk,CA.junk,CA.junk,CA.junk,CA.junk,CA.junk,CA.junk,CA.junk]),some (BC.tree [w20])] ++ List.replicate 57 (none),[]⟩
def f9_M (x0:TV):Prg TV :=
 chk (TV.isAgg x0 21) (
 call 18 [cell x0 0] fun v0 =>
 chk (ab zSl [v0] 0) (
 tv (plen (.slice 38) v0) fun v1 =>
 jmp [0,0,1,0,1,1] (f9_0_S v1 (I 0) (cell x0 1) (cell x0 2) (cell x0 3) (cell x0 4) (cell x0 5) (cell x0 6) (cell x0 7) (cell x0 8) (cell x0 9) (cell x0 10) (cell x0 11) (cell x0 12) (cell x0 13) (cell x0 14) (cell x0 15) (cell x0 16) (cell x0 17) (cell x0 18) (cell x0 19) (cell x0 20) v0)))
def f9_0  (x0 x1 y2 y3 y4 y5 y6 y7 y8 y9 y10 y11 y12 y13 y14 y15 y16 y17 y18 y19 y20 y21 w22:TV):Prg TV :=
 tv (pbin (.int .i64) .lss x1 x0) fun v2 =>
 Prg.ite (asBool v2) (
 nat (slLen w22) fun n3 =>
 nat (aj x1) fun n4 =>
 chk (Bool.and (slSize w22 5) (Nat.blt n4 n3)) (
 tvs (pel w22 n4) fun e5 =>
 chk (ab zSl e5 3) (
 tv (aF [(n4,3)] w22) fun v6 =>
 call 19 [frz v6] fun v7 =>
 chk (ab zSl [v7] 0) (
 nat (slLen w22) fun n8 =>
 nat (aj x1) fun n9 =>
 chk (Bool.and (slSize w22 5) (Nat.blt n9 n8)) (
 tvs (pel w22 n9) fun e10 =>
 chk (Bool.and (a7 zSl e10 3) (ab zSl [v7] 0)) (
 tv (bI [] w22 n9 3 [v7]) fun v11 =>
 tv (pbin (.int .i64) .add x1 (I 1)) fun v12 =>
 jmp [0,0,1,0,1,1] (f9_0_S x0 v12 y2 y3 y4 y5 y6 y7 y8 y9 y10 y11 y12 y13 y14 y15 y16 y17 y18 y19 y20 y21 v11))))))) (
 jmp [1,1,1] (f9_1_S y2 y3 y4 y5 y6 y7 y8 y9 y10 y11 y12 y13 y14 y15 y16 y17 y18 y19 y20 y21 w22))
def f9_1  (y0 y1 y2 y3 y4 y5 y6 y7 y8 y9 y10 y11 y12 y13 y14 y15 y16 y17 y18 y19 w20:TV):Prg TV :=
 call 19 [y16] fun v13 =>
 chk (ab zSl [v13] 0) (
 call 20 [y17] fun v14 =>
 chk (ab zSl [v14] 0) (
 chk (isOwn (agg [w20,y0,y1,y2,y3,y4,y5,y6,y7,y8,y9,y10,y11,y12,y13,y14,y15,v13,v14,y18,y19])) (
 ret (agg [w20,y0,y1,y2,y3,y4,y5,y6,y7,y8,y9,y10,y11,y12,y13,y14,y15,v13,v14,y18,y19]))))
theorem f9_MR (x0:TV):aw prog 9 [x0]=f9_M x0:=by kernel_rfl
theorem f9_0_J  {x0 x1 y2 y3 y4 y5 y6 y7 y8 y9 y10 y11 y12 y13 y14 y15 y16 y17 y18 y19 y20 y21 w22:TV} {r:TV} (h:aa prog 9 (f9_0 x0 x1 y2 y3 y4 y5 y6 y7 y8 y9 y10 y11 y12 y13 y14 y15 y16 y17 y18 y19 y20 y21 w22) r):aa prog 9 (.jmp [0,0,1,0,1,1] (f9_0_S x0 x1 y2 y3 y4 y5 y6 y7 y8 y9 y10 y11 y12 y13 y14 y15 y16 y17 y18 y19 y20 y21 w22)) r:=aa.jmp (by kernel_rfl) h
theorem f9_1_J  {y0 y1 y2 y3 y4 y5 y6 y7 y8 y9 y10 y11 y12 y13 y14 y15 y16 y17 y18 y19 w20:TV} {r:TV} (h:aa prog 9 (f9_1 y0 y1 y2 y3 y4 y5 y6 y7 y8 y9 y10 y11 y12 y13 y14 y15 y16 y17 y18 y19 w20) r):aa prog 9 (.jmp [1,1,1] (f9_1_S y0 y1 y2 y3 y4 y5 y6 y7 y8 y9 y10 y11 y12 y13 y14 y15 y16 y17 y18 y19 w20)) r:=aa.jmp (by kernel_rfl) h
def f10_0_S  (y0 y1 y2 y3 y4 y5 y6 y7 y8 y9 y10 y11 y12 y13 y14 y15 y16 y17 w18 w19 w20 w21:TV):ASt:=⟨List.replicate 4 (AV.one CA.junk) ++ [AV.one (CA.ptr 0 0),AV.one CA.junk,AV.one (CA.ptr 1 0)] ++ List.replicate 17 (AV.one CA.junk),[some (BC.cells [CA.junk,CA.junk,CA.junk,CA.junk,CA.junk,CA.junk,CA.junk,CA.junk,CA.junk,CA.junk,CA.junk,CA.junk,CA.junk,CA.junk,CA.junk,CA.junk,CA.junk,CA.junk,CA.junk,CA.junk,CA.junk]),some (BC.cells [CA.sref 2 0 [],CA.t y0,CA.t y1,CA.t y2,CA.t y3,CA.t y4,CA.t y5,CA.t y6,CA.t y7,CA.t y8,CA.t y9,CA.t y10,CA.t y11,CA.t y12,CA.t y13,CA.t y14,CA.t y15,CA.sref 3 0 [],CA.sref 4 0 [],CA.t y16,CA.t y17,CA.sref 5 0 []]),some (BC.tree [w18]),some (BC.tree [w19]),some (BC.tree [w20]),some (BC.tree [w21])] ++ List.replicate 42 (none),[]⟩
def f10_M (x0 x1:TV):Prg TV :=
 chk (TV.isAgg x0 1) (
 chk (TV.isAgg x1 21) (
 call 21 [agg [cell x0 0],agg [cell x1 0,cell x1 1,cell x1 2,cell x1 3,cell x1 4,cell x1 5,cell x1 6,cell x1 7,cell x1 8,cell x1 9,cell x1 10,cell x1 11,cell x1 12,cell x1 13,cell x1 14,cell x1 15,cell x1 16,cell x1 17,cell x1 18,cell x1 19,cell x1 20]] fun v0 =>
 chk (ab au [v0] 0) (
 tv (pun .not v0) fun v1 =>
 Prg.ite (asBool v1) (
 call 9 [agg [cell x1 0,cell x1 1,cell x1 2,cell x1 3,cell x1 4,cell x1 5,cell x1 6,cell x1 7,cell x1 8,cell x1 9,cell x1 10,cell x1 11,cell x1 12,cell x1 13,cell x1 14,cell x1 15,cell x1 16,cell x1 17,cell x1 18,cell x1 19,cell x1 20]] fun v2 =>
 chk (Bool.and (TV.isAgg v2 21) (ab z32 (cellsL true v2) 0)) (
 chk (aV [agg [cell v2 0,cell v2 1,cell v2 2,cell v2 3,cell v2 4,cell v2 5,cell v2 6,cell v2 7,cell v2 8,cell v2 9,cell v2 10,cell v2 11,cell v2 12,cell v2 13,cell v2 14,cell v2 15,cell v2 16,cell v2 17,cell v2 18,cell v2 19,cell v2 20],I 1]) (
 ret (tup [agg [cell v2 0,cell v2 1,cell v2 2,cell v2 3,cell v2 4,cell v2 5,cell v2 6,cell v2 7,cell v2 8,cell v2 9,cell v2 10,cell v2 11,cell v2 12,cell v2 13,cell v2 14,cell v2 15,cell v2 16,cell v2 17,cell v2 18,cell v2 19,cell v2 20],I 1])))) (
 call 9 [agg [cell x1 0,cell x1 1,cell x1 2,cell x1 3,cell x1 4,cell x1 5,cell x1 6,cell x1 7,cell x1 8,cell x1 9,cell x1 10,cell x1 11,cell x1 12,cell x1 13,cell x1 14,cell x1 15,cell x1 16,cell x1 17,cell x1 18,cell x1 19,cell x1 20]] fun v3 =>
 chk (Bool.and (TV.isAgg v3 21) (ab z32 (cellsL true v3) 0)) (
 tv (pbin (.int .i64) .eql (cell v3 19) (I 0)) fun v4 =>
 Prg.ite (asBool v4) (
 chk (Bool.and (isSl (cell v3 0)) (Bool.and (isSc (cell v3 1)) (Bool.and (isSc (cell v3 2)) (Bool.and (isSc (cell v3 3)) (Bool.and (isSc (cell v3 4)) (Bool.and (isSc (cell v3 5)) (Bool.and (isSc (cell v3 6)) (Bool.and (isSc (cell v3 7)) (Bool.and (isSc (cell v3 8)) (Bool.and (isSc (cell v3 9)) (Bool.and (isSc (cell v3 10)) (Bool.and (isSc (cell v3 11)) (Bool.and (isSc (cell v3 12)) (Bool.and (isSc (cell v3 13)) (Bool.and (isSc (cell v3 14)) (Bool.and (isSc (cell v3 15)) (Bool.and (isSc (cell v3 16)) (Bool.and (isSl (cell v3 17)) (Bool.and (isSl (cell v3 18)) (Bool.and (isSc (cell v3 19)) (Bool.and (isSc (cell v3 20)) (Bool.and (isSl (cell x0 0)) true)))))))))))))))))))))) (
 call 16 [tup [cell v3 0,cell v3 1,cell v3 2,cell v3 3,cell v3 4,cell v3 5,cell v3 6,cell v3 7,cell v3 8,cell v3 9,cell v3 10,cell v3 11,cell v3 12,cell v3 13,cell v3 14,cell v3 15,cell v3 16,cell v3 17,cell v3 18,cell v3 19,cell v3 20,cell x0 0]] fun v5 =>
 chk (Bool.and (Bool.and (isTup v5 2) (isTup (comp v5 1) 22)) (Bool.and (isSl (comp (comp v5 1) 0)) (Bool.and (isSc (comp (comp v5 1) 1)) (Bool.and (isSc (comp (comp v5 1) 2)) (Bool.and (isSc (comp (comp v5 1) 3)) (Bool.and (isSc (comp (comp v5 1) 4)) (Bool.and (isSc (comp (comp v5 1) 5)) (Bool.and (isSc (comp (comp v5 1) 6)) (Bool.and (isSc (comp (comp v5 1) 7)) (Bool.and (isSc (comp (comp v5 1) 8)) (Bool.and (isSc (comp (comp v5 1) 9)) (Bool.and (isSc (comp (comp v5 1) 10)) (Bool.and (isSc (comp (comp v5 1) 11)) (Bool.and (isSc (comp (comp v5 1) 12)) (Bool.and (isSc (comp (comp v5 1) 13)) (Bool.and (isSc (comp (comp v5 1) 14)) (Bool.and (isSc (comp (comp v5 1) 15)) (Bool.and (isSc (comp (comp v5 1) 16)) (Bool.and (isSl (comp (comp v5 1) 17)) (Bool.and (isSl (comp (comp v5 1) 18)) (Bool.and (isSc (comp (comp v5 1) 19)) (Bool.and (isSc (comp (comp v5 1) 20)) (Bool.and (isSl (comp (comp v5 1) 21)) true))))))))))))))))))))))) (
 chk (isTup (comp v5 0) 0) (
 jmp [1,1,1,1] (f10_0_S (comp (comp v5 1) 1) (comp (comp v5 1) 2) (comp (comp v5 1) 3) (comp (comp v5 1) 4) (comp (comp v5 1) 5) (comp (comp v5 1) 6) (comp (comp v5 1) 7) (comp (comp v5 1) 8) (comp (comp v5 1) 9) (comp (comp v5 1) 10) (comp (comp v5 1) 11) (comp (comp v5 1) 12) (comp (comp v5 1) 13) (comp (comp v5 1) 14) (comp (comp v5 1) 15) (comp (comp v5 1) 16) (comp (comp v5 1) 19) (comp (comp v5 1) 20) (comp (comp v5 1) 0) (comp (comp v5 1) 17) (comp (comp v5 1) 18) (comp (comp v5 1) 21)))))) (
 chk (isSl (cell x0 0)) (
 jmp [1,1,1,1] (f10_0_S (cell v3 1) (cell v3 2) (cell v3 3) (cell v3 4) (cell v3 5) (cell v3 6) (cell v3 7) (cell v3 8) (cell v3 9) (cell v3 10) (cell v3 11) (cell v3 12) (cell v3 13) (cell v3 14) (cell v3 15) (cell v3 16) (cell v3 19) (cell v3 20) (cell v3 0) (cell v3 17) (cell v3 18) (cell x0 0)))))))))
def f10_0  (y0 y1 y2 y3 y4 y5 y6 y7 y8 y9 y10 y11 y12 y13 y14 y15 y16 y17 w18 w19 w20 w21:TV):Prg TV :=
 chk (aV [agg [w18,y0,y1,y2,y3,y4,y5,y6,y7,y8,y9,y10,y11,y12,y13,y14,y15,w19,w20,y16,y17],I 0]) (
 ret (tup [agg [w18,y0,y1,y2,y3,y4,y5,y6,y7,y8,y9,y10,y11,y12,y13,y14,y15,w19,w20,y16,y17],I 0]))
theorem f10_MR (x0 x1:TV):aw prog 10 [x0,x1]=f10_M x0 x1:=by kernel_rfl
theorem f10_0_J  {y0 y1 y2 y3 y4 y5 y6 y7 y8 y9 y10 y11 y12 y13 y14 y15 y16 y17 w18 w19 w20 w21:TV} {r:TV} (h:aa prog 10 (f10_0 y0 y1 y2 y3 y4 y5 y6 y7 y8 y9 y10 y11 y12 y13 y14 y15 y16 y17 w18 w19 w20 w21) r):aa prog 10 (.jmp [1,1,1,1] (f10_0_S y0 y1 y2 y3 y4 y5 y6 y7 y8 y9 y10 y11 y12 y13 y14 y15 y16 y17 w18 w19 w20 w21)) r:=aa.jmp (by kernel_rfl) h
end Go.Ab.A10

import Derived.Test.YthmcbcepgchhcaaEU7T
set_option linter.unusedVariables false
set_option maxRecDepth 100000
namespace Go.Ab.U7
open Go Go.Ab Go.Proofs
open Go.Ab.TV (hole cell comp isSl isSc isTup cellsL tup agg)
open Go.Ab.Prg (tv tvs rws nat chk call jmp ret)
def f9_0_S  (x0 y1 y2 y3 y4 y5 y6 y7 y8 y9 y10 y11 y12 y13 y14 y15 y16 y17 y18 y19 w20 w21 w22 w23 w24 w25 w26 w27 w28 w29 w30 w31 w32 w33 w34 w35 w36 w37 w38 w39 w40 w41:TV):ASt:=⟨[AV.one CA.junk,AV.one CA.junk,AV.one CA.junk,AV.one (CA.ptr 0 0),AV.one CA.junk,AV.one CA.junk,AV.one CA.junk,AV.one (CA.ptr 1 0),AV.one CA.junk,AV.tv x0] ++ List.replicate 47 (AV.one CA.junk),[some (BC.cells [CA.t y1]),some (BC.cells [CA.sref 2 0 [],CA.t y2,CA.t y3,CA.t y4,CA.t y5,CA.t y6,CA.t y7,CA.t y8,CA.t y9,CA.t y10,CA.t y11,CA.t y12,CA.t y13,CA.t y14,CA.t y15,CA.t y16,CA.t y17,CA.sref 2 17 [],CA.sref 2 18 [],CA.t y18,CA.t y19]),some (BC.tree [w20,w21,w22,w23,w24,w25,w26,w27,w28,w29,w30,w31,w32,w33,w34,w35,w36,w37,w38,w39,w40,w41])] ++ List.replicate 78 (none),[]⟩
def f9_M (x0 x1 x2:TV):Prg TV :=
 chk (TV.isAgg x0 1) (
 call 22 [] fun v0 =>
 chk (fitsAt zBool [v0] 0) (
 tv (pun .not v0) fun v1 =>
 Prg.ite (asBool v1) (
 ret (B false)) (
 call 12 [agg [cell x0 0],x1] fun v2 =>
 chk (fitsAt zBool [v2] 0) (
 tv (pun .not v2) fun v3 =>
 Prg.ite (asBool v3) (
 ret (B true)) (
 tv (pbin (.int .u8) .rem x2 (TV.lit (Value.int IntKind.u8 (200:Int)))) fun v4 =>
 tv (pconv (.int .i64) v4) fun v5 =>
 call 13 [agg [cell x0 0],x1,v5] fun v6 =>
 chk (isTup v6 2) (
 chk (Bool.and (TV.isAgg (comp v6 0) 21) (fitsAt z32 (cellsL true (comp v6 0)) 0)) (
 chk (fitsAt zInt [comp v6 1] 0) (
 tv (pbin (.int .i64) .neq (comp v6 1) (I 0)) fun v7 =>
 Prg.ite (asBool v7) (
 call 15 [agg [frz (cell (comp v6 0) 0),cell (comp v6 0) 1,cell (comp v6 0) 2,cell (comp v6 0) 3,cell (comp v6 0) 4,cell (comp v6 0) 5,cell (comp v6 0) 6,cell (comp v6 0) 7,cell (comp v6 0) 8,cell (comp v6 0) 9,cell (comp v6 0) 10,cell (comp v6 0) 11,cell (comp v6 0) 12,cell (comp v6 0) 13,cell (comp v6 0) 14,cell (comp v6 0) 15,cell (comp v6 0) 16,frz (cell (comp v6 0) 17),frz (cell (comp v6 0) 18),cell (comp v6 0) 19,cell (comp v6 0) 20],agg [TV.lit nilV,W 0,W 0,W 0,W 0,W 0,W 0,W 0,W 0,W 0,W 0,W 0,W 0,W 0,W 0,W 0,W 0,TV.lit nilV,TV.lit nilV,I 0,W 0]] fun v8 =>
 chk (fitsAt zBool [v8] 0) (
 ret v8)) (
 jmp [0,0,1,0,1,1,1,1,1] (f9_0_S (I 0) (cell x0 0) (cell (comp v6 0) 1) (cell (comp v6 0) 2) (cell (comp v6 0) 3) (cell (comp v6 0) 4) (cell (comp v6 0) 5) (cell (comp v6 0) 6) (cell (comp v6 0) 7) (cell (comp v6 0) 8) (cell (comp v6 0) 9) (cell (comp v6 0) 10) (cell (comp v6 0) 11) (cell (comp v6 0) 12) (cell (comp v6 0) 13) (cell (comp v6 0) 14) (cell (comp v6 0) 15) (cell (comp v6 0) 16) (cell (comp v6 0) 19) (cell (comp v6 0) 20) (cell (comp v6 0) 0) hole hole hole hole hole hole hole hole hole hole hole hole hole hole hole hole (cell (comp v6 0) 17) (cell (comp v6 0) 18) hole hole hole))))))))))
def f9_0  (x0 y1 y2 y3 y4 y5 y6 y7 y8 y9 y10 y11 y12 y13 y14 y15 y16 y17 y18 y19 w20 w21 w22 w23 w24 w25 w26 w27 w28 w29 w30 w31 w32 w33 w34 w35 w36 w37 w38 w39 w40 w41:TV):Prg TV :=
 tv (plen (.slice 47) w20) fun v9 =>
 tv (pbin (.int .i64) .lss x0 v9) fun v10 =>
 Prg.ite (asBool v10) (
 nat (slLen w20) fun n11 =>
 nat (asNat x0) fun n12 =>
 chk (Bool.and (slSize w20 5) (Nat.blt n12 n11)) (
 tvs (pel w20 n12) fun e13 =>
 chk (fitsAt zInt e13 0) (
 tvs (pidx 3 y1 (nth hole e13 0)) fun e14 =>
 chk (Nat.ble 3 (List.length e14)) (
 call 29 [agg [nth hole e14 0,nth hole e14 1,nth hole e14 2]] fun v15 =>
 chk (fitsAt zSl [v15] 0) (
 nat (slLen w20) fun n16 =>
 nat (asNat x0) fun n17 =>
 chk (Bool.and (slSize w20 5) (Nat.blt n17 n16)) (
 tvs (pel w20 n17) fun e18 =>
 chk (fitsAt zInt e18 1) (
 nat (slLen v15) fun n19 =>
 nat (asNat (nth hole e18 1)) fun n20 =>
 chk (Bool.and (slSize v15 1) (Nat.blt n20 n19)) (
 tvs (pel v15 n20) fun e21 =>
 chk (fitsAt zBool e21 0) (
 tv (pun .not (nth hole e21 0)) fun v22 =>
 Prg.ite (asBool v22) (
 ret (B false)) (
 tv (pbin (.int .i64) .add x0 (I 1)) fun v23 =>
 jmp [0,0,1,0,1,1,1,1,1] (f9_0_S v23 y1 y2 y3 y4 y5 y6 y7 y8 y9 y10 y11 y12 y13 y14 y15 y16 y17 y18 y19 w20 w21 w22 w23 w24 w25 w26 w27 w28 w29 w30 w31 w32 w33 w34 w35 w36 w37 w38 w39 w40 w41))))))))))) (
 ret (B true))
theorem f9_MR (x0 x1 x2:TV):startQ prog 9 [x0,x1,x2]=f9_M x0 x1 x2:=by kernel_rfl
theorem f9_0_J  {x0 y1 y2 y3 y4 y5 y6 y7 y8 y9 y10 y11 y12 y13 y14 y15 y16 y17 y18 y19 w20 w21 w22 w23 w24 w25 w26 w27 w28 w29 w30 w31 w32 w33 w34 w35 w36 w37 w38 w39 w40 w41:TV} {r:TV} (h:Goes prog 9 (f9_0 x0 y1 y2 y3 y4 y5 y6 y7 y8 y9 y10 y11 y12 y13 y14 y15 y16 y17 y18 y19 w20 w21 w22 w23 w24 w25 w26 w27 w28 w29 w30 w31 w32 w33 w34 w35 w36 w37 w38 w39 w40 w41) r):Goes prog 9 (.jmp [0,0,1,0,1,1,1,1,1] (f9_0_S x0 y1 y2 y3 y4 y5 y6 y7 y8 y9 y10 y11 y12 y13 y14 y15 y16 y17 y18 y19 w20 w21 w22 w23 w24 w25 w26 w27 w28 w29 w30 w31 w32 w33 w34 w35 w36 w37 w38 w39 w40 w41)) r:=Goes.jmp (by kernel_rfl) h
def f12_M (x0 x1:TV):Prg TV :=
 chk (TV.isAgg x0 1) (
 call 34 [agg [cell x0 0]] fun v0 =>
 chk (fitsAt zBool [v0] 0) (
 Prg.ite (asBool v0) (
 tv (plen (.slice 29) x1) fun v1 =>
 tv (pbin (.int .i64) .leq v1 (I 30)) fun v2 =>
 ret v2) (
 ret (B false))))
theorem f12_MR (x0 x1:TV):startQ prog 12 [x0,x1]=f12_M x0 x1:=by kernel_rfl
def f13_0_S  (x0 y1 y2 y3 y4 y5 y6 y7 y8 y9 y10 y11 y12 y13 y14 y15 y16 y17 y18 w19 w20 w21 w22 w23 w24 w25 w26 w27 w28 w29 w30 w31 w32 w33 w34 w35 w36 w37 w38 w39 w40 w41:TV):ASt:=⟨[AV.one CA.junk,AV.one CA.junk,AV.tv x0,AV.one CA.junk,AV.one CA.junk,AV.one CA.junk,AV.one (CA.ptr 0 0),AV.one CA.junk,AV.one CA.junk,AV.one CA.junk,AV.one (CA.ptr 1 0)] ++ List.replicate 29 (AV.one CA.junk),[some (BC.cells [CA.junk,CA.junk,CA.junk,CA.junk,CA.junk,CA.junk,CA.junk,CA.junk,CA.junk,CA.junk,CA.junk,CA.junk,CA.junk,CA.junk,CA.junk,CA.junk,CA.junk,CA.junk,CA.junk,CA.junk,CA.junk]),some (BC.cells [CA.sref 2 0 [],CA.t y1,CA.t y2,CA.t y3,CA.t y4,CA.t y5,CA.t y6,CA.t y7,CA.t y8,CA.t y9,CA.t y10,CA.t y11,CA.t y12,CA.t y13,CA.t y14,CA.t y15,CA.t y16,CA.sref 2 17 [],CA.sref 2 18 [],CA.t y17,CA.t y18,CA.sref 3 0 []]),some (BC.tree [w19,w20,w21,w22,w23,w24,w25,w26,w27,w28,w29,w30,w31,w32,w33,w34,w35,w36,w37,w38,w39,w40]),some (BC.tree [w41])] ++ List.replicate 60 (none),[]⟩
def f13_1_S  (y0 y1 y2 y3 y4 y5 y6 y7 y8 y9 y10 y11 y12 y13 y14 y15 y16 y17 w18 w19 w20 w21 w22 w23 w24 w25 w26 w27 w28 w29 w30 w31 w32 w33 w34 w35 w36 w37 w38 w39 w40:TV):ASt:=⟨List.replicate 6 (AV.one CA.junk) ++ [AV.one (CA.ptr 0 0),AV.one CA.junk,AV.one CA.junk,AV.one CA.junk,AV.one (CA.ptr 1 0)] ++ List.replicate 29 (AV.one CA.junk),[some (BC.cells [CA.junk,CA.junk,CA.junk,CA.junk,CA.junk,CA.junk,CA.junk,CA.junk,CA.junk,CA.junk,CA.junk,CA.junk,CA.junk,CA.junk,CA.junk,CA.junk,CA.junk,CA.junk,CA.junk,CA.junk,CA.junk]),some (BC.cells [CA.sref 2 0 [],CA.t y0,CA.t y1,CA.t y2,CA.t y3,CA.t y4,CA.t y5,CA.t y6,CA.t y7,CA.t y8,CA.t y9,CA.t y10,CA.t y11,CA.t y12,CA.t y13,CA.t y14,CA.t y15,CA.sref 2 17 [],CA.sref 2 18 [],CA.t y16,CA.t y17,CA.sref 3 0 []]),some (BC.tree [w18,w19,w20,w21,w22,w23,w24,w25,w26,w27,w28,w29,w30,w31,w32,w33,w34,w35,w36,w37,w38,w39]),some (BC.tree [w40])] ++ List.replicate 60 (none),[]⟩
def f13_M (x0 x1 x2:TV):Prg TV :=
 chk (TV.isAgg x0 1) (
 call 35 [agg [cell x0 0],x1] fun v0 =>
 chk (isTup v0 2) (
 chk (Bool.and (TV.isAgg (comp v0 0) 21) (fitsAt z32 (cellsL true (comp v0 0)) 0)) (
 chk (fitsAt zInt [comp v0 1] 0) (
 tv (pbin (.int .i64) .neq (comp v0 1) (I 0)) fun v1 =>
 Prg.ite (asBool v1) (
 chk true (
 ret (tup [agg [TV.lit nilV,W 0,W 0,W 0,W 0,W 0,W 0,W 0,W 0,W 0,W 0,W 0,W 0,W 0,W 0,W 0,W 0,TV.lit nilV,TV.lit nilV,I 0,W 0],I 1]))) (
 tv (pbin (.int .i64) .gtr x2 (I 1048576)) fun v2 =>
 Prg.ite (asBool v2) (
 chk true (
 ret (tup [agg [TV.lit nilV,W 0,W 0,W 0,W 0,W 0,W 0,W 0,W 0,W 0,W 0,W 0,W 0,W 0,W 0,W 0,W 0,TV.lit nilV,TV.lit nilV,I 0,W 0],I 1]))) (
 chk (isSl (cell x0 0)) (
 jmp [0,0,0,1,1,1,1] (f13_0_S x2 (cell (comp v0 0) 1) (cell (comp v0 0) 2) (cell (comp v0 0) 3) (cell (comp v0 0) 4) (cell (comp v0 0) 5) (cell (comp v0 0) 6) (cell (comp v0 0) 7) (cell (comp v0 0) 8) (cell (comp v0 0) 9) (cell (comp v0 0) 10) (cell (comp v0 0) 11) (cell (comp v0 0) 12) (cell (comp v0 0) 13) (cell (comp v0 0) 14) (cell (comp v0 0) 15) (cell (comp v0 0) 16) (cell (comp v0 0) 19) (cell (comp v0 0) 20) (cell (comp v0 0) 0) hole hole hole hole hole hole hole hole hole hole hole hole hole hole hole hole (cell (comp v0 0) 17) (cell (comp v0 0) 18) hole hole hole (cell x0 0)))))))))
def f13_0  (x0 y1 y2 y3 y4 y5 y6 y7 y8 y9 y10 y11 y12 y13 y14 y15 y16 y17 y18 w19 w20 w21 w22 w23 w24 w25 w26 w27 w28 w29 w30 w31 w32 w33 w34 w35 w36 w37 w38 w39 w40 w41:TV):Prg TV :=
 tv (pbin (.int .i64) .gtr x0 (I 0)) fun v3 =>
 Prg.ite (asBool v3) (
 tv (pbin (.int .i64) .eql y17 (I 0)) fun v4 =>
 Prg.ite (asBool v4) (
 chk (Bool.and (isSl w19) (Bool.and (isSc y1) (Bool.and (isSc y2) (Bool.and (isSc y3) (Bool.and (isSc y4) (Bool.and (isSc y5) (Bool.and (isSc y6) (Bool.and (isSc y7) (Bool.and (isSc y8) (Bool.and (isSc y9) (Bool.and (isSc y10) (Bool.and (isSc y11) (Bool.and (isSc y12) (Bool.and (isSc y13) (Bool.and (isSc y14) (Bool.and (isSc y15) (Bool.and (isSc y16) (Bool.and (isSl w36) (Bool.and (isSl w37) (Bool.and (isSc y17) (Bool.and (isSc y18) (Bool.and (isSl w41) true)))))))))))))))))))))) (
 call 36 [tup [w19,y1,y2,y3,y4,y5,y6,y7,y8,y9,y10,y11,y12,y13,y14,y15,y16,w36,w37,y17,y18,w41]] fun v5 =>
 chk (Bool.and (Bool.and (isTup v5 2) (isTup (comp v5 1) 22)) (Bool.and (isSl (comp (comp v5 1) 0)) (Bool.and (isSc (comp (comp v5 1) 1)) (Bool.and (isSc (comp (comp v5 1) 2)) (Bool.and (isSc (comp (comp v5 1) 3)) (Bool.and (isSc (comp (comp v5 1) 4)) (Bool.and (isSc (comp (comp v5 1) 5)) (Bool.and (isSc (comp (comp v5 1) 6)) (Bool.and (isSc (comp (comp v5 1) 7)) (Bool.and (isSc (comp (comp v5 1) 8)) (Bool.and (isSc (comp (comp v5 1) 9)) (Bool.and (isSc (comp (comp v5 1) 10)) (Bool.and (isSc (comp (comp v5 1) 11)) (Bool.and (isSc (comp (comp v5 1) 12)) (Bool.and (isSc (comp (comp v5 1) 13)) (Bool.and (isSc (comp (comp v5 1) 14)) (Bool.and (isSc (comp (comp v5 1) 15)) (Bool.and (isSc (comp (comp v5 1) 16)) (Bool.and (isSl (comp (comp v5 1) 17)) (Bool.and (isSl (comp (comp v5 1) 18)) (Bool.and (isSc (comp (comp v5 1) 19)) (Bool.and (isSc (comp (comp v5 1) 20)) (Bool.and (isSl (comp (comp v5 1) 21)) true))))))))))))))))))))))) (
 chk (isTup (comp v5 0) 0) (
 tv (pbin (.int .i64) .sub x0 (I 1)) fun v6 =>
 jmp [0,0,0,1,1,1,1] (f13_0_S v6 (comp (comp v5 1) 1) (comp (comp v5 1) 2) (comp (comp v5 1) 3) (comp (comp v5 1) 4) (comp (comp v5 1) 5) (comp (comp v5 1) 6) (comp (comp v5 1) 7) (comp (comp v5 1) 8) (comp (comp v5 1) 9) (comp (comp v5 1) 10) (comp (comp v5 1) 11) (comp (comp v5 1) 12) (comp (comp v5 1) 13) (comp (comp v5 1) 14) (comp (comp v5 1) 15) (comp (comp v5 1) 16) (comp (comp v5 1) 19) (comp (comp v5 1) 20) (comp (comp v5 1) 0) hole hole hole hole hole hole hole hole hole hole hole hole hole hole hole hole (comp (comp v5 1) 17) (comp (comp v5 1) 18) hole hole hole (comp (comp v5 1) 21)))))) (
 jmp [1,1,1,1,1] (f13_1_S y1 y2 y3 y4 y5 y6 y7 y8 y9 y10 y11 y12 y13 y14 y15 y16 y17 y18 w19 w20 w21 w22 w23 w24 w25 w26 w27 w28 w29 w30 w31 w32 w33 w34 w35 w36 w37 w38 w39 w40 w41))) (
 jmp [1,1,1,1,1] (f13_1_S y1 y2 y3 y4 y5 y6 y7 y8 y9 y10 y11 y12 y13 y14 y15 y16 y17 y18 w19 w20 w21 w22 w23 w24 w25 w26 w27 w28 w29 w30 w31 w32 w33 w34 w35 w36 w37 w38 w39 w40 w41))
def f13_1  (y0 y1 y2 y3 y4 y5 y6 y7 y8 y9 y10 y11 y12 y13 y14 y15 y16 y17 w18 w19 w20 w21 w22 w23 w24 w25 w26 w27 w28 w29 w30 w31 w32 w33 w34 w35 w36 w37 w38 w39 w40:TV):Prg TV :=
 chk (isOwnL [agg [w18,y0,y1,y2,y3,y4,y5,y6,y7,y8,y9,y10,y11,y12,y13,y14,y15,w35,w36,y16,y17],I 0]) (
 ret (tup [agg [w18,y0,y1,y2,y3,y4,y5,y6,y7,y8,y9,y10,y11,y12,y13,y14,y15,w35,w36,y16,y17],I 0]))
theorem f13_MR (x0 x1 x2:TV):startQ prog 13 [x0,x1,x2]=f13_M x0 x1 x2:=by kernel_rfl
theorem f13_0_J  {x0 y1 y2 y3 y4 y5 y6 y7 y8 y9 y10 y11 y12 y13 y14 y15 y16 y17 y18 w19 w20 w21 w22 w23 w24 w25 w26 w27 w28 w29 w30 w31 w32 w33 w34 w35 w36 w37 w38 w39 w40 w41:TV} {r:TV} (h:Goes prog 13 (f13_0 x0 y1 y2 y3 y4 y5 y6 y7 y8 y9 y10 y11 y12 y13 y14 y15 y16 y17 y18 w19 w20 w21 w22 w23 w24 w25 w26 w27 w28 w29 w30 w31 w32 w33 w34 w35 w36 w37 w38 w39 w40 w41) r):Goes prog 13 (.jmp [0,0,0,1,1,1,1] (f13_0_S x0 y1 y2 y3 y4 y5 y6 y7 y8 y9 y10 y11 y12 y13 y14 y15 y16 y17 y18 w19 w20 w21 w22 w23 w24 w25 w26 w27 w28 w29 w30 w31 w32 w33 w34 w35 w36 w37 w38 w39 w40 w41)) r:=Goes.jmp (by kernel_rfl) h
theorem f13_1_J  {y0 y1 y2 y3 y4 y5 y6 y7 y8 y9 y10 y11 y12 y13 y14 y15 y16 y17 w18 w19 w20 w21 w22 w23 w24 w25 w26 w27 w28 w29 w30 w31 w32 w33 w34 w35 w36 w37 w38 w39 w40:TV} {r:TV} (h:Goes prog 13 (f13_1 y0 y1 y2 y3 y4 y5 y6 y7 y8 y9 y10 y11 y12 y13 y14 y15 y16 y17 w18 w19 w20 w21 w22 w23 w24 w25 w26 w27 w28 w29 w30 w31 w32 w33 w34 w35 w36 w37 w38 w39 w40) r):Goes prog 13 (.jmp [1,1,1,1,1] (f13_1_S y0 y1 y2 y3 y4 y5 y6 y7 y8 y9 y10 y11 y12 y13 y14 y15 y16 y17 w18 w19 w20 w21 w22 w23 w24 w25 w26 w27 w28 w29 w30 w31 w32 w33 w34 w35 w36 w37 w38 w39 w40)) r:=Goes.jmp (by kernel_rfl) h
def f15_0_S  (x0 y1 y2 y3 y4 y5 y6 y7 y8 y9 y10 y11 y12 y13 y14 y15 y16 y17 y18 y19 y20 y21 y22 y23 y24 y25 y26 y27 y28 y29 y30 y31 y32 y33 y34 y35 y36 y37 y38 y39 y40 y41 y42:TV):ASt:=⟨[AV.one CA.junk,AV.one CA.junk,AV.one (CA.ptr 0 0),AV.one (CA.ptr 1 0),AV.one CA.junk,AV.tv x0] ++ List.replicate 63 (AV.one CA.junk),[some (BC.cells [CA.t y1,CA.t y2,CA.t y3,CA.t y4,CA.t y5,CA.t y6,CA.t y7,CA.t y8,CA.t y9,CA.t y10,CA.t y11,CA.t y12,CA.t y13,CA.t y14,CA.t y15,CA.t y16,CA.t y17,CA.t y18,CA.t y19,CA.t y20,CA.t y21]),some (BC.cells [CA.t y22,CA.t y23,CA.t y24,CA.t y25,CA.t y26,CA.t y27,CA.t y28,CA.t y29,CA.t y30,CA.t y31,CA.t y32,CA.t y33,CA.t y34,CA.t y35,CA.t y36,CA.t y37,CA.t y38,CA.t y39,CA.t y40,CA.t y41,CA.t y42])] ++ List.replicate 91 (none),[]⟩
def f15_M (x0 x1:TV):Prg TV :=
 chk (TV.isAgg x0 21) (
 chk (TV.isAgg x1 21) (
 tv (plen (.slice 47) (cell x0 0)) fun v0 =>
 tv (plen (.slice 47) (cell x1 0)) fun v1 =>
 tv (pbin (.int .i64) .neq v0 v1) fun v2 =>
 Prg.ite (asBool v2) (
 ret (B false)) (
 tv (peqL IntKind.u16 .neq [cell x0 1,cell x0 2,cell x0 3,cell x0 4,cell x0 5,cell x0 6,cell x0 7,cell x0 8,cell x0 9,cell x0 10,cell x0 11,cell x0 12,cell x0 13,cell x0 14,cell x0 15,cell x0 16] [cell x1 1,cell x1 2,cell x1 3,cell x1 4,cell x1 5,cell x1 6,cell x1 7,cell x1 8,cell x1 9,cell x1 10,cell x1 11,cell x1 12,cell x1 13,cell x1 14,cell x1 15,cell x1 16]) fun v3 =>
 Prg.ite (asBool v3) (
 ret (B false)) (
 call 38 [cell x0 17,cell x1 17] fun v4 =>
 chk (fitsAt zBool [v4] 0) (
 tv (pun .not v4) fun v5 =>
 Prg.ite (asBool v5) (
 ret (B false)) (
 call 23 [cell x0 18,cell x1 18] fun v6 =>
 chk (fitsAt zBool [v6] 0) (
 tv (pun .not v6) fun v7 =>
 Prg.ite (asBool v7) (
 ret (B false)) (
 tv (pbin (.int .i64) .neq (cell x0 19) (cell x1 19)) fun v8 =>
 Prg.ite (asBool v8) (
 ret (B false)) (
 tv (pbin (.int .u16) .neq (cell x0 20) (cell x1 20)) fun v9 =>
 Prg.ite (asBool v9) (
 ret (B false)) (
 jmp [0,0,1,0,1,1] (f15_0_S (I 0) (cell x0 0) (cell x0 1) (cell x0 2) (cell x0 3) (cell x0 4) (cell x0 5) (cell x0 6) (cell x0 7) (cell x0 8) (cell x0 9) (cell x0 10) (cell x0 11) (cell x0 12) (cell x0 13) (cell x0 14) (cell x0 15) (cell x0 16) (cell x0 17) (cell x0 18) (cell x0 19) (cell x0 20) (cell x1 0) (cell x1 1) (cell x1 2) (cell x1 3) (cell x1 4) (cell x1 5) (cell x1 6) (cell x1 7) (cell x1 8) (cell x1 9) (cell x1 10) (cell x1 11) (cell x1 12) (cell x1 13) (cell x1 14) (cell x1 15) (cell x1 16) (cell x1 17) (cell x1 18) (cell x1 19) (cell x1 20))))))))))))
def f15_0  (x0 y1 y2 y3 y4 y5 y6 y7 y8 y9 y10 y11 y12 y13 y14 y15 y16 y17 y18 y19 y20 y21 y22 y23 y24 y25 y26 y27 y28 y29 y30 y31 y32 y33 y34 y35 y36 y37 y38 y39 y40 y41 y42:TV):Prg TV :=
 tv (plen (.slice 47) y1) fun v10 =>
 tv (pbin (.int .i64) .lss x0 v10) fun v11 =>
 Prg.ite (asBool v11) (
 tvs (pidx 5 y1 x0) fun e12 =>
 chk (Nat.ble 5 (List.length e12)) (
 tvs (pidx 5 y22 x0) fun e13 =>
 chk (Nat.ble 5 (List.length e13)) (
 call 21 [agg [nth hole e12 0,nth hole e12 1,nth hole e12 2,nth hole e12 3,nth hole e12 4],agg [nth hole e13 0,nth hole e13 1,nth hole e13 2,nth hole e13 3,nth hole e13 4]] fun v14 =>
 chk (fitsAt zBool [v14] 0) (
 tv (pun .not v14) fun v15 =>
 Prg.ite (asBool v15) (
 ret (B false)) (
 tv (pbin (.int .i64) .add x0 (I 1)) fun v16 =>
 jmp [0,0,1,0,1,1] (f15_0_S v16 y1 y2 y3 y4 y5 y6 y7 y8 y9 y10 y11 y12 y13 y14 y15 y16 y17 y18 y19 y20 y21 y22 y23 y24 y25 y26 y27 y28 y29 y30 y31 y32 y33 y34 y35 y36 y37 y38 y39 y40 y41 y42)))))) (
 ret (B true))
theorem f15_MR (x0 x1:TV):startQ prog 15 [x0,x1]=f15_M x0 x1:=by kernel_rfl
theorem f15_0_J  {x0 y1 y2 y3 y4 y5 y6 y7 y8 y9 y10 y11 y12 y13 y14 y15 y16 y17 y18 y19 y20 y21 y22 y23 y24 y25 y26 y27 y28 y29 y30 y31 y32 y33 y34 y35 y36 y37 y38 y39 y40 y41 y42:TV} {r:TV} (h:Goes prog 15 (f15_0 x0 y1 y2 y3 y4 y5 y6 y7 y8 y9 y10 y11 y12 y13 y14 y15 y16 y17 y18 y19 y20 y21 y22 y23 y24 y25 y26 y27 y28 y29 y30 y31 y32 y33 y34 y35 y36 y37 y38 y39 y40 y41 y42) r):Goes prog 15 (.jmp [0,0,1,0,1,1] (f15_0_S x0 y1 y2 y3 y4 y5 y6 y7 y8 y9 y10 y11 y12 y13 y14 y15 y16 y17 y18 y19 y20 y21 y22 y23 y24 y25 y26 y27 y28 y29 y30 y31 y32 y33 y34 y35 y36 y37 y38 y39 y40 y41 y42)) r:=Goes.jmp (by kernel_rfl) h
end Go.Ab.U7

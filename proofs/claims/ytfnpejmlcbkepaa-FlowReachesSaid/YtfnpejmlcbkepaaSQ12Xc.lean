import Derived.Test.YtfnpejmlcbkepaaSQ12T
set_option linter.all false
set_option maxRecDepth 100000
namespace Go.Ab.Q12
open Go Go.Ab Go.Proofs
open Go.Ab.TV (hole cell comp isSl isSc isTup cellsL tup agg)
open Go.Ab.Prg (tv tvs rws nat chk call jmp ret)
def f48_M (c0 c1 c2 x0:TV):Prg TV :=
 chk (Nat.ble 3 (List.length [c0,c1,c2])) (
 call 17 [agg [c0,c1,c2],x0] fun v0 =>
 chk (ab zSl [v0] 0) (
 chk (isOwn v0) (
 ret v0)))
theorem f48_MR (c0 c1 c2 x0:TV):aB prog 48 [x0,agg [c0,c1,c2]]=f48_M c0 c1 c2 x0:=by kernel_rfl
def f50_0_S  (x0 x1 y2:TV):ASt:=⟨[Jk,Pt 0,Jk,AV.tv x0,AV.tv x1] ++ Rj 82,[Ct y2] ++ Rz 110,[]⟩
def f50_1_S  (x0 x1 x2 y3:TV):ASt:=⟨[Jk,Pt 0,Jk,AV.tv x0,AV.tv x1,AV.tv x2] ++ Rj 81,[Ct y3] ++ Rz 110,[]⟩
def f50_2_S  (x0 x1 x2 x3 y4 y5 y6 y7 y8 y9 y10 y11 y12 y13 y14 y15 y16 y17 y18:TV):ASt:=⟨[Jk,Pt 0,Jk,AV.tv x0,AV.tv x1,AV.tv x2,Pt 1,AV.tv x3] ++ Rj 79,[Ct y4,some (BC.cells [CA.t y5,CA.t y6,CA.t y7,CA.t y8,CA.t y9,CA.t y10,CA.t y11,CA.t y12,CA.t y13,CA.t y14,CA.t y15,CA.t y16,CA.t y17,CA.t y18])] ++ Rz 109,[]⟩
def f50_M (x0:TV):Prg TV :=
 chk (TV.isAgg x0 1) (
 tv (plen (.slice 24) (cell x0 0)) fun v0 =>
 tv (pbin (.int .i64) .gtr v0 (I 20)) fun v1 =>
 Prg.ite (asBool v1) (
 ret (B false)) (
 jmp [0,0,1,0,1,1,1] (f50_0_S (I 0) (I 0) (cell x0 0))))
def f50_0  (x0 x1 y2:TV):Prg TV :=
 tv (plen (.slice 24) y2) fun v2 =>
 tv (pbin (.int .i64) .lss x1 v2) fun v3 =>
 Prg.ite (asBool v3) (
 tvs (pidx 3 y2 x1) fun e4 =>
 chk (Nat.blt 2 (List.length e4)) (
 tv (plen (.slice 59) (nth hole e4 2)) fun v5 =>
 tv (pbin (.int .i64) .gtr v5 (I 70)) fun v6 =>
 Prg.ite (asBool v6) (
 ret (B false)) (
 jmp [0,0,1,1,0,0,1,0,0,1,0,1,1,1] (f50_1_S x0 x1 (I 0) y2)))) (
 tv (pbin (.int .i64) .leq x0 (I 2000)) fun v7 =>
 ret v7)
def f50_1  (x0 x1 x2 y3:TV):Prg TV :=
 tvs (pidx 3 y3 x1) fun e8 =>
 chk (Nat.blt 2 (List.length e8)) (
 tv (plen (.slice 59) (nth hole e8 2)) fun v9 =>
 tv (pbin (.int .i64) .lss x2 v9) fun v10 =>
 Prg.ite (asBool v10) (
 tvs (pidx 3 y3 x1) fun e11 =>
 chk (Nat.blt 2 (List.length e11)) (
 tvs (pidx 14 (nth hole e11 2) x2) fun e12 =>
 chk (Nat.ble 14 (List.length e12)) (
 tv (plen (.slice 108) (nth hole e12 5)) fun v13 =>
 tv (pbin (.int .i64) .gtr v13 (I 70)) fun v14 =>
 Prg.ite (asBool v14) (
 ret (B false)) (
 tv (plen (.slice 42) (nth hole e12 2)) fun v15 =>
 tv (pbin (.int .i64) .gtr v15 (I 20)) fun v16 =>
 Prg.ite (asBool v16) (
 ret (B false)) (
 tv (plen (.slice 3) (nth hole e12 10)) fun v17 =>
 tv (pbin (.int .i64) .gtr v17 (I 20)) fun v18 =>
 Prg.ite (asBool v18) (
 ret (B false)) (
 tv (plen (.slice 108) (nth hole e12 5)) fun v19 =>
 tv (pbin (.int .i64) .add x0 v19) fun v20 =>
 jmp [0,0,1,1,1,1,0,0,1,0,0,1,1,0,0,1,0,0,1,0,1,1,1] (f50_2_S v20 x1 x2 (I 0) y3 (nth hole e12 0) (nth hole e12 1) (nth hole e12 2) (nth hole e12 3) (nth hole e12 4) (nth hole e12 5) (nth hole e12 6) (nth hole e12 7) (nth hole e12 8) (nth hole e12 9) (nth hole e12 10) (nth hole e12 11) (nth hole e12 12) (nth hole e12 13)))))))) (
 tv (pbin (.int .i64) .add x1 (I 1)) fun v21 =>
 jmp [0,0,1,0,1,1,1] (f50_0_S x0 v21 y3)))
def f50_2  (x0 x1 x2 x3 y4 y5 y6 y7 y8 y9 y10 y11 y12 y13 y14 y15 y16 y17 y18:TV):Prg TV :=
 tv (plen (.slice 108) y10) fun v22 =>
 tv (pbin (.int .i64) .lss x3 v22) fun v23 =>
 Prg.ite (asBool v23) (
 tvs (pidx 7 y10 x3) fun e24 =>
 chk (Nat.blt 6 (List.length e24)) (
 tv (plen (.slice 3) (nth hole e24 6)) fun v25 =>
 tv (pbin (.int .i64) .gtr v25 (I 20)) fun v26 =>
 Prg.ite (asBool v26) (
 ret (B false)) (
 tv (pbin (.int .i64) .add x3 (I 1)) fun v27 =>
 jmp [0,0,1,1,1,1,0,0,1,0,0,1,1,0,0,1,0,0,1,0,1,1,1] (f50_2_S x0 x1 x2 v27 y4 y5 y6 y7 y8 y9 y10 y11 y12 y13 y14 y15 y16 y17 y18)))) (
 tv (pbin (.int .i64) .add x2 (I 1)) fun v28 =>
 jmp [0,0,1,1,0,0,1,0,0,1,0,1,1,1] (f50_1_S x0 x1 v28 y4))
theorem f50_MR (x0:TV):aB prog 50 [x0]=f50_M x0:=by kernel_rfl
theorem f50_0_J  {x0 x1 y2:TV} {r:TV} (h:aa prog 50 (f50_0 x0 x1 y2) r):aa prog 50 (.jmp [0,0,1,0,1,1,1] (f50_0_S x0 x1 y2)) r:=aa.jmp (by kernel_rfl) h
theorem f50_1_J  {x0 x1 x2 y3:TV} {r:TV} (h:aa prog 50 (f50_1 x0 x1 x2 y3) r):aa prog 50 (.jmp [0,0,1,1,0,0,1,0,0,1,0,1,1,1] (f50_1_S x0 x1 x2 y3)) r:=aa.jmp (by kernel_rfl) h
theorem f50_2_J  {x0 x1 x2 x3 y4 y5 y6 y7 y8 y9 y10 y11 y12 y13 y14 y15 y16 y17 y18:TV} {r:TV} (h:aa prog 50 (f50_2 x0 x1 x2 x3 y4 y5 y6 y7 y8 y9 y10 y11 y12 y13 y14 y15 y16 y17 y18) r):aa prog 50 (.jmp [0,0,1,1,1,1,0,0,1,0,0,1,1,0,0,1,0,0,1,0,1,1,1] (f50_2_S x0 x1 x2 x3 y4 y5 y6 y7 y8 y9 y10 y11 y12 y13 y14 y15 y16 y17 y18)) r:=aa.jmp (by kernel_rfl) h
def f51_M (x0 x1:TV):Prg TV :=
 chk (TV.isAgg x0 1) (
 call 68 [agg [cell x0 0],I 0,TV.lit aI] fun v0 =>
 chk (isTup v0 2) (
 chk (Bool.and (TV.isAgg (comp v0 0) 5) (ab z50 (cellsL true (comp v0 0)) 0)) (
 chk (ab ei [comp v0 1] 0) (
 tv (pbin (.int .i64) .neq (comp v0 1) (I 0)) fun v1 =>
 Prg.ite (asBool v1) (
 chk (bn [agg [TV.lit aI,W 0,W 0,W 0,W 0,W 0,W 0,W 0,W 0,W 0,W 0,W 0,W 0,W 0,W 0,W 0,W 0,TV.lit aI,TV.lit aI,I 0,W 0],comp v0 1]) (
 ret (tup [agg [TV.lit aI,W 0,W 0,W 0,W 0,W 0,W 0,W 0,W 0,W 0,W 0,W 0,W 0,W 0,W 0,W 0,W 0,TV.lit aI,TV.lit aI,I 0,W 0],comp v0 1]))) (
 call 69 [x1] fun v2 =>
 chk (ab zSl [v2] 0) (
 chk (bn [agg [TV.sl true 5 (chunks 5 1 [cell (comp v0 0) 0,cell (comp v0 0) 1,cell (comp v0 0) 2,cell (comp v0 0) 3,cell (comp v0 0) 4]),W 0,W 0,W 0,W 0,W 0,W 0,W 0,W 0,W 0,W 0,W 0,W 0,W 0,W 0,W 0,W 0,v2,TV.lit aI,I 0,W 0],I 0]) (
 ret (tup [agg [TV.sl true 5 (chunks 5 1 [cell (comp v0 0) 0,cell (comp v0 0) 1,cell (comp v0 0) 2,cell (comp v0 0) 3,cell (comp v0 0) 4]),W 0,W 0,W 0,W 0,W 0,W 0,W 0,W 0,W 0,W 0,W 0,W 0,W 0,W 0,W 0,W 0,v2,TV.lit aI,I 0,W 0],I 0]))))))))
theorem f51_MR (x0 x1:TV):aB prog 51 [x0,x1]=f51_M x0 x1:=by kernel_rfl
def f52_0_S  (k0:Nat) (y1 y2 y3 y4 y5 y6 y7 y8 y9 y10 y11 y12 y13 y14 y15 y16 y17 y18 y19 w20 w21 w22 w23 w24 w25 w26 w27 w28 w29 w30 w31 w32 w33 w34 w35 w36 w37 w38 w39 w40 w41:TV):ASt:=⟨[Pt 0,Jk,AV.one (CA.tptr 1 0 [] k0 0)] ++ Rj 32,[some (BC.cells [CA.sref 1 0 [],CA.t y1,CA.t y2,CA.t y3,CA.t y4,CA.t y5,CA.t y6,CA.t y7,CA.t y8,CA.t y9,CA.t y10,CA.t y11,CA.t y12,CA.t y13,CA.t y14,CA.t y15,CA.t y16,CA.sref 1 17 [],CA.sref 1 18 [],CA.t y17,CA.t y18,CA.t y19]),some (BC.tree [w20,w21,w22,w23,w24,w25,w26,w27,w28,w29,w30,w31,w32,w33,w34,w35,w36,w37,w38,w39,w40,w41])] ++ Rz 59,[Pt 0]⟩
def f52_1_S  (k0:Nat) (x1 x2 x3 x4 y5 y6 y7 y8 y9 y10 y11 y12 y13 y14 y15 y16 y17 y18 y19 y20 y21 y22 y23 w24 w25 w26 w27 w28 w29 w30 w31 w32 w33 w34 w35 w36 w37 w38 w39 w40 w41 w42 w43 w44 w45 w46:TV):ASt:=⟨[Pt 0,AV.one (CA.tptr 1 0 [] k0 0),AV.tv x1] ++ Rj 5 ++ [Sr 2] ++ Rj 21 ++ [AV.tv x2,AV.tv x3,AV.tv x4] ++ Rj 29,[some (BC.cells [CA.sref 1 0 [],CA.t y5,CA.t y6,CA.t y7,CA.t y8,CA.t y9,CA.t y10,CA.t y11,CA.t y12,CA.t y13,CA.t y14,CA.t y15,CA.t y16,CA.t y17,CA.t y18,CA.t y19,CA.t y20,CA.sref 1 17 [],CA.sref 1 18 [],CA.t y21,CA.t y22,CA.t y23]),some (BC.tree [w24,w25,w26,w27,w28,w29,w30,w31,w32,w33,w34,w35,w36,w37,w38,w39,w40,w41,w42,w43,w44,w45]),Tr w46] ++ Rz 188,([Pt 0] ++ Rj 103)⟩
def f52_2_S  (k0:Nat) (w1 w2 w3 w4 w5 w6 w7 w8 w9 w10 w11 w12 w13 w14 w15 w16 w17 w18 w19 w20 w21 w22 y23 y24 y25 y26 y27 y28 y29 y30 y31 y32 y33 y34 y35 y36 y37 y38 y39 y40 y41 y42 y43 y44 y45 y46 y47 y48 y49:TV):ASt:=⟨[Jk,AV.one (CA.tptr 0 0 [] k0 0),Jk,Jk,Jk,Pt 1] ++ Rj 75,[some (BC.tree [w1,w2,w3,w4,w5,w6,w7,w8,w9,w10,w11,w12,w13,w14,w15,w16,w17,w18,w19,w20,w21,w22]),some (BC.cells [CA.t y23,CA.t y24,CA.t y25,CA.t y26,CA.t y27,CA.t y28,CA.t y29,CA.t y30]),some (BC.cells [CA.sref 0 0 [],CA.t y31,CA.t y32,CA.t y33,CA.t y34,CA.t y35,CA.t y36,CA.t y37,CA.t y38,CA.t y39,CA.t y40,CA.t y41,CA.t y42,CA.t y43,CA.t y44,CA.t y45,CA.t y46,CA.sref 0 17 [],CA.sref 0 18 [],CA.t y47,CA.t y48,CA.t y49])] ++ Rz 139,([Pt 2] ++ Rj 35)⟩
def f52_3_S  (k0:Nat) (x1 x2 x3 x4 y5 y6 y7 y8 y9 y10 y11 y12 y13 y14 y15 y16 y17 y18 y19 y20 y21 y22 y23 w24 w25 w26 w27 w28 w29 w30 w31 w32 w33 w34 w35 w36 w37 w38 w39 w40 w41 w42 w43 w44 w45 w46:TV):ASt:=⟨[Pt 0,AV.one (CA.tptr 1 0 [] k0 0),AV.tv x1] ++ Rj 5 ++ [Sr 2] ++ Rj 21 ++ [AV.tv x2,AV.tv x3,AV.tv x4] ++ Rj 29,[some (BC.cells [CA.sref 1 0 [],CA.t y5,CA.t y6,CA.t y7,CA.t y8,CA.t y9,CA.t y10,CA.t y11,CA.t y12,CA.t y13,CA.t y14,CA.t y15,CA.t y16,CA.t y17,CA.t y18,CA.t y19,CA.t y20,CA.sref 1 17 [],CA.sref 1 18 [],CA.t y21,CA.t y22,CA.t y23]),some (BC.tree [w24,w25,w26,w27,w28,w29,w30,w31,w32,w33,w34,w35,w36,w37,w38,w39,w40,w41,w42,w43,w44,w45]),Tr w46] ++ Rz 201,([Pt 0] ++ Rj 116)⟩
def f52_4_S  (x0:TV) (lo1 len2:Nat) (x3 x4:TV) (lo5 len6:Nat) (y7 y8 y9 y10 y11 y12 y13 y14 y15 y16 y17 y18 y19 y20 y21 y22 y23 y24 y25 w26 w27 w28 w29 w30 w31 w32 w33 w34 w35 w36 w37 w38 w39 w40 w41 w42 w43 w44 w45 w46 w47 x48:TV):ASt:=⟨[Pt 0,AV.tv x0] ++ Rj 11 ++ [AV.one (CA.swin 1 0 [] lo1 len2),AV.tv x3,AV.tv x4] ++ Rj 16,[some (BC.cells [CA.swin 1 0 [] lo5 len6,CA.t y7,CA.t y8,CA.t y9,CA.t y10,CA.t y11,CA.t y12,CA.t y13,CA.t y14,CA.t y15,CA.t y16,CA.t y17,CA.t y18,CA.t y19,CA.t y20,CA.t y21,CA.t y22,CA.sref 1 17 [],CA.sref 1 18 [],CA.t y23,CA.t y24,CA.t y25]),some (BC.tree [w26,w27,w28,w29,w30,w31,w32,w33,w34,w35,w36,w37,w38,w39,w40,w41,w42,w43,w44,w45,w46,w47])] ++ Rz 215,([Pt 0] ++ Rj 116 ++ [Pt 0,AV.tv x48] ++ Rj 41)⟩
def f52_5_S  (x0:TV) (lo1 len2:Nat) (x3 x4:TV) (lo5 len6:Nat) (y7 y8 y9 y10 y11 y12 y13 y14 y15 y16 y17 y18 y19 y20 y21 y22 y23 y24 y25 w26 w27 w28 w29 w30 w31 w32 w33 w34 w35 w36 w37 w38 w39 w40 w41 w42 w43 w44 w45 w46 w47 x48:TV):ASt:=⟨[Pt 0,AV.tv x0] ++ Rj 11 ++ [AV.one (CA.swin 1 0 [] lo1 len2),AV.tv x3,AV.tv x4] ++ Rj 16,[some (BC.cells [CA.swin 1 0 [] lo5 len6,CA.t y7,CA.t y8,CA.t y9,CA.t y10,CA.t y11,CA.t y12,CA.t y13,CA.t y14,CA.t y15,CA.t y16,CA.t y17,CA.t y18,CA.t y19,CA.t y20,CA.t y21,CA.t y22,CA.sref 1 17 [],CA.sref 1 18 [],CA.t y23,CA.t y24,CA.t y25]),some (BC.tree [w26,w27,w28,w29,w30,w31,w32,w33,w34,w35,w36,w37,w38,w39,w40,w41,w42,w43,w44,w45,w46,w47])] ++ Rz 215,([Pt 0] ++ Rj 116 ++ [Pt 0,AV.tv x48] ++ Rj 41)⟩
def f52_6_S  (x0 y1 y2 y3 y4 y5 y6 y7 y8 y9 y10 y11 y12 y13 y14 y15 y16 y17 y18 y19 w20 w21 w22 w23 w24 w25 w26 w27 w28 w29 w30 w31 w32 w33 w34 w35 w36 w37 w38 w39 w40 w41 w42:TV):ASt:=⟨[Pt 0,Jk,AV.tv x0] ++ Rj 5 ++ [Sr 1] ++ Rj 53,[some (BC.cells [CA.sref 2 0 [],CA.t y1,CA.t y2,CA.t y3,CA.t y4,CA.t y5,CA.t y6,CA.t y7,CA.t y8,CA.t y9,CA.t y10,CA.t y11,CA.t y12,CA.t y13,CA.t y14,CA.t y15,CA.t y16,CA.sref 2 17 [],CA.sref 2 18 [],CA.t y17,CA.t y18,CA.t y19]),Tr w20,some (BC.tree [w21,w22,w23,w24,w25,w26,w27,w28,w29,w30,w31,w32,w33,w34,w35,w36,w37,w38,w39,w40,w41,w42])] ++ Rz 188,([Pt 0] ++ Rj 103)⟩
def f52_7_S  (x0 y1 y2 y3 y4 y5 y6 y7 y8 y9 y10 y11 y12 y13 y14 y15 y16 y17 y18 y19 w20 w21 w22 w23 w24 w25 w26 w27 w28 w29 w30 w31 w32 w33 w34 w35 w36 w37 w38 w39 w40 w41 w42:TV):ASt:=⟨[Pt 0,Jk,AV.tv x0] ++ Rj 5 ++ [Sr 1] ++ Rj 53,[some (BC.cells [CA.sref 2 0 [],CA.t y1,CA.t y2,CA.t y3,CA.t y4,CA.t y5,CA.t y6,CA.t y7,CA.t y8,CA.t y9,CA.t y10,CA.t y11,CA.t y12,CA.t y13,CA.t y14,CA.t y15,CA.t y16,CA.sref 2 17 [],CA.sref 2 18 [],CA.t y17,CA.t y18,CA.t y19]),Tr w20,some (BC.tree [w21,w22,w23,w24,w25,w26,w27,w28,w29,w30,w31,w32,w33,w34,w35,w36,w37,w38,w39,w40,w41,w42])] ++ Rz 201,([Pt 0] ++ Rj 116)⟩
def f52_8_S  (x0:TV) (lo1 len2:Nat) (y3 y4 y5 y6 y7 y8 y9 y10 y11 y12 y13 y14 y15 y16 y17 y18 y19 y20 y21 w22 w23 w24 w25 w26 w27 w28 w29 w30 w31 w32 w33 w34 w35 w36 w37 w38 w39 w40 w41 w42 w43:TV):ASt:=⟨[Pt 0,AV.tv x0] ++ Rj 41,[some (BC.cells [CA.swin 1 0 [] lo1 len2,CA.t y3,CA.t y4,CA.t y5,CA.t y6,CA.t y7,CA.t y8,CA.t y9,CA.t y10,CA.t y11,CA.t y12,CA.t y13,CA.t y14,CA.t y15,CA.t y16,CA.t y17,CA.t y18,CA.sref 1 17 [],CA.sref 1 18 [],CA.t y19,CA.t y20,CA.t y21]),some (BC.tree [w22,w23,w24,w25,w26,w27,w28,w29,w30,w31,w32,w33,w34,w35,w36,w37,w38,w39,w40,w41,w42,w43])] ++ Rz 183,([Pt 0] ++ Rj 116)⟩
def f52_9_S  (x0:TV) (lo1 len2:Nat) (y3 y4 y5 y6 y7 y8 y9 y10 y11 y12 y13 y14 y15 y16 y17 y18 y19 y20 y21 w22 w23 w24 w25 w26 w27 w28 w29 w30 w31 w32 w33 w34 w35 w36 w37 w38 w39 w40 w41 w42 w43:TV):ASt:=⟨[Pt 0,AV.tv x0] ++ Rj 41,[some (BC.cells [CA.swin 1 0 [] lo1 len2,CA.t y3,CA.t y4,CA.t y5,CA.t y6,CA.t y7,CA.t y8,CA.t y9,CA.t y10,CA.t y11,CA.t y12,CA.t y13,CA.t y14,CA.t y15,CA.t y16,CA.t y17,CA.t y18,CA.sref 1 17 [],CA.sref 1 18 [],CA.t y19,CA.t y20,CA.t y21]),some (BC.tree [w22,w23,w24,w25,w26,w27,w28,w29,w30,w31,w32,w33,w34,w35,w36,w37,w38,w39,w40,w41,w42,w43])] ++ Rz 183,([Pt 0] ++ Rj 116)⟩
def f52_10_S  (x0:TV) (k1:Nat) (x2:TV) (lo3 len4:Nat) (y5 y6 y7 y8 y9 y10 y11 y12 y13 y14 y15 y16 y17 y18 y19 y20 y21 y22 y23 w24 w25 w26 w27 w28 w29 w30 w31 w32 w33 w34 w35 w36 w37 w38 w39 w40 w41 w42 w43 w44 w45 y46 y47 y48 y49:TV):ASt:=⟨[Pt 0,AV.tv x0,Jk,Jk,AV.one (CA.tptr 1 0 [] k1 0),Pt 2] ++ Rj 29 ++ [AV.tv x2] ++ Rj 7,[some (BC.cells [CA.swin 1 0 [] lo3 len4,CA.t y5,CA.t y6,CA.t y7,CA.t y8,CA.t y9,CA.t y10,CA.t y11,CA.t y12,CA.t y13,CA.t y14,CA.t y15,CA.t y16,CA.t y17,CA.t y18,CA.t y19,CA.t y20,CA.sref 1 17 [],CA.sref 1 18 [],CA.t y21,CA.t y22,CA.t y23]),some (BC.tree [w24,w25,w26,w27,w28,w29,w30,w31,w32,w33,w34,w35,w36,w37,w38,w39,w40,w41,w42,w43,w44,w45]),some (BC.cells [CA.t y46,CA.t y47,CA.t y48,CA.t y49])] ++ Rz 182,([Pt 0] ++ Rj 116)⟩
def f52_11_S  (x0:TV) (k1:Nat) (x2:TV) (lo3 len4:Nat) (y5 y6 y7 y8 y9 y10 y11 y12 y13 y14 y15 y16 y17 y18 y19 y20 y21 y22 y23 w24 w25 w26 w27 w28 w29 w30 w31 w32 w33 w34 w35 w36 w37 w38 w39 w40 w41 w42 w43 w44 w45 y46 y47 y48 y49:TV):ASt:=⟨[Pt 0,AV.tv x0,Jk,Jk,AV.one (CA.tptr 1 0 [] k1 0),Pt 2] ++ Rj 29 ++ [AV.tv x2] ++ Rj 7,[some (BC.cells [CA.swin 1 0 [] lo3 len4,CA.t y5,CA.t y6,CA.t y7,CA.t y8,CA.t y9,CA.t y10,CA.t y11,CA.t y12,CA.t y13,CA.t y14,CA.t y15,CA.t y16,CA.t y17,CA.t y18,CA.t y19,CA.t y20,CA.sref 1 17 [],CA.sref 1 18 [],CA.t y21,CA.t y22,CA.t y23]),some (BC.tree [w24,w25,w26,w27,w28,w29,w30,w31,w32,w33,w34,w35,w36,w37,w38,w39,w40,w41,w42,w43,w44,w45]),some (BC.cells [CA.t y46,CA.t y47,CA.t y48,CA.t y49])] ++ Rz 182,([Pt 0] ++ Rj 116)⟩
def f52_M (c0 c1 c2 c3 c4 c5 c6 c7 c8 c9 c10 c11 c12 c13 c14 c15 c16 c17 c18 c19 c20 c21:TV):Prg TV :=
 chk (Bool.and (isSl c0) (Bool.and (isSc c1) (Bool.and (isSc c2) (Bool.and (isSc c3) (Bool.and (isSc c4) (Bool.and (isSc c5) (Bool.and (isSc c6) (Bool.and (isSc c7) (Bool.and (isSc c8) (Bool.and (isSc c9) (Bool.and (isSc c10) (Bool.and (isSc c11) (Bool.and (isSc c12) (Bool.and (isSc c13) (Bool.and (isSc c14) (Bool.and (isSc c15) (Bool.and (isSc c16) (Bool.and (isSl c17) (Bool.and (isSl c18) (Bool.and (isSc c19) (Bool.and (isSc c20) (Bool.and (isSl c21) true)))))))))))))))))))))) (
 tv (plen (.slice 51) c0) fun v0 =>
 tv (pbin (.int .i64) .sub v0 (I 1)) fun v1 =>
 nat (slLen c0) fun n2 =>
 nat (ak v1) fun n3 =>
 chk (Bool.and (slSize c0 5) (Nat.blt n3 n2)) (
 jmp [1] (f52_0_S n3 c1 c2 c3 c4 c5 c6 c7 c8 c9 c10 c11 c12 c13 c14 c15 c16 c19 c20 (frz c21) c0 hole hole hole hole hole hole hole hole hole hole hole hole hole hole hole hole c17 c18 hole hole (frz c21))))
def f52_0  (k0:Nat) (y1 y2 y3 y4 y5 y6 y7 y8 y9 y10 y11 y12 y13 y14 y15 y16 y17 y18 y19 w20 w21 w22 w23 w24 w25 w26 w27 w28 w29 w30 w31 w32 w33 w34 w35 w36 w37 w38 w39 w40 w41:TV):Prg TV :=
 tvs (pel w20 k0) fun e4 =>
 chk (ab z50 e4 0) (
 tv (aE [(k0,3)] w20) fun v5 =>
 call 71 [y19,agg (lfL [nth hole e4 0,nth hole e4 1,nth hole e4 2,frz v5,nth hole e4 4])] fun v6 =>
 chk (TV.isAgg v6 14) (
 tvs (pel w20 k0) fun e7 =>
 chk (ab ei e7 2) (
 tv (plen (.slice 108) (cell v6 5)) fun v8 =>
 tv (pbin (.int .i64) .lss (nth hole e7 2) v8) fun v9 =>
 Prg.ite (asBool v9) (
 tvs (pel w20 k0) fun e10 =>
 chk (ab ei e10 2) (
 tvs (pidx 7 (cell v6 5) (nth hole e10 2)) fun e11 =>
 chk (Nat.ble 7 (List.length e11)) (
 tv (pbin (.int .i64) .eql (nth hole e11 0) (I 9)) fun v12 =>
 Prg.ite (asBool v12) (
 tvs (pel w20 k0) fun e13 =>
 chk (ab zSl e13 3) (
 tv (aE [(k0,3)] w20) fun v14 =>
 nat (slLen v14) fun n15 =>
 nat (ak (nth hole e11 2)) fun n16 =>
 chk (Bool.and (slSize v14 1) (Nat.blt n16 n15)) (
 tv (aE [(k0,3)] w20) fun v17 =>
 tvs (pel v17 n16) fun e18 =>
 chk (ab cZ e18 0) (
 tv (pbin (.int .u16) .geq (nth hole e18 0) (W 16)) fun v19 =>
 Prg.ite (asBool v19) (
 ret (tup [tup [],tup [w20,y1,y2,y3,y4,y5,y6,y7,y8,y9,y10,y11,y12,y13,y14,y15,y16,w37,w38,I 4,W 0,y19]])) (
 nat (ak (nth hole e18 0)) fun n20 =>
 chk (Nat.blt n20 16) (
 tvs (pel w20 k0) fun e21 =>
 chk (ab zSl e21 3) (
 tv (pnth n20 [y1,y2,y3,y4,y5,y6,y7,y8,y9,y10,y11,y12,y13,y14,y15,y16]) fun v22 =>
 tv (aE [(k0,3)] w20) fun v23 =>
 nat (slLen v23) fun n24 =>
 nat (ak (nth hole e11 1)) fun n25 =>
 chk (Bool.and (slSize v23 1) (Nat.blt n25 n24)) (
 tv (aE [(k0,3)] w20) fun v26 =>
 tvs (pel v26 n25) fun e27 =>
 chk (ab cZ e27 0) (
 tv (cj [(k0,3)] w20 n25 0 [v22]) fun v28 =>
 tvs (pel v28 k0) fun e29 =>
 chk (ab ei e29 2) (
 tv (pbin (.int .i64) .add (nth hole e29 2) (I 1)) fun v30 =>
 tvs (pel v28 k0) fun e31 =>
 chk (ab ei e31 2) (
 tv (cj [] v28 k0 2 [v30]) fun v32 =>
 ret (tup [tup [],tup [v32,y1,y2,y3,y4,y5,y6,y7,y8,y9,y10,y11,y12,y13,y14,y15,y16,w37,w38,y17,y18,y19]])))))))))))) (
 tv (pbin (.int .i64) .eql (nth hole e11 0) (I 10)) fun v33 =>
 Prg.ite (asBool v33) (
 tvs (pel w20 k0) fun e34 =>
 chk (ab zSl e34 3) (
 tv (aE [(k0,3)] w20) fun v35 =>
 nat (slLen v35) fun n36 =>
 nat (ak (nth hole e11 2)) fun n37 =>
 chk (Bool.and (slSize v35 1) (Nat.blt n37 n36)) (
 tv (aE [(k0,3)] w20) fun v38 =>
 tvs (pel v38 n37) fun e39 =>
 chk (ab cZ e39 0) (
 tv (pbin (.int .u16) .geq (nth hole e39 0) (W 16)) fun v40 =>
 Prg.ite (asBool v40) (
 ret (tup [tup [],tup [w20,y1,y2,y3,y4,y5,y6,y7,y8,y9,y10,y11,y12,y13,y14,y15,y16,w37,w38,I 4,W 0,y19]])) (
 nat (ak (nth hole e39 0)) fun n41 =>
 chk (Nat.blt n41 16) (
 tvs (pel w20 k0) fun e42 =>
 chk (ab zSl e42 3) (
 tv (aE [(k0,3)] w20) fun v43 =>
 nat (slLen v43) fun n44 =>
 nat (ak (nth hole e11 3)) fun n45 =>
 chk (Bool.and (slSize v43 1) (Nat.blt n45 n44)) (
 tv (aE [(k0,3)] w20) fun v46 =>
 tvs (pel v46 n45) fun e47 =>
 chk (ab cZ e47 0) (
 tvs (pel w20 k0) fun e48 =>
 chk (ab ei e48 2) (
 tv (pbin (.int .i64) .add (nth hole e48 2) (I 1)) fun v49 =>
 tvs (pel w20 k0) fun e50 =>
 chk (ab ei e50 2) (
 tv (cj [] w20 k0 2 [v49]) fun v51 =>
 ret (tup [tup [],tup [v51,iq n41 0 (nth hole e47 0) y1,iq n41 1 (nth hole e47 0) y2,iq n41 2 (nth hole e47 0) y3,iq n41 3 (nth hole e47 0) y4,iq n41 4 (nth hole e47 0) y5,iq n41 5 (nth hole e47 0) y6,iq n41 6 (nth hole e47 0) y7,iq n41 7 (nth hole e47 0) y8,iq n41 8 (nth hole e47 0) y9,iq n41 9 (nth hole e47 0) y10,iq n41 10 (nth hole e47 0) y11,iq n41 11 (nth hole e47 0) y12,iq n41 12 (nth hole e47 0) y13,iq n41 13 (nth hole e47 0) y14,iq n41 14 (nth hole e47 0) y15,iq n41 15 (nth hole e47 0) y16,w37,w38,y17,y18,y19]])))))))))))) (
 tv (pbin (.int .i64) .eql (nth hole e11 0) (I 11)) fun v52 =>
 Prg.ite (asBool v52) (
 tv (plen (.slice 51) w20) fun v53 =>
 tv (pbin (.int .i64) .geq v53 (I 32)) fun v54 =>
 Prg.ite (asBool v54) (
 ret (tup [tup [],tup [w20,y1,y2,y3,y4,y5,y6,y7,y8,y9,y10,y11,y12,y13,y14,y15,y16,w37,w38,I 5,W 0,y19]])) (
 tvs (pidx 3 y19 (nth hole e11 5)) fun e55 =>
 chk (Nat.blt 1 (List.length e55)) (
 nat (ak (nth hole e55 1)) fun n56 =>
 nat (ak (nth hole e55 1)) fun n57 =>
 chk (Bool.and (Nat.ble n56 n57) (Nat.ble n57 4294967296)) (
 tv (plen (.slice 3) (nth hole e11 6)) fun v58 =>
 jmp [0,0,1,0,1,1,14,0,1,1,1,1,1,0,1,1,22,0,0,1,0,1,1] (f52_1_S k0 (nth hole e11 5) (nth hole e11 6) v58 (I 0) y1 y2 y3 y4 y5 y6 y7 y8 y9 y10 y11 y12 y13 y14 y15 y16 y17 y18 y19 w20 w21 w22 w23 w24 w25 w26 w27 w28 w29 w30 w31 w32 w33 w34 w35 w36 w37 w38 w39 w40 w41 (TV.sl true 1 (List.replicate n56 [W 0]))))))) (
 tv (pbin (.int .i64) .eql (nth hole e11 0) (I 12)) fun v59 =>
 Prg.ite (asBool v59) (
 tvs (pel w20 k0) fun e60 =>
 chk (ab zSl e60 3) (
 tv (aE [(k0,3)] w20) fun v61 =>
 nat (slLen v61) fun n62 =>
 nat (ak (nth hole e11 2)) fun n63 =>
 chk (Bool.and (slSize v61 1) (Nat.blt n63 n62)) (
 tv (aE [(k0,3)] w20) fun v64 =>
 tvs (pel v64 n63) fun e65 =>
 chk (ab cZ e65 0) (
 tv (pconv (.int .i64) (nth hole e65 0)) fun v66 =>
 rws (pelems 1 (TV.sl true 1 (chunks 1 1 [v66]))) fun r67 =>
 tv (papp 1 w38 (rO r67)) fun v68 =>
 tvs (pel w20 k0) fun e69 =>
 chk (ab ei e69 2) (
 tv (pbin (.int .i64) .add (nth hole e69 2) (I 1)) fun v70 =>
 tvs (pel w20 k0) fun e71 =>
 chk (ab ei e71 2) (
 tv (cj [] w20 k0 2 [v70]) fun v72 =>
 ret (tup [tup [],tup [v72,y1,y2,y3,y4,y5,y6,y7,y8,y9,y10,y11,y12,y13,y14,y15,y16,w37,v68,y17,y18,y19]]))))))) (
 tv (pbin (.int .i64) .eql (nth hole e11 0) (I 13)) fun v73 =>
 Prg.ite (asBool v73) (
 tv (plen (.slice 42) w37) fun v74 =>
 tv (pbin (.int .i64) .eql v74 (I 0)) fun v75 =>
 Prg.ite (asBool v75) (
 ret (tup [tup [],tup [w20,y1,y2,y3,y4,y5,y6,y7,y8,y9,y10,y11,y12,y13,y14,y15,y16,w37,w38,I 6,W 0,y19]])) (
 nat (slLen w37) fun n76 =>
 nat (ak (I 0)) fun n77 =>
 chk (Bool.and (slSize w37 1) (Nat.blt n77 n76)) (
 tvs (pel w37 n77) fun e78 =>
 chk (ab cZ e78 0) (
 nat (slLen w37) fun n79 =>
 nat (ak (I 1)) fun n80 =>
 chk (Bool.and (Bool.and (slSize w37 1) (Nat.ble (Option.getD (some n80) 0) (Option.getD none n79))) (Nat.ble (Option.getD none n79) n79)) (
 tv (pconv (.int .i64) (nth hole e78 0)) fun v81 =>
 tv (pbin (.int .i64) .add v81 (I 65536)) fun v82 =>
 rws (pelems 1 (TV.sl true 1 (chunks 1 1 [v82]))) fun r83 =>
 tv (papp 1 w38 (rO r83)) fun v84 =>
 tvs (pel w20 k0) fun e85 =>
 chk (ab zSl e85 3) (
 tv (aE [(k0,3)] w20) fun v86 =>
 nat (slLen v86) fun n87 =>
 nat (ak (nth hole e11 1)) fun n88 =>
 chk (Bool.and (slSize v86 1) (Nat.blt n88 n87)) (
 tv (aE [(k0,3)] w20) fun v89 =>
 tvs (pel v89 n88) fun e90 =>
 chk (ab cZ e90 0) (
 tv (cj [(k0,3)] w20 n88 0 [nth hole e78 0]) fun v91 =>
 tvs (pel v91 k0) fun e92 =>
 chk (ab ei e92 2) (
 tv (pbin (.int .i64) .add (nth hole e92 2) (I 1)) fun v93 =>
 tvs (pel v91 k0) fun e94 =>
 chk (ab ei e94 2) (
 tv (cj [] v91 k0 2 [v93]) fun v95 =>
 tv (cC (Option.getD (some n80) 0) ((Option.getD none n79) - (Option.getD (some n80) 0)) w37) fun v96 =>
 ret (tup [tup [],tup [v95,y1,y2,y3,y4,y5,y6,y7,y8,y9,y10,y11,y12,y13,y14,y15,y16,v96,v84,y17,y18,y19]]))))))))))) (
 tvs (pel w20 k0) fun e97 =>
 chk (ab z50 e97 0) (
 tv (aE [(k0,3)] w20) fun v98 =>
 call 98 [agg [nth hole e97 0,nth hole e97 1,nth hole e97 2,frz v98,nth hole e97 4],agg [nth hole e11 0,nth hole e11 1,nth hole e11 2,nth hole e11 3,nth hole e11 4,nth hole e11 5,nth hole e11 6]] fun v99 =>
 chk (isTup v99 2) (
 chk (Bool.and (TV.isAgg (comp v99 0) 5) (ab z50 (cellsL true (comp v99 0)) 0)) (
 chk (ab au [comp v99 1] 0) (
 tv (pun .not (comp v99 1)) fun v100 =>
 Prg.ite (asBool v100) (
 ret (tup [tup [],tup [w20,y1,y2,y3,y4,y5,y6,y7,y8,y9,y10,y11,y12,y13,y14,y15,y16,w37,w38,I 3,W 0,y19]])) (
 tvs (pel w20 k0) fun e101 =>
 chk (Bool.and (bK z50 e101 0) (ab z50 [cell (comp v99 0) 0,cell (comp v99 0) 1,cell (comp v99 0) 2,cell (comp v99 0) 3,cell (comp v99 0) 4] 0)) (
 tv (cj [] w20 k0 0 [cell (comp v99 0) 0,cell (comp v99 0) 1,cell (comp v99 0) 2,cell (comp v99 0) 3,cell (comp v99 0) 4]) fun v102 =>
 ret (tup [tup [],tup [v102,y1,y2,y3,y4,y5,y6,y7,y8,y9,y10,y11,y12,y13,y14,y15,y16,w37,w38,y17,y18,y19]]))))))))))))))) (
 tv (pbin (.int .i64) .eql (cell v6 6) (I 1)) fun v103 =>
 Prg.ite (asBool v103) (
 tvs (pel w20 k0) fun e104 =>
 chk (ab zSl e104 3) (
 tv (aE [(k0,3)] w20) fun v105 =>
 nat (slLen v105) fun n106 =>
 nat (ak (cell v6 7)) fun n107 =>
 chk (Bool.and (slSize v105 1) (Nat.blt n107 n106)) (
 tv (aE [(k0,3)] w20) fun v108 =>
 tvs (pel v108 n107) fun e109 =>
 chk (ab cZ e109 0) (
 tv (plen (.slice 51) w20) fun v110 =>
 tv (pbin (.int .i64) .sub v110 (I 1)) fun v111 =>
 nat (slLen w20) fun n112 =>
 nat (ak v111) fun n113 =>
 chk (Bool.and (Bool.and (slSize w20 5) (Nat.ble 0 (Option.getD (some n113) n112))) (Nat.ble (Option.getD (some n113) n112) n112)) (
 tv (cC 0 ((Option.getD (some n113) n112) - 0) w20) fun v114 =>
 tv (plen (.slice 51) v114) fun v115 =>
 tv (pbin (.int .i64) .eql v115 (I 0)) fun v116 =>
 Prg.ite (asBool v116) (
 tv (cC 0 ((Option.getD (some n113) n112) - 0) w20) fun v117 =>
 ret (tup [tup [],tup [v117,y1,y2,y3,y4,y5,y6,y7,y8,y9,y10,y11,y12,y13,y14,y15,y16,w37,w38,I 1,nth hole e109 0,y19]])) (
 tv (cC 0 ((Option.getD (some n113) n112) - 0) w20) fun v118 =>
 tv (plen (.slice 51) v118) fun v119 =>
 tv (pbin (.int .i64) .sub v119 (I 1)) fun v120 =>
 nat (ak v120) fun n121 =>
 chk (Bool.and (slSize w20 5) (Nat.blt n121 ((Option.getD (some n113) n112) - 0))) (
 tvs (pel w20 (0 + n121)) fun e122 =>
 chk (ab z50 e122 0) (
 tv (aE [(0 + n121,3)] w20) fun v123 =>
 call 71 [y19,agg (lfL [nth hole e122 0,nth hole e122 1,nth hole e122 2,frz v123,nth hole e122 4])] fun v124 =>
 chk (TV.isAgg v124 14) (
 tvs (pel w20 (0 + n121)) fun e125 =>
 chk (ab ei e125 2) (
 tv (plen (.slice 108) (cell v124 5)) fun v126 =>
 tv (pbin (.int .i64) .lss (nth hole e125 2) v126) fun v127 =>
 Prg.ite (asBool v127) (
 tvs (pel w20 (0 + n121)) fun e128 =>
 chk (ab zSl e128 3) (
 tvs (pel w20 (0 + n121)) fun e129 =>
 chk (ab ei e129 2) (
 tvs (pidx 7 (cell v124 5) (nth hole e129 2)) fun e130 =>
 chk (Nat.blt 1 (List.length e130)) (
 tv (aE [(0 + n121,3)] w20) fun v131 =>
 nat (slLen v131) fun n132 =>
 nat (ak (nth hole e130 1)) fun n133 =>
 chk (Bool.and (slSize v131 1) (Nat.blt n133 n132)) (
 tv (aE [(0 + n121,3)] w20) fun v134 =>
 tvs (pel v134 n133) fun e135 =>
 chk (ab cZ e135 0) (
 tv (cj [(0 + n121,3)] w20 n133 0 [nth hole e109 0]) fun v136 =>
 tvs (pel v136 (0 + n121)) fun e137 =>
 chk (ab ei e137 2) (
 tv (pbin (.int .i64) .add (nth hole e137 2) (I 1)) fun v138 =>
 tvs (pel v136 (0 + n121)) fun e139 =>
 chk (ab ei e139 2) (
 tv (cj [] v136 (0 + n121) 2 [v138]) fun v140 =>
 tv (cC 0 ((Option.getD (some n113) n112) - 0) v140) fun v141 =>
 ret (tup [tup [],tup [v141,y1,y2,y3,y4,y5,y6,y7,y8,y9,y10,y11,y12,y13,y14,y15,y16,w37,w38,y17,y18,y19]]))))))))) (
 tvs (pel w20 (0 + n121)) fun e142 =>
 chk (ab zSl e142 3) (
 tv (aE [(0 + n121,3)] w20) fun v143 =>
 nat (slLen v143) fun n144 =>
 nat (ak (cell v124 8)) fun n145 =>
 chk (Bool.and (slSize v143 1) (Nat.blt n145 n144)) (
 tv (aE [(0 + n121,3)] w20) fun v146 =>
 tvs (pel v146 n145) fun e147 =>
 chk (ab cZ e147 0) (
 tv (cj [(0 + n121,3)] w20 n145 0 [nth hole e109 0]) fun v148 =>
 tvs (pel v148 (0 + n121)) fun e149 =>
 chk (ab z50 e149 0) (
 tv (aE [(0 + n121,3)] v148) fun v150 =>
 call 89 [agg [nth hole e149 0,nth hole e149 1,nth hole e149 2,frz v150,nth hole e149 4],cell v124 11] fun v151 =>
 chk (Bool.and (TV.isAgg v151 5) (ab z50 (cellsL true v151) 0)) (
 tvs (pel v148 (0 + n121)) fun e152 =>
 chk (Bool.and (bK z50 e152 0) (ab z50 [cell v151 0,cell v151 1,cell v151 2,cell v151 3,cell v151 4] 0)) (
 tv (cj [] v148 (0 + n121) 0 [cell v151 0,cell v151 1,cell v151 2,cell v151 3,cell v151 4]) fun v153 =>
 tv (cC 0 ((Option.getD (some n113) n112) - 0) v153) fun v154 =>
 ret (tup [tup [],tup [v154,y1,y2,y3,y4,y5,y6,y7,y8,y9,y10,y11,y12,y13,y14,y15,y16,w37,w38,y17,y18,y19]])))))))))))))))))) (
 tv (pbin (.int .i64) .eql (cell v6 6) (I 2)) fun v155 =>
 Prg.ite (asBool v155) (
 tvs (pel w20 k0) fun e156 =>
 chk (ab z50 e156 0) (
 tv (aE [(k0,3)] w20) fun v157 =>
 call 89 [agg [nth hole e156 0,nth hole e156 1,nth hole e156 2,frz v157,nth hole e156 4],cell v6 11] fun v158 =>
 chk (Bool.and (TV.isAgg v158 5) (ab z50 (cellsL true v158) 0)) (
 tvs (pel w20 k0) fun e159 =>
 chk (Bool.and (bK z50 e159 0) (ab z50 [cell v158 0,cell v158 1,cell v158 2,cell v158 3,cell v158 4] 0)) (
 tv (cj [] w20 k0 0 [cell v158 0,cell v158 1,cell v158 2,cell v158 3,cell v158 4]) fun v160 =>
 ret (tup [tup [],tup [v160,y1,y2,y3,y4,y5,y6,y7,y8,y9,y10,y11,y12,y13,y14,y15,y16,w37,w38,y17,y18,y19]]))))) (
 tv (pbin (.int .i64) .eql (cell v6 6) (I 3)) fun v161 =>
 Prg.ite (asBool v161) (
 tvs (pel w20 k0) fun e162 =>
 chk (ab zSl e162 3) (
 tv (aE [(k0,3)] w20) fun v163 =>
 nat (slLen v163) fun n164 =>
 nat (ak (cell v6 7)) fun n165 =>
 chk (Bool.and (slSize v163 1) (Nat.blt n165 n164)) (
 tv (aE [(k0,3)] w20) fun v166 =>
 tvs (pel v166 n165) fun e167 =>
 chk (ab cZ e167 0) (
 tv (pbin (.int .u16) .eql (nth hole e167 0) (W 0)) fun v168 =>
 Prg.ite (asBool v168) (
 jmp [1,0,1,1,1,1,1,0,1,1,10,1,1,1] (f52_2_S k0 w20 w21 w22 w23 w24 w25 w26 w27 w28 w29 w30 w31 w32 w33 w34 w35 w36 w37 w38 w39 w40 w41 (cell v6 6) (cell v6 7) (cell v6 8) (cell v6 9) (cell v6 10) (cell v6 12) (cell v6 12) (cell v6 13) y1 y2 y3 y4 y5 y6 y7 y8 y9 y10 y11 y12 y13 y14 y15 y16 y17 y18 y19)) (
 jmp [1,0,1,1,1,1,1,0,1,1,10,1,1,1] (f52_2_S k0 w20 w21 w22 w23 w24 w25 w26 w27 w28 w29 w30 w31 w32 w33 w34 w35 w36 w37 w38 w39 w40 w41 (cell v6 6) (cell v6 7) (cell v6 8) (cell v6 9) (cell v6 10) (cell v6 11) (cell v6 12) (cell v6 13) y1 y2 y3 y4 y5 y6 y7 y8 y9 y10 y11 y12 y13 y14 y15 y16 y17 y18 y19)))))) (
 tv (pbin (.int .i64) .eql (cell v6 6) (I 4)) fun v169 =>
 Prg.ite (asBool v169) (
 tv (plen (.slice 51) w20) fun v170 =>
 tv (pbin (.int .i64) .geq v170 (I 32)) fun v171 =>
 Prg.ite (asBool v171) (
 ret (tup [tup [],tup [w20,y1,y2,y3,y4,y5,y6,y7,y8,y9,y10,y11,y12,y13,y14,y15,y16,w37,w38,I 5,W 0,y19]])) (
 tvs (pidx 3 y19 (cell v6 9)) fun e172 =>
 chk (Nat.blt 1 (List.length e172)) (
 nat (ak (nth hole e172 1)) fun n173 =>
 nat (ak (nth hole e172 1)) fun n174 =>
 chk (Bool.and (Nat.ble n173 n174) (Nat.ble n174 4294967296)) (
 tv (plen (.slice 3) (cell v6 10)) fun v175 =>
 jmp [0,0,1,0,1,1,14,0,1,1,1,1,1,1,1,0,1,1,10,1,1,1] (f52_3_S k0 (cell v6 9) (cell v6 10) v175 (I 0) y1 y2 y3 y4 y5 y6 y7 y8 y9 y10 y11 y12 y13 y14 y15 y16 y17 y18 y19 w20 w21 w22 w23 w24 w25 w26 w27 w28 w29 w30 w31 w32 w33 w34 w35 w36 w37 w38 w39 w40 w41 (TV.sl true 1 (List.replicate n173 [W 0]))))))) (
 tv (pbin (.int .i64) .eql (cell v6 6) (I 5)) fun v176 =>
 Prg.ite (asBool v176) (
 tvs (pel w20 k0) fun e177 =>
 chk (ab zSl e177 3) (
 tv (aE [(k0,3)] w20) fun v178 =>
 nat (slLen v178) fun n179 =>
 nat (ak (cell v6 7)) fun n180 =>
 chk (Bool.and (slSize v178 1) (Nat.blt n180 n179)) (
 tv (aE [(k0,3)] w20) fun v181 =>
 tvs (pel v181 n180) fun e182 =>
 chk (ab cZ e182 0) (
 tv (plen (.slice 51) w20) fun v183 =>
 tv (pbin (.int .i64) .sub v183 (I 1)) fun v184 =>
 nat (slLen w20) fun n185 =>
 nat (ak v184) fun n186 =>
 chk (Bool.and (Bool.and (slSize w20 5) (Nat.ble 0 (Option.getD (some n186) n185))) (Nat.ble (Option.getD (some n186) n185) n185)) (
 tv (cC 0 ((Option.getD (some n186) n185) - 0) w20) fun v187 =>
 tv (plen (.slice 51) v187) fun v188 =>
 jmp [0,0,1,0,1,6,0,0,1,20,0,1,1,1,1,1,1,1,1,1,0,1,1,10,1,1,1] (f52_4_S (nth hole e182 0) 0 ((Option.getD (some n186) n185) - 0) v188 (I 0) 0 ((Option.getD (some n186) n185) - 0) y1 y2 y3 y4 y5 y6 y7 y8 y9 y10 y11 y12 y13 y14 y15 y16 y17 y18 y19 w20 w21 w22 w23 w24 w25 w26 w27 w28 w29 w30 w31 w32 w33 w34 w35 w36 w37 w38 w39 w40 w41 (nth hole e182 0))))))) (
 tv (pbin (.int .i64) .eql (cell v6 6) (I 6)) fun v189 =>
 Prg.ite (asBool v189) (
 tvs (pel w20 k0) fun e190 =>
 chk (ab cZ e190 4) (
 tv (plen (.slice 51) w20) fun v191 =>
 tv (pbin (.int .i64) .sub v191 (I 1)) fun v192 =>
 nat (slLen w20) fun n193 =>
 nat (ak v192) fun n194 =>
 chk (Bool.and (Bool.and (slSize w20 5) (Nat.ble 0 (Option.getD (some n194) n193))) (Nat.ble (Option.getD (some n194) n193) n193)) (
 tv (cC 0 ((Option.getD (some n194) n193) - 0) w20) fun v195 =>
 tv (plen (.slice 51) v195) fun v196 =>
 jmp [0,0,1,0,1,6,0,0,1,12,0,1,1,1,1,1,1,1,1,1,1,1,0,1,1,10,1,1,1] (f52_5_S (nth hole e190 4) 0 ((Option.getD (some n194) n193) - 0) v196 (I 0) 0 ((Option.getD (some n194) n193) - 0) y1 y2 y3 y4 y5 y6 y7 y8 y9 y10 y11 y12 y13 y14 y15 y16 y17 y18 y19 w20 w21 w22 w23 w24 w25 w26 w27 w28 w29 w30 w31 w32 w33 w34 w35 w36 w37 w38 w39 w40 w41 (nth hole e190 4))))) (
 ret (tup [tup [],tup [w20,y1,y2,y3,y4,y5,y6,y7,y8,y9,y10,y11,y12,y13,y14,y15,y16,w37,w38,y17,y18,y19]])))))))))))
def f52_1  (k0:Nat) (x1 x2 x3 x4 y5 y6 y7 y8 y9 y10 y11 y12 y13 y14 y15 y16 y17 y18 y19 y20 y21 y22 y23 w24 w25 w26 w27 w28 w29 w30 w31 w32 w33 w34 w35 w36 w37 w38 w39 w40 w41 w42 w43 w44 w45 w46:TV):Prg TV :=
 tv (pbin (.int .i64) .lss x4 x3) fun v197 =>
 Prg.ite (asBool v197) (
 tvs (pidx 1 x2 x4) fun e198 =>
 chk (Nat.blt 0 (List.length e198)) (
 tvs (pel w24 k0) fun e199 =>
 chk (ab zSl e199 3) (
 tv (aE [(k0,3)] w24) fun v200 =>
 nat (slLen v200) fun n201 =>
 nat (ak (nth hole e198 0)) fun n202 =>
 chk (Bool.and (slSize v200 1) (Nat.blt n202 n201)) (
 tv (aE [(k0,3)] w24) fun v203 =>
 tvs (pel v203 n202) fun e204 =>
 chk (ab cZ e204 0) (
 nat (slLen w46) fun n205 =>
 nat (ak x4) fun n206 =>
 chk (Bool.and (slSize w46 1) (Nat.blt n206 n205)) (
 tvs (pel w46 n206) fun e207 =>
 chk (ab cZ e207 0) (
 tv (cj [] w46 n206 0 [nth hole e204 0]) fun v208 =>
 tv (pbin (.int .i64) .add x4 (I 1)) fun v209 =>
 jmp [0,0,1,0,1,1,14,0,1,1,1,1,1,0,1,1,22,0,0,1,0,1,1] (f52_1_S k0 x1 x2 x3 v209 y5 y6 y7 y8 y9 y10 y11 y12 y13 y14 y15 y16 y17 y18 y19 y20 y21 y22 y23 w24 w25 w26 w27 w28 w29 w30 w31 w32 w33 w34 w35 w36 w37 w38 w39 w40 w41 w42 w43 w44 w45 v208)))))))) (
 jmp [1,1,1,14,0,1,1,1,1,1,0,1,1,22,0,0,1,0,1,1] (f52_6_S x1 y5 y6 y7 y8 y9 y10 y11 y12 y13 y14 y15 y16 y17 y18 y19 y20 y21 y22 y23 w46 w24 w25 w26 w27 w28 w29 w30 w31 w32 w33 w34 w35 w36 w37 w38 w39 w40 w41 w42 w43 w44 w45))
def f52_2  (k0:Nat) (w1 w2 w3 w4 w5 w6 w7 w8 w9 w10 w11 w12 w13 w14 w15 w16 w17 w18 w19 w20 w21 w22 y23 y24 y25 y26 y27 y28 y29 y30 y31 y32 y33 y34 y35 y36 y37 y38 y39 y40 y41 y42 y43 y44 y45 y46 y47 y48 y49:TV):Prg TV :=
 tvs (pel w1 k0) fun e210 =>
 chk (ab z50 e210 0) (
 tv (aE [(k0,3)] w1) fun v211 =>
 call 89 [agg [nth hole e210 0,nth hole e210 1,nth hole e210 2,frz v211,nth hole e210 4],y28] fun v212 =>
 chk (Bool.and (TV.isAgg v212 5) (ab z50 (cellsL true v212) 0)) (
 tvs (pel w1 k0) fun e213 =>
 chk (Bool.and (bK z50 e213 0) (ab z50 [cell v212 0,cell v212 1,cell v212 2,cell v212 3,cell v212 4] 0)) (
 tv (cj [] w1 k0 0 [cell v212 0,cell v212 1,cell v212 2,cell v212 3,cell v212 4]) fun v214 =>
 ret (tup [tup [],tup [v214,y31,y32,y33,y34,y35,y36,y37,y38,y39,y40,y41,y42,y43,y44,y45,y46,w18,w19,y47,y48,y49]]))))
def f52_3  (k0:Nat) (x1 x2 x3 x4 y5 y6 y7 y8 y9 y10 y11 y12 y13 y14 y15 y16 y17 y18 y19 y20 y21 y22 y23 w24 w25 w26 w27 w28 w29 w30 w31 w32 w33 w34 w35 w36 w37 w38 w39 w40 w41 w42 w43 w44 w45 w46:TV):Prg TV :=
 tv (pbin (.int .i64) .lss x4 x3) fun v215 =>
 Prg.ite (asBool v215) (
 tvs (pidx 1 x2 x4) fun e216 =>
 chk (Nat.blt 0 (List.length e216)) (
 tvs (pel w24 k0) fun e217 =>
 chk (ab zSl e217 3) (
 tv (aE [(k0,3)] w24) fun v218 =>
 nat (slLen v218) fun n219 =>
 nat (ak (nth hole e216 0)) fun n220 =>
 chk (Bool.and (slSize v218 1) (Nat.blt n220 n219)) (
 tv (aE [(k0,3)] w24) fun v221 =>
 tvs (pel v221 n220) fun e222 =>
 chk (ab cZ e222 0) (
 nat (slLen w46) fun n223 =>
 nat (ak x4) fun n224 =>
 chk (Bool.and (slSize w46 1) (Nat.blt n224 n223)) (
 tvs (pel w46 n224) fun e225 =>
 chk (ab cZ e225 0) (
 tv (cj [] w46 n224 0 [nth hole e222 0]) fun v226 =>
 tv (pbin (.int .i64) .add x4 (I 1)) fun v227 =>
 jmp [0,0,1,0,1,1,14,0,1,1,1,1,1,1,1,0,1,1,10,1,1,1] (f52_3_S k0 x1 x2 x3 v227 y5 y6 y7 y8 y9 y10 y11 y12 y13 y14 y15 y16 y17 y18 y19 y20 y21 y22 y23 w24 w25 w26 w27 w28 w29 w30 w31 w32 w33 w34 w35 w36 w37 w38 w39 w40 w41 w42 w43 w44 w45 v226)))))))) (
 jmp [1,1,1,14,0,1,1,1,1,1,1,1,0,1,1,10,1,1,1] (f52_7_S x1 y5 y6 y7 y8 y9 y10 y11 y12 y13 y14 y15 y16 y17 y18 y19 y20 y21 y22 y23 w46 w24 w25 w26 w27 w28 w29 w30 w31 w32 w33 w34 w35 w36 w37 w38 w39 w40 w41 w42 w43 w44 w45))
def f52_4  (x0:TV) (lo1 len2:Nat) (x3 x4:TV) (lo5 len6:Nat) (y7 y8 y9 y10 y11 y12 y13 y14 y15 y16 y17 y18 y19 y20 y21 y22 y23 y24 y25 w26 w27 w28 w29 w30 w31 w32 w33 w34 w35 w36 w37 w38 w39 w40 w41 w42 w43 w44 w45 w46 w47 x48:TV):Prg TV :=
 tv (pbin (.int .i64) .lss x4 x3) fun v228 =>
 Prg.ite (asBool v228) (
 nat (ak x4) fun n229 =>
 chk (Bool.and (slSize w26 5) (Nat.blt n229 len2)) (
 tvs (pel w26 (lo1 + n229)) fun e230 =>
 chk (ab z50 e230 0) (
 tv (aE [(lo1 + n229,3)] w26) fun v231 =>
 call 71 [y25,agg (lfL [nth hole e230 0,nth hole e230 1,nth hole e230 2,frz v231,nth hole e230 4])] fun v232 =>
 chk (TV.isAgg v232 14) (
 tv (plen (.slice 108) (cell v232 5)) fun v233 =>
 tv (pbin (.int .i64) .lss (nth hole e230 2) v233) fun v234 =>
 Prg.ite (asBool v234) (
 Prg.ite (asBool (B false)) (
 call 103 [agg [I 0,TV.lit aI,B false,B false],x0] fun v235 =>
 chk (ab au [v235] 0) (
 Prg.ite (asBool v235) (
 jmp [0,0,1,1,20,0,1,1,1,1,1,1,1,1,1,0,1,1,10,1,1,1] (f52_8_S x48 lo5 len6 y7 y8 y9 y10 y11 y12 y13 y14 y15 y16 y17 y18 y19 y20 y21 y22 y23 y24 y25 w26 w27 w28 w29 w30 w31 w32 w33 w34 w35 w36 w37 w38 w39 w40 w41 w42 w43 w44 w45 w46 w47)) (
 tv (pbin (.int .i64) .add x4 (I 1)) fun v236 =>
 jmp [0,0,1,0,1,6,0,0,1,20,0,1,1,1,1,1,1,1,1,1,0,1,1,10,1,1,1] (f52_4_S x0 lo1 len2 x3 v236 lo5 len6 y7 y8 y9 y10 y11 y12 y13 y14 y15 y16 y17 y18 y19 y20 y21 y22 y23 y24 y25 w26 w27 w28 w29 w30 w31 w32 w33 w34 w35 w36 w37 w38 w39 w40 w41 w42 w43 w44 w45 w46 w47 x48)))) (
 tv (pbin (.int .i64) .add x4 (I 1)) fun v237 =>
 jmp [0,0,1,0,1,6,0,0,1,20,0,1,1,1,1,1,1,1,1,1,0,1,1,10,1,1,1] (f52_4_S x0 lo1 len2 x3 v237 lo5 len6 y7 y8 y9 y10 y11 y12 y13 y14 y15 y16 y17 y18 y19 y20 y21 y22 y23 y24 y25 w26 w27 w28 w29 w30 w31 w32 w33 w34 w35 w36 w37 w38 w39 w40 w41 w42 w43 w44 w45 w46 w47 x48))) (
 tvs (pidx 3 y25 (nth hole e230 0)) fun e238 =>
 chk (Nat.blt 2 (List.length e238)) (
 tvs (pidx 14 (nth hole e238 2) (cell v232 13)) fun e239 =>
 chk (Nat.ble 5 (List.length e239)) (
 Prg.ite (asBool (B true)) (
 call 103 [agg [nth hole e239 1,nth hole e239 2,nth hole e239 3,nth hole e239 4],x0] fun v240 =>
 chk (ab au [v240] 0) (
 Prg.ite (asBool v240) (
 jmp [0,0,1,1,20,0,1,1,1,1,1,1,1,1,1,0,1,1,10,1,1,1] (f52_8_S x48 lo5 len6 y7 y8 y9 y10 y11 y12 y13 y14 y15 y16 y17 y18 y19 y20 y21 y22 y23 y24 y25 w26 w27 w28 w29 w30 w31 w32 w33 w34 w35 w36 w37 w38 w39 w40 w41 w42 w43 w44 w45 w46 w47)) (
 tv (pbin (.int .i64) .add x4 (I 1)) fun v241 =>
 jmp [0,0,1,0,1,6,0,0,1,20,0,1,1,1,1,1,1,1,1,1,0,1,1,10,1,1,1] (f52_4_S x0 lo1 len2 x3 v241 lo5 len6 y7 y8 y9 y10 y11 y12 y13 y14 y15 y16 y17 y18 y19 y20 y21 y22 y23 y24 y25 w26 w27 w28 w29 w30 w31 w32 w33 w34 w35 w36 w37 w38 w39 w40 w41 w42 w43 w44 w45 w46 w47 x48)))) (
 tv (pbin (.int .i64) .add x4 (I 1)) fun v242 =>
 jmp [0,0,1,0,1,6,0,0,1,20,0,1,1,1,1,1,1,1,1,1,0,1,1,10,1,1,1] (f52_4_S x0 lo1 len2 x3 v242 lo5 len6 y7 y8 y9 y10 y11 y12 y13 y14 y15 y16 y17 y18 y19 y20 y21 y22 y23 y24 y25 w26 w27 w28 w29 w30 w31 w32 w33 w34 w35 w36 w37 w38 w39 w40 w41 w42 w43 w44 w45 w46 w47 x48))))))))) (
 chk (TV.eh x48) (
 tv (cC lo5 len6 w26) fun v243 =>
 ret (tup [tup [],tup [v243,y7,y8,y9,y10,y11,y12,y13,y14,y15,y16,y17,y18,y19,y20,y21,y22,w43,w44,I 2,x48,y25]])))
def f52_5  (x0:TV) (lo1 len2:Nat) (x3 x4:TV) (lo5 len6:Nat) (y7 y8 y9 y10 y11 y12 y13 y14 y15 y16 y17 y18 y19 y20 y21 y22 y23 y24 y25 w26 w27 w28 w29 w30 w31 w32 w33 w34 w35 w36 w37 w38 w39 w40 w41 w42 w43 w44 w45 w46 w47 x48:TV):Prg TV :=
 tv (pbin (.int .i64) .lss x4 x3) fun v244 =>
 Prg.ite (asBool v244) (
 nat (ak x4) fun n245 =>
 chk (Bool.and (slSize w26 5) (Nat.blt n245 len2)) (
 tvs (pel w26 (lo1 + n245)) fun e246 =>
 chk (ab z50 e246 0) (
 tv (aE [(lo1 + n245,3)] w26) fun v247 =>
 call 71 [y25,agg (lfL [nth hole e246 0,nth hole e246 1,nth hole e246 2,frz v247,nth hole e246 4])] fun v248 =>
 chk (TV.isAgg v248 14) (
 tv (plen (.slice 108) (cell v248 5)) fun v249 =>
 tv (pbin (.int .i64) .lss (nth hole e246 2) v249) fun v250 =>
 Prg.ite (asBool v250) (
 Prg.ite (asBool (B false)) (
 call 103 [agg [I 0,TV.lit aI,B false,B false],x0] fun v251 =>
 chk (ab au [v251] 0) (
 Prg.ite (asBool v251) (
 jmp [0,0,1,1,12,0,1,1,1,1,1,1,1,1,1,1,1,0,1,1,10,1,1,1] (f52_9_S x48 lo5 len6 y7 y8 y9 y10 y11 y12 y13 y14 y15 y16 y17 y18 y19 y20 y21 y22 y23 y24 y25 w26 w27 w28 w29 w30 w31 w32 w33 w34 w35 w36 w37 w38 w39 w40 w41 w42 w43 w44 w45 w46 w47)) (
 tv (pbin (.int .i64) .add x4 (I 1)) fun v252 =>
 jmp [0,0,1,0,1,6,0,0,1,12,0,1,1,1,1,1,1,1,1,1,1,1,0,1,1,10,1,1,1] (f52_5_S x0 lo1 len2 x3 v252 lo5 len6 y7 y8 y9 y10 y11 y12 y13 y14 y15 y16 y17 y18 y19 y20 y21 y22 y23 y24 y25 w26 w27 w28 w29 w30 w31 w32 w33 w34 w35 w36 w37 w38 w39 w40 w41 w42 w43 w44 w45 w46 w47 x48)))) (
 tv (pbin (.int .i64) .add x4 (I 1)) fun v253 =>
 jmp [0,0,1,0,1,6,0,0,1,12,0,1,1,1,1,1,1,1,1,1,1,1,0,1,1,10,1,1,1] (f52_5_S x0 lo1 len2 x3 v253 lo5 len6 y7 y8 y9 y10 y11 y12 y13 y14 y15 y16 y17 y18 y19 y20 y21 y22 y23 y24 y25 w26 w27 w28 w29 w30 w31 w32 w33 w34 w35 w36 w37 w38 w39 w40 w41 w42 w43 w44 w45 w46 w47 x48))) (
 tvs (pidx 3 y25 (nth hole e246 0)) fun e254 =>
 chk (Nat.blt 2 (List.length e254)) (
 tvs (pidx 14 (nth hole e254 2) (cell v248 13)) fun e255 =>
 chk (Nat.ble 5 (List.length e255)) (
 Prg.ite (asBool (B true)) (
 call 103 [agg [nth hole e255 1,nth hole e255 2,nth hole e255 3,nth hole e255 4],x0] fun v256 =>
 chk (ab au [v256] 0) (
 Prg.ite (asBool v256) (
 jmp [0,0,1,1,12,0,1,1,1,1,1,1,1,1,1,1,1,0,1,1,10,1,1,1] (f52_9_S x48 lo5 len6 y7 y8 y9 y10 y11 y12 y13 y14 y15 y16 y17 y18 y19 y20 y21 y22 y23 y24 y25 w26 w27 w28 w29 w30 w31 w32 w33 w34 w35 w36 w37 w38 w39 w40 w41 w42 w43 w44 w45 w46 w47)) (
 tv (pbin (.int .i64) .add x4 (I 1)) fun v257 =>
 jmp [0,0,1,0,1,6,0,0,1,12,0,1,1,1,1,1,1,1,1,1,1,1,0,1,1,10,1,1,1] (f52_5_S x0 lo1 len2 x3 v257 lo5 len6 y7 y8 y9 y10 y11 y12 y13 y14 y15 y16 y17 y18 y19 y20 y21 y22 y23 y24 y25 w26 w27 w28 w29 w30 w31 w32 w33 w34 w35 w36 w37 w38 w39 w40 w41 w42 w43 w44 w45 w46 w47 x48)))) (
 tv (pbin (.int .i64) .add x4 (I 1)) fun v258 =>
 jmp [0,0,1,0,1,6,0,0,1,12,0,1,1,1,1,1,1,1,1,1,1,1,0,1,1,10,1,1,1] (f52_5_S x0 lo1 len2 x3 v258 lo5 len6 y7 y8 y9 y10 y11 y12 y13 y14 y15 y16 y17 y18 y19 y20 y21 y22 y23 y24 y25 w26 w27 w28 w29 w30 w31 w32 w33 w34 w35 w36 w37 w38 w39 w40 w41 w42 w43 w44 w45 w46 w47 x48))))))))) (
 chk (TV.eh x48) (
 tv (cC lo5 len6 w26) fun v259 =>
 ret (tup [tup [],tup [v259,y7,y8,y9,y10,y11,y12,y13,y14,y15,y16,y17,y18,y19,y20,y21,y22,w43,w44,I 2,x48,y25]])))
def f52_6  (x0 y1 y2 y3 y4 y5 y6 y7 y8 y9 y10 y11 y12 y13 y14 y15 y16 y17 y18 y19 w20 w21 w22 w23 w24 w25 w26 w27 w28 w29 w30 w31 w32 w33 w34 w35 w36 w37 w38 w39 w40 w41 w42:TV):Prg TV :=
 chk (TV.eh x0) (
 rws (pelems 5 (TV.sl true 5 (chunks 5 1 [x0,I 0,I 0,w20,W 0]))) fun r260 =>
 tv (papp 5 w21 r260) fun v261 =>
 ret (tup [tup [],tup [v261,y1,y2,y3,y4,y5,y6,y7,y8,y9,y10,y11,y12,y13,y14,y15,y16,w38,w39,y17,y18,y19]]))
def f52_7  (x0 y1 y2 y3 y4 y5 y6 y7 y8 y9 y10 y11 y12 y13 y14 y15 y16 y17 y18 y19 w20 w21 w22 w23 w24 w25 w26 w27 w28 w29 w30 w31 w32 w33 w34 w35 w36 w37 w38 w39 w40 w41 w42:TV):Prg TV :=
 chk (TV.eh x0) (
 rws (pelems 5 (TV.sl true 5 (chunks 5 1 [x0,I 0,I 0,w20,W 0]))) fun r262 =>
 tv (papp 5 w21 r262) fun v263 =>
 ret (tup [tup [],tup [v263,y1,y2,y3,y4,y5,y6,y7,y8,y9,y10,y11,y12,y13,y14,y15,y16,w38,w39,y17,y18,y19]]))
def f52_8  (x0:TV) (lo1 len2:Nat) (y3 y4 y5 y6 y7 y8 y9 y10 y11 y12 y13 y14 y15 y16 y17 y18 y19 y20 y21 w22 w23 w24 w25 w26 w27 w28 w29 w30 w31 w32 w33 w34 w35 w36 w37 w38 w39 w40 w41 w42 w43:TV):Prg TV :=
 tv (cC lo1 len2 w22) fun v264 =>
 tv (plen (.slice 51) v264) fun v265 =>
 tv (pbin (.int .i64) .sub v265 (I 1)) fun v266 =>
 nat (ak v266) fun n267 =>
 chk (Bool.and (slSize w22 5) (Nat.blt n267 len2)) (
 tvs (pel w22 (lo1 + n267)) fun e268 =>
 chk (ab z50 e268 0) (
 tv (aE [(lo1 + n267,3)] w22) fun v269 =>
 call 71 [y21,agg (lfL [nth hole e268 0,nth hole e268 1,nth hole e268 2,frz v269,nth hole e268 4])] fun v270 =>
 chk (TV.isAgg v270 14) (
 tv (plen (.slice 108) (cell v270 5)) fun v271 =>
 tv (pbin (.int .i64) .lss (nth hole e268 2) v271) fun v272 =>
 Prg.ite (asBool v272) (
 Prg.ite (asBool (B false)) (
 Prg.ite (asBool (B false)) (
 jmp [1,1,0,1,0,0,0,1,1,20,0,1,1,1,1,1,1,1,1,1,0,1,1,10,1,1,1] (f52_10_S x0 (lo1 + n267) (B true) lo1 len2 y3 y4 y5 y6 y7 y8 y9 y10 y11 y12 y13 y14 y15 y16 y17 y18 y19 y20 y21 w22 w23 w24 w25 w26 w27 w28 w29 w30 w31 w32 w33 w34 w35 w36 w37 w38 w39 w40 w41 w42 w43 (I 0) (TV.lit aI) (B false) (B false))) (
 call 103 [agg [I 0,TV.lit aI,B false,B false],x0] fun v273 =>
 chk (ab au [v273] 0) (
 jmp [1,1,0,1,0,0,0,1,1,20,0,1,1,1,1,1,1,1,1,1,0,1,1,10,1,1,1] (f52_10_S x0 (lo1 + n267) v273 lo1 len2 y3 y4 y5 y6 y7 y8 y9 y10 y11 y12 y13 y14 y15 y16 y17 y18 y19 y20 y21 w22 w23 w24 w25 w26 w27 w28 w29 w30 w31 w32 w33 w34 w35 w36 w37 w38 w39 w40 w41 w42 w43 (I 0) (TV.lit aI) (B false) (B false))))) (
 jmp [1,1,0,1,0,0,0,1,1,20,0,1,1,1,1,1,1,1,1,1,0,1,1,10,1,1,1] (f52_10_S x0 (lo1 + n267) (B false) lo1 len2 y3 y4 y5 y6 y7 y8 y9 y10 y11 y12 y13 y14 y15 y16 y17 y18 y19 y20 y21 w22 w23 w24 w25 w26 w27 w28 w29 w30 w31 w32 w33 w34 w35 w36 w37 w38 w39 w40 w41 w42 w43 (I 0) (TV.lit aI) (B false) (B false)))) (
 tvs (pidx 3 y21 (nth hole e268 0)) fun e274 =>
 chk (Nat.blt 2 (List.length e274)) (
 tvs (pidx 14 (nth hole e274 2) (cell v270 13)) fun e275 =>
 chk (Nat.ble 5 (List.length e275)) (
 Prg.ite (asBool (B true)) (
 Prg.ite (asBool (nth hole e275 4)) (
 jmp [1,1,0,1,0,0,0,1,1,20,0,1,1,1,1,1,1,1,1,1,0,1,1,10,1,1,1] (f52_10_S x0 (lo1 + n267) (B true) lo1 len2 y3 y4 y5 y6 y7 y8 y9 y10 y11 y12 y13 y14 y15 y16 y17 y18 y19 y20 y21 w22 w23 w24 w25 w26 w27 w28 w29 w30 w31 w32 w33 w34 w35 w36 w37 w38 w39 w40 w41 w42 w43 (nth hole e275 1) (nth hole e275 2) (nth hole e275 3) (nth hole e275 4))) (
 call 103 [agg [nth hole e275 1,nth hole e275 2,nth hole e275 3,nth hole e275 4],x0] fun v276 =>
 chk (ab au [v276] 0) (
 jmp [1,1,0,1,0,0,0,1,1,20,0,1,1,1,1,1,1,1,1,1,0,1,1,10,1,1,1] (f52_10_S x0 (lo1 + n267) v276 lo1 len2 y3 y4 y5 y6 y7 y8 y9 y10 y11 y12 y13 y14 y15 y16 y17 y18 y19 y20 y21 w22 w23 w24 w25 w26 w27 w28 w29 w30 w31 w32 w33 w34 w35 w36 w37 w38 w39 w40 w41 w42 w43 (nth hole e275 1) (nth hole e275 2) (nth hole e275 3) (nth hole e275 4))))) (
 jmp [1,1,0,1,0,0,0,1,1,20,0,1,1,1,1,1,1,1,1,1,0,1,1,10,1,1,1] (f52_10_S x0 (lo1 + n267) (B false) lo1 len2 y3 y4 y5 y6 y7 y8 y9 y10 y11 y12 y13 y14 y15 y16 y17 y18 y19 y20 y21 w22 w23 w24 w25 w26 w27 w28 w29 w30 w31 w32 w33 w34 w35 w36 w37 w38 w39 w40 w41 w42 w43 (nth hole e275 1) (nth hole e275 2) (nth hole e275 3) (nth hole e275 4)))))))))
def f52_9  (x0:TV) (lo1 len2:Nat) (y3 y4 y5 y6 y7 y8 y9 y10 y11 y12 y13 y14 y15 y16 y17 y18 y19 y20 y21 w22 w23 w24 w25 w26 w27 w28 w29 w30 w31 w32 w33 w34 w35 w36 w37 w38 w39 w40 w41 w42 w43:TV):Prg TV :=
 tv (cC lo1 len2 w22) fun v277 =>
 tv (plen (.slice 51) v277) fun v278 =>
 tv (pbin (.int .i64) .sub v278 (I 1)) fun v279 =>
 nat (ak v279) fun n280 =>
 chk (Bool.and (slSize w22 5) (Nat.blt n280 len2)) (
 tvs (pel w22 (lo1 + n280)) fun e281 =>
 chk (ab z50 e281 0) (
 tv (aE [(lo1 + n280,3)] w22) fun v282 =>
 call 71 [y21,agg (lfL [nth hole e281 0,nth hole e281 1,nth hole e281 2,frz v282,nth hole e281 4])] fun v283 =>
 chk (TV.isAgg v283 14) (
 tv (plen (.slice 108) (cell v283 5)) fun v284 =>
 tv (pbin (.int .i64) .lss (nth hole e281 2) v284) fun v285 =>
 Prg.ite (asBool v285) (
 Prg.ite (asBool (B false)) (
 Prg.ite (asBool (B false)) (
 jmp [1,1,0,1,0,0,0,1,1,12,0,1,1,1,1,1,1,1,1,1,1,1,0,1,1,10,1,1,1] (f52_11_S x0 (lo1 + n280) (B true) lo1 len2 y3 y4 y5 y6 y7 y8 y9 y10 y11 y12 y13 y14 y15 y16 y17 y18 y19 y20 y21 w22 w23 w24 w25 w26 w27 w28 w29 w30 w31 w32 w33 w34 w35 w36 w37 w38 w39 w40 w41 w42 w43 (I 0) (TV.lit aI) (B false) (B false))) (
 call 103 [agg [I 0,TV.lit aI,B false,B false],x0] fun v286 =>
 chk (ab au [v286] 0) (
 jmp [1,1,0,1,0,0,0,1,1,12,0,1,1,1,1,1,1,1,1,1,1,1,0,1,1,10,1,1,1] (f52_11_S x0 (lo1 + n280) v286 lo1 len2 y3 y4 y5 y6 y7 y8 y9 y10 y11 y12 y13 y14 y15 y16 y17 y18 y19 y20 y21 w22 w23 w24 w25 w26 w27 w28 w29 w30 w31 w32 w33 w34 w35 w36 w37 w38 w39 w40 w41 w42 w43 (I 0) (TV.lit aI) (B false) (B false))))) (
 jmp [1,1,0,1,0,0,0,1,1,12,0,1,1,1,1,1,1,1,1,1,1,1,0,1,1,10,1,1,1] (f52_11_S x0 (lo1 + n280) (B false) lo1 len2 y3 y4 y5 y6 y7 y8 y9 y10 y11 y12 y13 y14 y15 y16 y17 y18 y19 y20 y21 w22 w23 w24 w25 w26 w27 w28 w29 w30 w31 w32 w33 w34 w35 w36 w37 w38 w39 w40 w41 w42 w43 (I 0) (TV.lit aI) (B false) (B false)))) (
 tvs (pidx 3 y21 (nth hole e281 0)) fun e287 =>
 chk (Nat.blt 2 (List.length e287)) (
 tvs (pidx 14 (nth hole e287 2) (cell v283 13)) fun e288 =>
 chk (Nat.ble 5 (List.length e288)) (
 Prg.ite (asBool (B true)) (
 Prg.ite (asBool (nth hole e288 4)) (
 jmp [1,1,0,1,0,0,0,1,1,12,0,1,1,1,1,1,1,1,1,1,1,1,0,1,1,10,1,1,1] (f52_11_S x0 (lo1 + n280) (B true) lo1 len2 y3 y4 y5 y6 y7 y8 y9 y10 y11 y12 y13 y14 y15 y16 y17 y18 y19 y20 y21 w22 w23 w24 w25 w26 w27 w28 w29 w30 w31 w32 w33 w34 w35 w36 w37 w38 w39 w40 w41 w42 w43 (nth hole e288 1) (nth hole e288 2) (nth hole e288 3) (nth hole e288 4))) (
 call 103 [agg [nth hole e288 1,nth hole e288 2,nth hole e288 3,nth hole e288 4],x0] fun v289 =>
 chk (ab au [v289] 0) (
 jmp [1,1,0,1,0,0,0,1,1,12,0,1,1,1,1,1,1,1,1,1,1,1,0,1,1,10,1,1,1] (f52_11_S x0 (lo1 + n280) v289 lo1 len2 y3 y4 y5 y6 y7 y8 y9 y10 y11 y12 y13 y14 y15 y16 y17 y18 y19 y20 y21 w22 w23 w24 w25 w26 w27 w28 w29 w30 w31 w32 w33 w34 w35 w36 w37 w38 w39 w40 w41 w42 w43 (nth hole e288 1) (nth hole e288 2) (nth hole e288 3) (nth hole e288 4))))) (
 jmp [1,1,0,1,0,0,0,1,1,12,0,1,1,1,1,1,1,1,1,1,1,1,0,1,1,10,1,1,1] (f52_11_S x0 (lo1 + n280) (B false) lo1 len2 y3 y4 y5 y6 y7 y8 y9 y10 y11 y12 y13 y14 y15 y16 y17 y18 y19 y20 y21 w22 w23 w24 w25 w26 w27 w28 w29 w30 w31 w32 w33 w34 w35 w36 w37 w38 w39 w40 w41 w42 w43 (nth hole e288 1) (nth hole e288 2) (nth hole e288 3) (nth hole e288 4)))))))))
def f52_10  (x0:TV) (k1:Nat) (x2:TV) (lo3 len4:Nat) (y5 y6 y7 y8 y9 y10 y11 y12 y13 y14 y15 y16 y17 y18 y19 y20 y21 y22 y23 w24 w25 w26 w27 w28 w29 w30 w31 w32 w33 w34 w35 w36 w37 w38 w39 w40 w41 w42 w43 w44 w45 y46 y47 y48 y49:TV):Prg TV :=
 Prg.ite (asBool x2) (
 tvs (pel w24 k1) fun e290 =>
 chk (ab z50 e290 0) (
 tvs (pel w24 k1) fun e291 =>
 chk (ab z50 e291 0) (
 tv (aE [(k1,3)] w24) fun v292 =>
 call 71 [y23,agg (lfL [nth hole e291 0,nth hole e291 1,nth hole e291 2,frz v292,nth hole e291 4])] fun v293 =>
 chk (Bool.and (Bool.and (TV.isAgg v293 14) true) true) (
 tv (aE [(k1,3)] w24) fun v294 =>
 call 89 [agg [nth hole e290 0,nth hole e290 1,nth hole e290 2,frz v294,nth hole e290 4],cell v293 13] fun v295 =>
 chk (Bool.and (TV.isAgg v295 5) (ab z50 (cellsL true v295) 0)) (
 tvs (pel w24 k1) fun e296 =>
 chk (Bool.and (bK z50 e296 0) (ab z50 [cell v295 0,cell v295 1,cell v295 2,cell v295 3,cell v295 4] 0)) (
 tv (cj [] w24 k1 0 [cell v295 0,cell v295 1,cell v295 2,cell v295 3,cell v295 4]) fun v297 =>
 tvs (pel v297 k1) fun e298 =>
 chk (ab zSl e298 3) (
 tv (aE [(k1,3)] v297) fun v299 =>
 nat (slLen v299) fun n300 =>
 nat (ak y46) fun n301 =>
 chk (Bool.and (slSize v299 1) (Nat.blt n301 n300)) (
 chk (TV.eh x0) (
 tv (aE [(k1,3)] v297) fun v302 =>
 tvs (pel v302 n301) fun e303 =>
 chk (ab cZ e303 0) (
 tv (cj [(k1,3)] v297 n301 0 [x0]) fun v304 =>
 chk (TV.eh x0) (
 tvs (pel v304 k1) fun e305 =>
 chk (ab cZ e305 4) (
 tv (cj [] v304 k1 4 [x0]) fun v306 =>
 tv (cC lo3 len4 v306) fun v307 =>
 ret (tup [tup [],tup [v307,y5,y6,y7,y8,y9,y10,y11,y12,y13,y14,y15,y16,y17,y18,y19,y20,w41,w42,y21,y22,y23]]))))))))))))) (
 tv (cC lo3 len4 w24) fun v308 =>
 tv (plen (.slice 51) v308) fun v309 =>
 tv (pbin (.int .i64) .sub v309 (I 1)) fun v310 =>
 nat (ak v310) fun n311 =>
 chk (Bool.and (slSize w24 5) (Nat.ble (Option.getD (some n311) len4) len4)) (
 jmp [0,0,1,1,20,0,1,1,1,1,1,1,1,1,1,0,1,1,10,1,1,1] (f52_8_S x0 lo3 (Option.getD (some n311) len4) y5 y6 y7 y8 y9 y10 y11 y12 y13 y14 y15 y16 y17 y18 y19 y20 y21 y22 y23 w24 w25 w26 w27 w28 w29 w30 w31 w32 w33 w34 w35 w36 w37 w38 w39 w40 w41 w42 w43 w44 w45)))
def f52_11  (x0:TV) (k1:Nat) (x2:TV) (lo3 len4:Nat) (y5 y6 y7 y8 y9 y10 y11 y12 y13 y14 y15 y16 y17 y18 y19 y20 y21 y22 y23 w24 w25 w26 w27 w28 w29 w30 w31 w32 w33 w34 w35 w36 w37 w38 w39 w40 w41 w42 w43 w44 w45 y46 y47 y48 y49:TV):Prg TV :=
 Prg.ite (asBool x2) (
 tvs (pel w24 k1) fun e312 =>
 chk (ab z50 e312 0) (
 tvs (pel w24 k1) fun e313 =>
 chk (ab z50 e313 0) (
 tv (aE [(k1,3)] w24) fun v314 =>
 call 71 [y23,agg (lfL [nth hole e313 0,nth hole e313 1,nth hole e313 2,frz v314,nth hole e313 4])] fun v315 =>
 chk (Bool.and (Bool.and (TV.isAgg v315 14) true) true) (
 tv (aE [(k1,3)] w24) fun v316 =>
 call 89 [agg [nth hole e312 0,nth hole e312 1,nth hole e312 2,frz v316,nth hole e312 4],cell v315 13] fun v317 =>
 chk (Bool.and (TV.isAgg v317 5) (ab z50 (cellsL true v317) 0)) (
 tvs (pel w24 k1) fun e318 =>
 chk (Bool.and (bK z50 e318 0) (ab z50 [cell v317 0,cell v317 1,cell v317 2,cell v317 3,cell v317 4] 0)) (
 tv (cj [] w24 k1 0 [cell v317 0,cell v317 1,cell v317 2,cell v317 3,cell v317 4]) fun v319 =>
 tvs (pel v319 k1) fun e320 =>
 chk (ab zSl e320 3) (
 tv (aE [(k1,3)] v319) fun v321 =>
 nat (slLen v321) fun n322 =>
 nat (ak y46) fun n323 =>
 chk (Bool.and (slSize v321 1) (Nat.blt n323 n322)) (
 chk (TV.eh x0) (
 tv (aE [(k1,3)] v319) fun v324 =>
 tvs (pel v324 n323) fun e325 =>
 chk (ab cZ e325 0) (
 tv (cj [(k1,3)] v319 n323 0 [x0]) fun v326 =>
 chk (TV.eh x0) (
 tvs (pel v326 k1) fun e327 =>
 chk (ab cZ e327 4) (
 tv (cj [] v326 k1 4 [x0]) fun v328 =>
 tv (cC lo3 len4 v328) fun v329 =>
 ret (tup [tup [],tup [v329,y5,y6,y7,y8,y9,y10,y11,y12,y13,y14,y15,y16,y17,y18,y19,y20,w41,w42,y21,y22,y23]]))))))))))))) (
 tv (cC lo3 len4 w24) fun v330 =>
 tv (plen (.slice 51) v330) fun v331 =>
 tv (pbin (.int .i64) .sub v331 (I 1)) fun v332 =>
 nat (ak v332) fun n333 =>
 chk (Bool.and (slSize w24 5) (Nat.ble (Option.getD (some n333) len4) len4)) (
 jmp [0,0,1,1,12,0,1,1,1,1,1,1,1,1,1,1,1,0,1,1,10,1,1,1] (f52_9_S x0 lo3 (Option.getD (some n333) len4) y5 y6 y7 y8 y9 y10 y11 y12 y13 y14 y15 y16 y17 y18 y19 y20 y21 y22 y23 w24 w25 w26 w27 w28 w29 w30 w31 w32 w33 w34 w35 w36 w37 w38 w39 w40 w41 w42 w43 w44 w45)))
theorem f52_MR (c0 c1 c2 c3 c4 c5 c6 c7 c8 c9 c10 c11 c12 c13 c14 c15 c16 c17 c18 c19 c20 c21:TV):aB prog 52 [tup [c0,c1,c2,c3,c4,c5,c6,c7,c8,c9,c10,c11,c12,c13,c14,c15,c16,c17,c18,c19,c20,c21]]=f52_M c0 c1 c2 c3 c4 c5 c6 c7 c8 c9 c10 c11 c12 c13 c14 c15 c16 c17 c18 c19 c20 c21:=by kernel_rfl
theorem f52_0_J  {k0:Nat} {y1 y2 y3 y4 y5 y6 y7 y8 y9 y10 y11 y12 y13 y14 y15 y16 y17 y18 y19 w20 w21 w22 w23 w24 w25 w26 w27 w28 w29 w30 w31 w32 w33 w34 w35 w36 w37 w38 w39 w40 w41:TV} {r:TV} (h:aa prog 52 (f52_0 k0 y1 y2 y3 y4 y5 y6 y7 y8 y9 y10 y11 y12 y13 y14 y15 y16 y17 y18 y19 w20 w21 w22 w23 w24 w25 w26 w27 w28 w29 w30 w31 w32 w33 w34 w35 w36 w37 w38 w39 w40 w41) r):aa prog 52 (.jmp [1] (f52_0_S k0 y1 y2 y3 y4 y5 y6 y7 y8 y9 y10 y11 y12 y13 y14 y15 y16 y17 y18 y19 w20 w21 w22 w23 w24 w25 w26 w27 w28 w29 w30 w31 w32 w33 w34 w35 w36 w37 w38 w39 w40 w41)) r:=aa.jmp (by kernel_rfl) h
theorem f52_1_J  {k0:Nat} {x1 x2 x3 x4 y5 y6 y7 y8 y9 y10 y11 y12 y13 y14 y15 y16 y17 y18 y19 y20 y21 y22 y23 w24 w25 w26 w27 w28 w29 w30 w31 w32 w33 w34 w35 w36 w37 w38 w39 w40 w41 w42 w43 w44 w45 w46:TV} {r:TV} (h:aa prog 52 (f52_1 k0 x1 x2 x3 x4 y5 y6 y7 y8 y9 y10 y11 y12 y13 y14 y15 y16 y17 y18 y19 y20 y21 y22 y23 w24 w25 w26 w27 w28 w29 w30 w31 w32 w33 w34 w35 w36 w37 w38 w39 w40 w41 w42 w43 w44 w45 w46) r):aa prog 52 (.jmp [0,0,1,0,1,1,14,0,1,1,1,1,1,0,1,1,22,0,0,1,0,1,1] (f52_1_S k0 x1 x2 x3 x4 y5 y6 y7 y8 y9 y10 y11 y12 y13 y14 y15 y16 y17 y18 y19 y20 y21 y22 y23 w24 w25 w26 w27 w28 w29 w30 w31 w32 w33 w34 w35 w36 w37 w38 w39 w40 w41 w42 w43 w44 w45 w46)) r:=aa.jmp (by kernel_rfl) h
theorem f52_2_J  {k0:Nat} {w1 w2 w3 w4 w5 w6 w7 w8 w9 w10 w11 w12 w13 w14 w15 w16 w17 w18 w19 w20 w21 w22 y23 y24 y25 y26 y27 y28 y29 y30 y31 y32 y33 y34 y35 y36 y37 y38 y39 y40 y41 y42 y43 y44 y45 y46 y47 y48 y49:TV} {r:TV} (h:aa prog 52 (f52_2 k0 w1 w2 w3 w4 w5 w6 w7 w8 w9 w10 w11 w12 w13 w14 w15 w16 w17 w18 w19 w20 w21 w22 y23 y24 y25 y26 y27 y28 y29 y30 y31 y32 y33 y34 y35 y36 y37 y38 y39 y40 y41 y42 y43 y44 y45 y46 y47 y48 y49) r):aa prog 52 (.jmp [1,0,1,1,1,1,1,0,1,1,10,1,1,1] (f52_2_S k0 w1 w2 w3 w4 w5 w6 w7 w8 w9 w10 w11 w12 w13 w14 w15 w16 w17 w18 w19 w20 w21 w22 y23 y24 y25 y26 y27 y28 y29 y30 y31 y32 y33 y34 y35 y36 y37 y38 y39 y40 y41 y42 y43 y44 y45 y46 y47 y48 y49)) r:=aa.jmp (by kernel_rfl) h
theorem f52_3_J  {k0:Nat} {x1 x2 x3 x4 y5 y6 y7 y8 y9 y10 y11 y12 y13 y14 y15 y16 y17 y18 y19 y20 y21 y22 y23 w24 w25 w26 w27 w28 w29 w30 w31 w32 w33 w34 w35 w36 w37 w38 w39 w40 w41 w42 w43 w44 w45 w46:TV} {r:TV} (h:aa prog 52 (f52_3 k0 x1 x2 x3 x4 y5 y6 y7 y8 y9 y10 y11 y12 y13 y14 y15 y16 y17 y18 y19 y20 y21 y22 y23 w24 w25 w26 w27 w28 w29 w30 w31 w32 w33 w34 w35 w36 w37 w38 w39 w40 w41 w42 w43 w44 w45 w46) r):aa prog 52 (.jmp [0,0,1,0,1,1,14,0,1,1,1,1,1,1,1,0,1,1,10,1,1,1] (f52_3_S k0 x1 x2 x3 x4 y5 y6 y7 y8 y9 y10 y11 y12 y13 y14 y15 y16 y17 y18 y19 y20 y21 y22 y23 w24 w25 w26 w27 w28 w29 w30 w31 w32 w33 w34 w35 w36 w37 w38 w39 w40 w41 w42 w43 w44 w45 w46)) r:=aa.jmp (by kernel_rfl) h
theorem f52_4_J  {x0:TV} {lo1 len2:Nat} {x3 x4:TV} {lo5 len6:Nat} {y7 y8 y9 y10 y11 y12 y13 y14 y15 y16 y17 y18 y19 y20 y21 y22 y23 y24 y25 w26 w27 w28 w29 w30 w31 w32 w33 w34 w35 w36 w37 w38 w39 w40 w41 w42 w43 w44 w45 w46 w47 x48:TV} {r:TV} (h:aa prog 52 (f52_4 x0 lo1 len2 x3 x4 lo5 len6 y7 y8 y9 y10 y11 y12 y13 y14 y15 y16 y17 y18 y19 y20 y21 y22 y23 y24 y25 w26 w27 w28 w29 w30 w31 w32 w33 w34 w35 w36 w37 w38 w39 w40 w41 w42 w43 w44 w45 w46 w47 x48) r):aa prog 52 (.jmp [0,0,1,0,1,6,0,0,1,20,0,1,1,1,1,1,1,1,1,1,0,1,1,10,1,1,1] (f52_4_S x0 lo1 len2 x3 x4 lo5 len6 y7 y8 y9 y10 y11 y12 y13 y14 y15 y16 y17 y18 y19 y20 y21 y22 y23 y24 y25 w26 w27 w28 w29 w30 w31 w32 w33 w34 w35 w36 w37 w38 w39 w40 w41 w42 w43 w44 w45 w46 w47 x48)) r:=aa.jmp (by kernel_rfl) h
theorem f52_5_J  {x0:TV} {lo1 len2:Nat} {x3 x4:TV} {lo5 len6:Nat} {y7 y8 y9 y10 y11 y12 y13 y14 y15 y16 y17 y18 y19 y20 y21 y22 y23 y24 y25 w26 w27 w28 w29 w30 w31 w32 w33 w34 w35 w36 w37 w38 w39 w40 w41 w42 w43 w44 w45 w46 w47 x48:TV} {r:TV} (h:aa prog 52 (f52_5 x0 lo1 len2 x3 x4 lo5 len6 y7 y8 y9 y10 y11 y12 y13 y14 y15 y16 y17 y18 y19 y20 y21 y22 y23 y24 y25 w26 w27 w28 w29 w30 w31 w32 w33 w34 w35 w36 w37 w38 w39 w40 w41 w42 w43 w44 w45 w46 w47 x48) r):aa prog 52 (.jmp [0,0,1,0,1,6,0,0,1,12,0,1,1,1,1,1,1,1,1,1,1,1,0,1,1,10,1,1,1] (f52_5_S x0 lo1 len2 x3 x4 lo5 len6 y7 y8 y9 y10 y11 y12 y13 y14 y15 y16 y17 y18 y19 y20 y21 y22 y23 y24 y25 w26 w27 w28 w29 w30 w31 w32 w33 w34 w35 w36 w37 w38 w39 w40 w41 w42 w43 w44 w45 w46 w47 x48)) r:=aa.jmp (by kernel_rfl) h
theorem f52_6_J  {x0 y1 y2 y3 y4 y5 y6 y7 y8 y9 y10 y11 y12 y13 y14 y15 y16 y17 y18 y19 w20 w21 w22 w23 w24 w25 w26 w27 w28 w29 w30 w31 w32 w33 w34 w35 w36 w37 w38 w39 w40 w41 w42:TV} {r:TV} (h:aa prog 52 (f52_6 x0 y1 y2 y3 y4 y5 y6 y7 y8 y9 y10 y11 y12 y13 y14 y15 y16 y17 y18 y19 w20 w21 w22 w23 w24 w25 w26 w27 w28 w29 w30 w31 w32 w33 w34 w35 w36 w37 w38 w39 w40 w41 w42) r):aa prog 52 (.jmp [1,1,1,14,0,1,1,1,1,1,0,1,1,22,0,0,1,0,1,1] (f52_6_S x0 y1 y2 y3 y4 y5 y6 y7 y8 y9 y10 y11 y12 y13 y14 y15 y16 y17 y18 y19 w20 w21 w22 w23 w24 w25 w26 w27 w28 w29 w30 w31 w32 w33 w34 w35 w36 w37 w38 w39 w40 w41 w42)) r:=aa.jmp (by kernel_rfl) h
theorem f52_7_J  {x0 y1 y2 y3 y4 y5 y6 y7 y8 y9 y10 y11 y12 y13 y14 y15 y16 y17 y18 y19 w20 w21 w22 w23 w24 w25 w26 w27 w28 w29 w30 w31 w32 w33 w34 w35 w36 w37 w38 w39 w40 w41 w42:TV} {r:TV} (h:aa prog 52 (f52_7 x0 y1 y2 y3 y4 y5 y6 y7 y8 y9 y10 y11 y12 y13 y14 y15 y16 y17 y18 y19 w20 w21 w22 w23 w24 w25 w26 w27 w28 w29 w30 w31 w32 w33 w34 w35 w36 w37 w38 w39 w40 w41 w42) r):aa prog 52 (.jmp [1,1,1,14,0,1,1,1,1,1,1,1,0,1,1,10,1,1,1] (f52_7_S x0 y1 y2 y3 y4 y5 y6 y7 y8 y9 y10 y11 y12 y13 y14 y15 y16 y17 y18 y19 w20 w21 w22 w23 w24 w25 w26 w27 w28 w29 w30 w31 w32 w33 w34 w35 w36 w37 w38 w39 w40 w41 w42)) r:=aa.jmp (by kernel_rfl) h
theorem f52_8_J  {x0:TV} {lo1 len2:Nat} {y3 y4 y5 y6 y7 y8 y9 y10 y11 y12 y13 y14 y15 y16 y17 y18 y19 y20 y21 w22 w23 w24 w25 w26 w27 w28 w29 w30 w31 w32 w33 w34 w35 w36 w37 w38 w39 w40 w41 w42 w43:TV} {r:TV} (h:aa prog 52 (f52_8 x0 lo1 len2 y3 y4 y5 y6 y7 y8 y9 y10 y11 y12 y13 y14 y15 y16 y17 y18 y19 y20 y21 w22 w23 w24 w25 w26 w27 w28 w29 w30 w31 w32 w33 w34 w35 w36 w37 w38 w39 w40 w41 w42 w43) r):aa prog 52 (.jmp [0,0,1,1,20,0,1,1,1,1,1,1,1,1,1,0,1,1,10,1,1,1] (f52_8_S x0 lo1 len2 y3 y4 y5 y6 y7 y8 y9 y10 y11 y12 y13 y14 y15 y16 y17 y18 y19 y20 y21 w22 w23 w24 w25 w26 w27 w28 w29 w30 w31 w32 w33 w34 w35 w36 w37 w38 w39 w40 w41 w42 w43)) r:=aa.jmp (by kernel_rfl) h
theorem f52_9_J  {x0:TV} {lo1 len2:Nat} {y3 y4 y5 y6 y7 y8 y9 y10 y11 y12 y13 y14 y15 y16 y17 y18 y19 y20 y21 w22 w23 w24 w25 w26 w27 w28 w29 w30 w31 w32 w33 w34 w35 w36 w37 w38 w39 w40 w41 w42 w43:TV} {r:TV} (h:aa prog 52 (f52_9 x0 lo1 len2 y3 y4 y5 y6 y7 y8 y9 y10 y11 y12 y13 y14 y15 y16 y17 y18 y19 y20 y21 w22 w23 w24 w25 w26 w27 w28 w29 w30 w31 w32 w33 w34 w35 w36 w37 w38 w39 w40 w41 w42 w43) r):aa prog 52 (.jmp [0,0,1,1,12,0,1,1,1,1,1,1,1,1,1,1,1,0,1,1,10,1,1,1] (f52_9_S x0 lo1 len2 y3 y4 y5 y6 y7 y8 y9 y10 y11 y12 y13 y14 y15 y16 y17 y18 y19 y20 y21 w22 w23 w24 w25 w26 w27 w28 w29 w30 w31 w32 w33 w34 w35 w36 w37 w38 w39 w40 w41 w42 w43)) r:=aa.jmp (by kernel_rfl) h
theorem f52_10_J  {x0:TV} {k1:Nat} {x2:TV} {lo3 len4:Nat} {y5 y6 y7 y8 y9 y10 y11 y12 y13 y14 y15 y16 y17 y18 y19 y20 y21 y22 y23 w24 w25 w26 w27 w28 w29 w30 w31 w32 w33 w34 w35 w36 w37 w38 w39 w40 w41 w42 w43 w44 w45 y46 y47 y48 y49:TV} {r:TV} (h:aa prog 52 (f52_10 x0 k1 x2 lo3 len4 y5 y6 y7 y8 y9 y10 y11 y12 y13 y14 y15 y16 y17 y18 y19 y20 y21 y22 y23 w24 w25 w26 w27 w28 w29 w30 w31 w32 w33 w34 w35 w36 w37 w38 w39 w40 w41 w42 w43 w44 w45 y46 y47 y48 y49) r):aa prog 52 (.jmp [1,1,0,1,0,0,0,1,1,20,0,1,1,1,1,1,1,1,1,1,0,1,1,10,1,1,1] (f52_10_S x0 k1 x2 lo3 len4 y5 y6 y7 y8 y9 y10 y11 y12 y13 y14 y15 y16 y17 y18 y19 y20 y21 y22 y23 w24 w25 w26 w27 w28 w29 w30 w31 w32 w33 w34 w35 w36 w37 w38 w39 w40 w41 w42 w43 w44 w45 y46 y47 y48 y49)) r:=aa.jmp (by kernel_rfl) h
theorem f52_11_J  {x0:TV} {k1:Nat} {x2:TV} {lo3 len4:Nat} {y5 y6 y7 y8 y9 y10 y11 y12 y13 y14 y15 y16 y17 y18 y19 y20 y21 y22 y23 w24 w25 w26 w27 w28 w29 w30 w31 w32 w33 w34 w35 w36 w37 w38 w39 w40 w41 w42 w43 w44 w45 y46 y47 y48 y49:TV} {r:TV} (h:aa prog 52 (f52_11 x0 k1 x2 lo3 len4 y5 y6 y7 y8 y9 y10 y11 y12 y13 y14 y15 y16 y17 y18 y19 y20 y21 y22 y23 w24 w25 w26 w27 w28 w29 w30 w31 w32 w33 w34 w35 w36 w37 w38 w39 w40 w41 w42 w43 w44 w45 y46 y47 y48 y49) r):aa prog 52 (.jmp [1,1,0,1,0,0,0,1,1,12,0,1,1,1,1,1,1,1,1,1,1,1,0,1,1,10,1,1,1] (f52_11_S x0 k1 x2 lo3 len4 y5 y6 y7 y8 y9 y10 y11 y12 y13 y14 y15 y16 y17 y18 y19 y20 y21 y22 y23 w24 w25 w26 w27 w28 w29 w30 w31 w32 w33 w34 w35 w36 w37 w38 w39 w40 w41 w42 w43 w44 w45 y46 y47 y48 y49)) r:=aa.jmp (by kernel_rfl) h
def f53_0_S  (x0 x1 x2:TV):ASt:=⟨[AV.tv x0,AV.tv x1,Jk,Jk,Jk,AV.tv x2] ++ Rj 20,Rz 50,[]⟩
def f53_M (x0 x1:TV):Prg TV :=
 tv (plen (.slice 42) x0) fun v0 =>
 tv (plen (.slice 42) x1) fun v1 =>
 tv (pbin (.int .i64) .neq v0 v1) fun v2 =>
 Prg.ite (asBool v2) (
 ret (B false)) (
 jmp [0,0,1,0,1,1] (f53_0_S x0 x1 (I 0)))
def f53_0  (x0 x1 x2:TV):Prg TV :=
 tv (plen (.slice 42) x0) fun v3 =>
 tv (pbin (.int .i64) .lss x2 v3) fun v4 =>
 Prg.ite (asBool v4) (
 tvs (pidx 1 x0 x2) fun e5 =>
 chk (Nat.blt 0 (List.length e5)) (
 tvs (pidx 1 x1 x2) fun e6 =>
 chk (Nat.blt 0 (List.length e6)) (
 tv (pbin (.int .u16) .neq (nth hole e5 0) (nth hole e6 0)) fun v7 =>
 Prg.ite (asBool v7) (
 ret (B false)) (
 tv (pbin (.int .i64) .add x2 (I 1)) fun v8 =>
 jmp [0,0,1,0,1,1] (f53_0_S x0 x1 v8))))) (
 ret (B true))
theorem f53_MR (x0 x1:TV):aB prog 53 [x0,x1]=f53_M x0 x1:=by kernel_rfl
theorem f53_0_J  {x0 x1 x2:TV} {r:TV} (h:aa prog 53 (f53_0 x0 x1 x2) r):aa prog 53 (.jmp [0,0,1,0,1,1] (f53_0_S x0 x1 x2)) r:=aa.jmp (by kernel_rfl) h
def f54_0_S  (x0 y1 y2 y3 y4 y5 y6 y7 y8 y9 y10:TV):ASt:=⟨[Jk,Jk,Pt 0,Pt 1,Jk,AV.tv x0] ++ Rj 53,[some (BC.cells [CA.t y1,CA.t y2,CA.t y3,CA.t y4,CA.t y5]),some (BC.cells [CA.t y6,CA.t y7,CA.t y8,CA.t y9,CA.t y10])] ++ Rz 81,[]⟩
def f54_M (x0 x1:TV):Prg TV :=
 chk (TV.isAgg x0 5) (
 chk (TV.isAgg x1 5) (
 tv (pbin (.int .i64) .neq (cell x0 0) (cell x1 0)) fun v0 =>
 Prg.ite (asBool v0) (
 ret (B false)) (
 tv (pbin (.int .i64) .neq (cell x0 1) (cell x1 1)) fun v1 =>
 Prg.ite (asBool v1) (
 ret (B false)) (
 tv (pbin (.int .i64) .neq (cell x0 2) (cell x1 2)) fun v2 =>
 Prg.ite (asBool v2) (
 ret (B false)) (
 tv (pbin (.int .u16) .neq (cell x0 4) (cell x1 4)) fun v3 =>
 Prg.ite (asBool v3) (
 ret (B false)) (
 tv (plen (.slice 42) (cell x0 3)) fun v4 =>
 tv (plen (.slice 42) (cell x1 3)) fun v5 =>
 tv (pbin (.int .i64) .neq v4 v5) fun v6 =>
 Prg.ite (asBool v6) (
 ret (B false)) (
 jmp [0,0,1,0,1,1] (f54_0_S (I 0) (cell x0 0) (cell x0 1) (cell x0 2) (cell x0 3) (cell x0 4) (cell x1 0) (cell x1 1) (cell x1 2) (cell x1 3) (cell x1 4)))))))))
def f54_0  (x0 y1 y2 y3 y4 y5 y6 y7 y8 y9 y10:TV):Prg TV :=
 tv (plen (.slice 42) y4) fun v7 =>
 tv (pbin (.int .i64) .lss x0 v7) fun v8 =>
 Prg.ite (asBool v8) (
 tvs (pidx 1 y4 x0) fun e9 =>
 chk (Nat.blt 0 (List.length e9)) (
 tvs (pidx 1 y9 x0) fun e10 =>
 chk (Nat.blt 0 (List.length e10)) (
 tv (pbin (.int .u16) .neq (nth hole e9 0) (nth hole e10 0)) fun v11 =>
 Prg.ite (asBool v11) (
 ret (B false)) (
 tv (pbin (.int .i64) .add x0 (I 1)) fun v12 =>
 jmp [0,0,1,0,1,1] (f54_0_S v12 y1 y2 y3 y4 y5 y6 y7 y8 y9 y10))))) (
 ret (B true))
theorem f54_MR (x0 x1:TV):aB prog 54 [x0,x1]=f54_M x0 x1:=by kernel_rfl
theorem f54_0_J  {x0 y1 y2 y3 y4 y5 y6 y7 y8 y9 y10:TV} {r:TV} (h:aa prog 54 (f54_0 x0 y1 y2 y3 y4 y5 y6 y7 y8 y9 y10) r):aa prog 54 (.jmp [0,0,1,0,1,1] (f54_0_S x0 y1 y2 y3 y4 y5 y6 y7 y8 y9 y10)) r:=aa.jmp (by kernel_rfl) h
end Go.Ab.Q12

import Derived.Test.YtfnpejmlcbkepaaSQ12T
set_option linter.all false
section
set_option maxRecDepth 100000
namespace Go.Ab.Q12
open Go Go.Ab Go.Proofs
open Go.Ab.TV (hole cell comp isSl isSc isTup cellsL tup agg)
open Go.Ab.Prg (tv tvs rws nat chk call jmp ret)
def f5_0_S  (x0 y1 y2 y3 y4 y5 y6 y7 y8 y9 y10 y11 y12 y13 y14 y15 y16 y17 y18 y19 w20 w21 w22 w23 w24 w25 w26 w27 w28 w29 w30 w31 w32 w33 w34 w35 w36 w37 w38 w39 w40 w41:TV):ASt:=⟨[Jk,Jk,Jk,Pt 0,Jk,Jk,Jk,Pt 1,Jk,AV.tv x0] ++ Rj 47,[Ct y1,some (BC.cells [CA.sref 2 0 [],CA.t y2,CA.t y3,CA.t y4,CA.t y5,CA.t y6,CA.t y7,CA.t y8,CA.t y9,CA.t y10,CA.t y11,CA.t y12,CA.t y13,CA.t y14,CA.t y15,CA.t y16,CA.t y17,CA.sref 2 17 [],CA.sref 2 18 [],CA.t y18,CA.t y19]),some (BC.tree [w20,w21,w22,w23,w24,w25,w26,w27,w28,w29,w30,w31,w32,w33,w34,w35,w36,w37,w38,w39,w40,w41])] ++ Rz 78,[]⟩
def f5_M (x0 x1 x2:TV):Prg TV :=
 chk (TV.isAgg x0 1) (
 call 15 [] fun v0 =>
 chk (ab au [v0] 0) (
 tv (pun .not v0) fun v1 =>
 Prg.ite (asBool v1) (
 ret (B false)) (
 call 27 [agg [cell x0 0],x1] fun v2 =>
 chk (ab au [v2] 0) (
 tv (pun .not v2) fun v3 =>
 Prg.ite (asBool v3) (
 ret (B true)) (
 tv (pbin (.int .u8) .rem x2 (TV.lit (Value.int IntKind.u8 (200:Int)))) fun v4 =>
 tv (pconv (.int .i64) v4) fun v5 =>
 call 28 [agg [cell x0 0],x1,v5] fun v6 =>
 chk (isTup v6 2) (
 chk (Bool.and (TV.isAgg (comp v6 0) 21) (ab z44 (cellsL true (comp v6 0)) 0)) (
 chk (ab ei [comp v6 1] 0) (
 tv (pbin (.int .i64) .neq (comp v6 1) (I 0)) fun v7 =>
 Prg.ite (asBool v7) (
 call 29 [agg [frz (cell (comp v6 0) 0),cell (comp v6 0) 1,cell (comp v6 0) 2,cell (comp v6 0) 3,cell (comp v6 0) 4,cell (comp v6 0) 5,cell (comp v6 0) 6,cell (comp v6 0) 7,cell (comp v6 0) 8,cell (comp v6 0) 9,cell (comp v6 0) 10,cell (comp v6 0) 11,cell (comp v6 0) 12,cell (comp v6 0) 13,cell (comp v6 0) 14,cell (comp v6 0) 15,cell (comp v6 0) 16,frz (cell (comp v6 0) 17),frz (cell (comp v6 0) 18),cell (comp v6 0) 19,cell (comp v6 0) 20],agg [TV.lit aI,W 0,W 0,W 0,W 0,W 0,W 0,W 0,W 0,W 0,W 0,W 0,W 0,W 0,W 0,W 0,W 0,TV.lit aI,TV.lit aI,I 0,W 0]] fun v8 =>
 chk (ab au [v8] 0) (
 ret v8)) (
 jmp [0,0,1,0,1,1,1,1,1] (f5_0_S (I 0) (cell x0 0) (cell (comp v6 0) 1) (cell (comp v6 0) 2) (cell (comp v6 0) 3) (cell (comp v6 0) 4) (cell (comp v6 0) 5) (cell (comp v6 0) 6) (cell (comp v6 0) 7) (cell (comp v6 0) 8) (cell (comp v6 0) 9) (cell (comp v6 0) 10) (cell (comp v6 0) 11) (cell (comp v6 0) 12) (cell (comp v6 0) 13) (cell (comp v6 0) 14) (cell (comp v6 0) 15) (cell (comp v6 0) 16) (cell (comp v6 0) 19) (cell (comp v6 0) 20) (cell (comp v6 0) 0) hole hole hole hole hole hole hole hole hole hole hole hole hole hole hole hole (cell (comp v6 0) 17) (cell (comp v6 0) 18) hole hole hole))))))))))
def f5_0  (x0 y1 y2 y3 y4 y5 y6 y7 y8 y9 y10 y11 y12 y13 y14 y15 y16 y17 y18 y19 w20 w21 w22 w23 w24 w25 w26 w27 w28 w29 w30 w31 w32 w33 w34 w35 w36 w37 w38 w39 w40 w41:TV):Prg TV :=
 tv (plen (.slice 51) w20) fun v9 =>
 tv (pbin (.int .i64) .lss x0 v9) fun v10 =>
 Prg.ite (asBool v10) (
 nat (slLen w20) fun n11 =>
 nat (ak x0) fun n12 =>
 chk (Bool.and (slSize w20 5) (Nat.blt n12 n11)) (
 tvs (pel w20 n12) fun e13 =>
 chk (ab ei e13 0) (
 tvs (pidx 3 y1 (nth hole e13 0)) fun e14 =>
 chk (Nat.ble 3 (List.length e14)) (
 call 22 [agg [nth hole e14 0,nth hole e14 1,nth hole e14 2]] fun v15 =>
 chk (ab zSl [v15] 0) (
 nat (slLen w20) fun n16 =>
 nat (ak x0) fun n17 =>
 chk (Bool.and (slSize w20 5) (Nat.blt n17 n16)) (
 tvs (pel w20 n17) fun e18 =>
 chk (ab ei e18 1) (
 nat (slLen v15) fun n19 =>
 nat (ak (nth hole e18 1)) fun n20 =>
 chk (Bool.and (slSize v15 1) (Nat.blt n20 n19)) (
 tvs (pel v15 n20) fun e21 =>
 chk (ab au e21 0) (
 tv (pun .not (nth hole e21 0)) fun v22 =>
 Prg.ite (asBool v22) (
 ret (B false)) (
 tv (pbin (.int .i64) .add x0 (I 1)) fun v23 =>
 jmp [0,0,1,0,1,1,1,1,1] (f5_0_S v23 y1 y2 y3 y4 y5 y6 y7 y8 y9 y10 y11 y12 y13 y14 y15 y16 y17 y18 y19 w20 w21 w22 w23 w24 w25 w26 w27 w28 w29 w30 w31 w32 w33 w34 w35 w36 w37 w38 w39 w40 w41))))))))))) (
 ret (B true))
theorem f5_MR (x0 x1 x2:TV):aB prog 5 [x0,x1,x2]=f5_M x0 x1 x2:=by kernel_rfl
theorem f5_0_J  {x0 y1 y2 y3 y4 y5 y6 y7 y8 y9 y10 y11 y12 y13 y14 y15 y16 y17 y18 y19 w20 w21 w22 w23 w24 w25 w26 w27 w28 w29 w30 w31 w32 w33 w34 w35 w36 w37 w38 w39 w40 w41:TV} {r:TV} (h:aa prog 5 (f5_0 x0 y1 y2 y3 y4 y5 y6 y7 y8 y9 y10 y11 y12 y13 y14 y15 y16 y17 y18 y19 w20 w21 w22 w23 w24 w25 w26 w27 w28 w29 w30 w31 w32 w33 w34 w35 w36 w37 w38 w39 w40 w41) r):aa prog 5 (.jmp [0,0,1,0,1,1,1,1,1] (f5_0_S x0 y1 y2 y3 y4 y5 y6 y7 y8 y9 y10 y11 y12 y13 y14 y15 y16 y17 y18 y19 w20 w21 w22 w23 w24 w25 w26 w27 w28 w29 w30 w31 w32 w33 w34 w35 w36 w37 w38 w39 w40 w41)) r:=aa.jmp (by kernel_rfl) h
def f16_0_S  (x0 x1 x2:TV):ASt:=⟨[AV.tv x0,AV.tv x1,Jk,Jk,Jk,AV.tv x2] ++ Rj 20,Rz 50,[]⟩
def f16_M (x0 x1:TV):Prg TV :=
 tv (plen (.slice 3) x0) fun v0 =>
 tv (plen (.slice 3) x1) fun v1 =>
 tv (pbin (.int .i64) .neq v0 v1) fun v2 =>
 Prg.ite (asBool v2) (
 ret (B false)) (
 jmp [0,0,1,0,1,1] (f16_0_S x0 x1 (I 0)))
def f16_0  (x0 x1 x2:TV):Prg TV :=
 tv (plen (.slice 3) x0) fun v3 =>
 tv (pbin (.int .i64) .lss x2 v3) fun v4 =>
 Prg.ite (asBool v4) (
 tvs (pidx 1 x0 x2) fun e5 =>
 chk (Nat.blt 0 (List.length e5)) (
 tvs (pidx 1 x1 x2) fun e6 =>
 chk (Nat.blt 0 (List.length e6)) (
 tv (pbin (.int .i64) .neq (nth hole e5 0) (nth hole e6 0)) fun v7 =>
 Prg.ite (asBool v7) (
 ret (B false)) (
 tv (pbin (.int .i64) .add x2 (I 1)) fun v8 =>
 jmp [0,0,1,0,1,1] (f16_0_S x0 x1 v8))))) (
 ret (B true))
theorem f16_MR (x0 x1:TV):aB prog 16 [x0,x1]=f16_M x0 x1:=by kernel_rfl
theorem f16_0_J  {x0 x1 x2:TV} {r:TV} (h:aa prog 16 (f16_0 x0 x1 x2) r):aa prog 16 (.jmp [0,0,1,0,1,1] (f16_0_S x0 x1 x2)) r:=aa.jmp (by kernel_rfl) h
def f17_0_S  (y0 y1 y2 w3:TV):ASt:=⟨[Jk,Jk,Pt 0,Jk,Jk,Jk,Sr 1] ++ Rj 24,[some (BC.cells [CA.t y0,CA.t y1,CA.t y2]),Tr w3] ++ Rz 53,[]⟩
def f17_1_S  (x0 x1 w2 y3 y4 y5:TV):ASt:=⟨[Sr 0,AV.clo 44 [CA.ptr 1 0]] ++ Rj 5 ++ [AV.tv x0,AV.tv x1] ++ Rj 10,[Tr w2,some (BC.cells [CA.t y3,CA.t y4,CA.t y5])] ++ Rz 114,(Rj 31 ++ [Sr 0,AV.clo 44 [CA.ptr 1 0]] ++ Rj 40)⟩
def f17_2_S  (x0 x1 w2 y3 y4 y5:TV):ASt:=⟨[Sr 0,AV.clo 44 [CA.ptr 1 0],Jk,Jk,Jk,AV.tv x0,AV.tv x1] ++ Rj 35,[Tr w2,some (BC.cells [CA.t y3,CA.t y4,CA.t y5])] ++ Rz 95,Rj 31⟩
def f17_3_S  (x0 w1:TV):ASt:=⟨[Sr 0] ++ Rj 4 ++ [AV.tv x0] ++ Rj 36,[Tr w1] ++ Rz 96,Rj 31⟩
def f17_M (x0 x1:TV):Prg TV :=
 chk (TV.isAgg x0 3) (
 call 41 [agg [cell x0 0,cell x0 1,cell x0 2],x1] fun v0 =>
 chk (ab au [v0] 0) (
 tv (pun .not v0) fun v1 =>
 Prg.ite (asBool v1) (
 chk true (
 ret (TV.lit aI))) (
 tvs (pidx 14 (cell x0 2) x1) fun e2 =>
 chk (Nat.ble 14 (List.length e2)) (
 call 42 [agg [nth hole e2 0,nth hole e2 1,nth hole e2 2,nth hole e2 3,nth hole e2 4,nth hole e2 5,nth hole e2 6,nth hole e2 7,nth hole e2 8,nth hole e2 9,nth hole e2 10,nth hole e2 11,nth hole e2 12,nth hole e2 13]] fun v3 =>
 chk (ab zSl [v3] 0) (
 tv (pbin (.int .i64) .eql (nth hole e2 6) (I 4)) fun v4 =>
 Prg.ite (asBool v4) (
 rws (pelems 1 (TV.sl true 1 (chunks 1 1 [nth hole e2 13]))) fun r5 =>
 tv (papp 1 v3 (rO r5)) fun v6 =>
 jmp [1,1,1,1,1] (f17_0_S (cell x0 0) (cell x0 1) (cell x0 2) v6)) (
 jmp [1,1,1,1,1] (f17_0_S (cell x0 0) (cell x0 1) (cell x0 2) v3)))))))
def f17_0  (y0 y1 y2 w3:TV):Prg TV :=
 tv (plen (.slice 3) w3) fun v7 =>
 jmp [0,0,1,0,1,6,0,1,6,0,1,1,1,1,1] (f17_1_S v7 (I 0) w3 y0 y1 y2)
def f17_1  (x0 x1 w2 y3 y4 y5:TV):Prg TV :=
 tv (pbin (.int .i64) .lss x1 x0) fun v8 =>
 Prg.ite (asBool v8) (
 nat (slLen w2) fun n9 =>
 nat (ak x1) fun n10 =>
 chk (Bool.and (slSize w2 1) (Nat.blt n10 n9)) (
 tvs (pel w2 n10) fun e11 =>
 chk (ab ei e11 0) (
 call 41 [agg [y3,y4,y5],nth hole e11 0] fun v12 =>
 chk (ab au [v12] 0) (
 tv (pun .not v12) fun v13 =>
 Prg.ite (asBool v13) (
 tv (pbin (.int .i64) .eql x1 (TV.lit (Value.int IntKind.i64 (-1)))) fun v14 =>
 Prg.ite (asBool v14) (
 chk (isOwn w2) (
 ret w2)) (
 tv (pbin (.int .i64) .add x1 (I 1)) fun v15 =>
 jmp [0,0,1,0,1,1,1,6,0,1,1,1,1,1] (f17_2_S x1 v15 w2 y3 y4 y5))) (
 tv (pbin (.int .i64) .add x1 (I 1)) fun v16 =>
 jmp [0,0,1,0,1,6,0,1,6,0,1,1,1,1,1] (f17_1_S x0 v16 w2 y3 y4 y5)))))) (
 tv (pbin (.int .i64) .eql (TV.lit (Value.int IntKind.i64 (-1))) (TV.lit (Value.int IntKind.i64 (-1)))) fun v17 =>
 Prg.ite (asBool v17) (
 chk (isOwn w2) (
 ret w2)) (
 tv (pbin (.int .i64) .add (TV.lit (Value.int IntKind.i64 (-1))) (I 1)) fun v18 =>
 jmp [0,0,1,0,1,1,1,6,0,1,1,1,1,1] (f17_2_S (TV.lit (Value.int IntKind.i64 (-1))) v18 w2 y3 y4 y5)))
def f17_2  (x0 x1 w2 y3 y4 y5:TV):Prg TV :=
 tv (plen (.slice 3) w2) fun v19 =>
 tv (pbin (.int .i64) .lss x1 v19) fun v20 =>
 Prg.ite (asBool v20) (
 nat (slLen w2) fun n21 =>
 nat (ak x1) fun n22 =>
 chk (Bool.and (slSize w2 1) (Nat.blt n22 n21)) (
 tvs (pel w2 n22) fun e23 =>
 chk (ab ei e23 0) (
 call 41 [agg [y3,y4,y5],nth hole e23 0] fun v24 =>
 chk (ab au [v24] 0) (
 tv (pun .not v24) fun v25 =>
 tv (pun .not v25) fun v26 =>
 Prg.ite (asBool v26) (
 nat (slLen w2) fun n27 =>
 nat (ak x0) fun n28 =>
 chk (Bool.and (slSize w2 1) (Nat.blt n28 n27)) (
 tvs (pel w2 n28) fun e29 =>
 chk (ab ei e29 0) (
 tv (cj [] w2 n28 0 [nth hole e23 0]) fun v30 =>
 tv (pbin (.int .i64) .add x0 (I 1)) fun v31 =>
 tv (pbin (.int .i64) .add x1 (I 1)) fun v32 =>
 jmp [0,0,1,0,1,1,1,6,0,1,1,1,1,1] (f17_2_S v31 v32 v30 y3 y4 y5)))) (
 tv (pbin (.int .i64) .add x1 (I 1)) fun v33 =>
 jmp [0,0,1,0,1,1,1,6,0,1,1,1,1,1] (f17_2_S x0 v33 w2 y3 y4 y5)))))) (
 jmp [1,1,1,1,6,0,1,1,1,1,1] (f17_3_S x0 w2))
def f17_3  (x0 w1:TV):Prg TV :=
 nat (slLen w1) fun n34 =>
 nat (ak x0) fun n35 =>
 chk (Bool.and (Bool.and (slSize w1 1) (Nat.ble (Option.getD (some n35) 0) (Option.getD none n34))) (Nat.ble (Option.getD none n34) n34)) (
 tv (pclear 1 [I 0] (Option.getD (some n35) 0) ((Option.getD none n34) - (Option.getD (some n35) 0)) w1) fun v36 =>
 nat (slLen v36) fun n37 =>
 nat (ak x0) fun n38 =>
 chk (Bool.and (Bool.and (slSize v36 1) (Nat.ble 0 (Option.getD (some n38) n37))) (Nat.ble (Option.getD (some n38) n37) n37)) (
 tv (cC 0 ((Option.getD (some n38) n37) - 0) v36) fun v39 =>
 chk (isOwn v39) (
 ret v39)))
theorem f17_MR (x0 x1:TV):aB prog 17 [x0,x1]=f17_M x0 x1:=by kernel_rfl
theorem f17_0_J  {y0 y1 y2 w3:TV} {r:TV} (h:aa prog 17 (f17_0 y0 y1 y2 w3) r):aa prog 17 (.jmp [1,1,1,1,1] (f17_0_S y0 y1 y2 w3)) r:=aa.jmp (by kernel_rfl) h
theorem f17_1_J  {x0 x1 w2 y3 y4 y5:TV} {r:TV} (h:aa prog 17 (f17_1 x0 x1 w2 y3 y4 y5) r):aa prog 17 (.jmp [0,0,1,0,1,6,0,1,6,0,1,1,1,1,1] (f17_1_S x0 x1 w2 y3 y4 y5)) r:=aa.jmp (by kernel_rfl) h
theorem f17_2_J  {x0 x1 w2 y3 y4 y5:TV} {r:TV} (h:aa prog 17 (f17_2 x0 x1 w2 y3 y4 y5) r):aa prog 17 (.jmp [0,0,1,0,1,1,1,6,0,1,1,1,1,1] (f17_2_S x0 x1 w2 y3 y4 y5)) r:=aa.jmp (by kernel_rfl) h
theorem f17_3_J  {x0 w1:TV} {r:TV} (h:aa prog 17 (f17_3 x0 w1) r):aa prog 17 (.jmp [1,1,1,1,6,0,1,1,1,1,1] (f17_3_S x0 w1)) r:=aa.jmp (by kernel_rfl) h
end Go.Ab.Q12
end
section
set_option maxRecDepth 100000
namespace Go.Ab.Q12
open Go Go.Ab Go.Proofs
open Go.Ab.TV (hole cell comp isSl isSc isTup cellsL tup agg)
open Go.Ab.Prg (tv tvs rws nat chk call jmp ret)
def f22_0_S  (x0 x1 w2 w3:TV):ASt:=⟨[Jk,Jk,Jk,Sr 0] ++ Rj 7 ++ [Sr 1,AV.tv x0,AV.tv x1] ++ Rj 8,[Tr w2,Tr w3] ++ Rz 44,[]⟩
def f22_M (x0:TV):Prg TV :=
 chk (TV.isAgg x0 3) (
 tv (plen (.slice 59) (cell x0 2)) fun v0 =>
 nat (ak v0) fun n1 =>
 nat (ak v0) fun n2 =>
 chk (Bool.and (Nat.ble n1 n2) (Nat.ble n2 4294967296)) (
 call 24 [agg [cell x0 0,cell x0 1,cell x0 2]] fun v3 =>
 chk (ab zSl [v3] 0) (
 tv (plen (.slice 3) v3) fun v4 =>
 jmp [0,0,1,0,1,1] (f22_0_S v4 (I 0) (TV.sl true 1 (List.replicate n1 [B false])) v3))))
def f22_0  (x0 x1 w2 w3:TV):Prg TV :=
 tv (pbin (.int .i64) .lss x1 x0) fun v5 =>
 Prg.ite (asBool v5) (
 nat (slLen w3) fun n6 =>
 nat (ak x1) fun n7 =>
 chk (Bool.and (slSize w3 1) (Nat.blt n7 n6)) (
 tvs (pel w3 n7) fun e8 =>
 chk (ab ei e8 0) (
 nat (slLen w2) fun n9 =>
 nat (ak (nth hole e8 0)) fun n10 =>
 chk (Bool.and (slSize w2 1) (Nat.blt n10 n9)) (
 tvs (pel w2 n10) fun e11 =>
 chk (ab au e11 0) (
 tv (cj [] w2 n10 0 [B true]) fun v12 =>
 tv (pbin (.int .i64) .add x1 (I 1)) fun v13 =>
 jmp [0,0,1,0,1,1] (f22_0_S x0 v13 v12 w3)))))) (
 ret w2)
theorem f22_MR (x0:TV):aB prog 22 [x0]=f22_M x0:=by kernel_rfl
theorem f22_0_J  {x0 x1 w2 w3:TV} {r:TV} (h:aa prog 22 (f22_0 x0 x1 w2 w3) r):aa prog 22 (.jmp [0,0,1,0,1,1] (f22_0_S x0 x1 w2 w3)) r:=aa.jmp (by kernel_rfl) h
def f24_0_S  (w0 y1 y2 y3 w4 w5 w6:TV):ASt:=⟨[Jk,Sr 0] ++ Rj 5 ++ [Pt 1] ++ Rj 22,[Tr w0,some (BC.cells [CA.fn1 48 2,CA.sref 3 0 [],CA.sref 4 0 [],CA.sref 5 0 []]),some (BC.cells [CA.t y1,CA.t y2,CA.t y3]),Tr w4,Tr w5,Tr w6] ++ Rz 65,Rj 17⟩
def f24_1_S  (x0 x1 w2 y3 y4 y5 w6 w7 w8:TV):ASt:=⟨Rj 7 ++ [Pt 0] ++ Rj 6 ++ [Sr 1,AV.tv x0,AV.tv x1] ++ Rj 13,[some (BC.cells [CA.fn1 48 2,CA.sref 3 0 [],CA.sref 4 0 [],CA.sref 5 0 []]),Tr w2,some (BC.cells [CA.t y3,CA.t y4,CA.t y5]),Tr w6,Tr w7,Tr w8] ++ Rz 65,Rj 17⟩
def f24_2_S  (x0 x1 w2 y3 y4 y5 w6 w7 w8:TV):ASt:=⟨Rj 7 ++ [Pt 0] ++ Rj 6 ++ [Sr 1,AV.tv x0,AV.tv x1] ++ Rj 13,[some (BC.cells [CA.fn1 48 2,CA.sref 3 0 [],CA.sref 4 0 [],CA.sref 5 0 []]),Tr w2,some (BC.cells [CA.t y3,CA.t y4,CA.t y5]),Tr w6,Tr w7,Tr w8] ++ Rz 65,Rj 17⟩
def f24_3_S  (x0 x1 w2:TV):ASt:=⟨[Sr 0,Jk,AV.tv x0,AV.tv x1] ++ Rj 24,[Tr w2] ++ Rz 68,([Jk,Jk,Jk,Sr 0] ++ Rj 13)⟩
def f24_M (x0:TV):Prg TV :=
 chk (TV.isAgg x0 3) (
 tv (plen (.slice 59) (cell x0 2)) fun v0 =>
 tv (pbin (.int .i64) .eql v0 (I 0)) fun v1 =>
 Prg.ite (asBool v1) (
 chk true (
 ret (TV.lit aI))) (
 tv (plen (.slice 59) (cell x0 2)) fun v2 =>
 nat (ak v2) fun n3 =>
 nat (ak v2) fun n4 =>
 chk (Bool.and (Nat.ble n3 n4) (Nat.ble n4 4294967296)) (
 chk true (
 chk true (
 jmp [1,1,12,0,1,1] (f24_0_S (TV.sl true 1 (chunks 1 1 [I 0])) (cell x0 0) (cell x0 1) (cell x0 2) (TV.sl true 1 (List.replicate n3 [B false])) (TV.lit aI) (TV.lit aI)))))))
def f24_0  (w0 y1 y2 y3 w4 w5 w6:TV):Prg TV :=
 tv (plen (.slice 3) w0) fun v5 =>
 jmp [0,0,1,0,1,1,12,0,1,1] (f24_1_S v5 (I 0) w0 y1 y2 y3 w4 (dF w5) w6)
def f24_1  (x0 x1 w2 y3 y4 y5 w6 w7 w8:TV):Prg TV :=
 tv (pbin (.int .i64) .lss x1 x0) fun v6 =>
 Prg.ite (asBool v6) (
 nat (slLen w2) fun n7 =>
 nat (ak x1) fun n8 =>
 chk (Bool.and (slSize w2 1) (Nat.blt n8 n7)) (
 tvs (pel w2 n8) fun e9 =>
 chk (ab ei e9 0) (
 nat (slLen w6) fun n10 =>
 nat (ak (nth hole e9 0)) fun n11 =>
 chk (Bool.and (slSize w6 1) (Nat.blt n11 n10)) (
 tvs (pel w6 n11) fun e12 =>
 chk (ab au e12 0) (
 tv (pun .not (nth hole e12 0)) fun v13 =>
 Prg.ite (asBool v13) (
 nat (slLen w6) fun n14 =>
 nat (ak (nth hole e9 0)) fun n15 =>
 chk (Bool.and (slSize w6 1) (Nat.blt n15 n14)) (
 tvs (pel w6 n15) fun e16 =>
 chk (ab au e16 0) (
 tv (cj [] w6 n15 0 [B true]) fun v17 =>
 call 48 [t9 (nth hole e9 0),agg [y3,y4,y5]] fun v18 =>
 chk (ab zSl [v18] 0) (
 rws (pelems 2 (TV.sl true 2 (chunks 2 1 [nth hole e9 0,v18]))) fun r19 =>
 tv (papp 2 w7 r19) fun v20 =>
 jmp [0,0,1,1,0,0,1,1,0,0,1,0,1,1,12,0,1,1] (f24_2_S x0 x1 w2 y3 y4 y5 v17 (dF v20) w8))))) (
 jmp [0,0,1,1,0,0,1,1,0,0,1,0,1,1,12,0,1,1] (f24_2_S x0 x1 w2 y3 y4 y5 w6 (dF w7) w8))))))) (
 tv (plen (.slice 3) w8) fun v21 =>
 tv (pbin (.int .i64) .sub v21 (I 1)) fun v22 =>
 jmp [0,0,1,4,0,1,1,1] (f24_3_S (I 0) v22 w8))
def f24_2  (x0 x1 w2 y3 y4 y5 w6 w7 w8:TV):Prg TV :=
 tv (plen (.slice 126) w7) fun v23 =>
 tv (pbin (.int .i64) .gtr v23 (I 0)) fun v24 =>
 Prg.ite (asBool v24) (
 tv (plen (.slice 126) w7) fun v25 =>
 tv (pbin (.int .i64) .sub v25 (I 1)) fun v26 =>
 nat (slLen w7) fun n27 =>
 nat (ak v26) fun n28 =>
 chk (Bool.and (slSize w7 2) (Nat.blt n28 n27)) (
 tvs (pel w7 n28) fun e29 =>
 chk (ab zSl e29 1) (
 tv (aE [(n28,1)] w7) fun v30 =>
 tv (plen (.slice 3) v30) fun v31 =>
 tv (pbin (.int .i64) .eql v31 (I 0)) fun v32 =>
 Prg.ite (asBool v32) (
 tv (plen (.slice 126) w7) fun v33 =>
 tv (pbin (.int .i64) .sub v33 (I 1)) fun v34 =>
 nat (slLen w7) fun n35 =>
 nat (ak v34) fun n36 =>
 chk (Bool.and (slSize w7 2) (Nat.blt n36 n35)) (
 tvs (pel w7 n36) fun e37 =>
 chk (ab ei e37 0) (
 rws (pelems 1 (TV.sl true 1 (chunks 1 1 [nth hole e37 0]))) fun r38 =>
 tv (papp 1 w8 (rO r38)) fun v39 =>
 nat (slLen w7) fun n40 =>
 nat (ak v34) fun n41 =>
 chk (Bool.and (Bool.and (slSize w7 2) (Nat.ble 0 (Option.getD (some n41) n40))) (Nat.ble (Option.getD (some n41) n40) n40)) (
 tv (cC 0 ((Option.getD (some n41) n40) - 0) w7) fun v42 =>
 jmp [0,0,1,1,0,0,1,1,0,0,1,0,1,1,12,0,1,1] (f24_2_S x0 x1 w2 y3 y4 y5 w6 (dF v42) v39))))) (
 tvs (pel w7 n28) fun e43 =>
 chk (ab zSl e43 1) (
 tv (aE [(n28,1)] w7) fun v44 =>
 nat (slLen v44) fun n45 =>
 nat (ak (I 0)) fun n46 =>
 chk (Bool.and (slSize v44 1) (Nat.blt n46 n45)) (
 tv (aE [(n28,1)] w7) fun v47 =>
 tvs (pel v47 n46) fun e48 =>
 chk (ab ei e48 0) (
 tvs (pel w7 n28) fun e49 =>
 chk (ab zSl e49 1) (
 tv (aE [(n28,1)] w7) fun v50 =>
 nat (slLen v50) fun n51 =>
 nat (ak (I 1)) fun n52 =>
 chk (Bool.and (Bool.and (slSize v50 1) (Nat.ble (Option.getD (some n52) 0) (Option.getD none n51))) (Nat.ble (Option.getD none n51) n51)) (
 tv (aE [(n28,1)] w7) fun v53 =>
 tv (cC (Option.getD (some n52) 0) ((Option.getD none n51) - (Option.getD (some n52) 0)) v53) fun v54 =>
 chk (TV.ii v54) (
 tvs (pel w7 n28) fun e55 =>
 chk (Bool.and (bK zSl e55 1) (ab zSl [v54] 0)) (
 tv (cj [] w7 n28 1 [v54]) fun v56 =>
 nat (slLen w6) fun n57 =>
 nat (ak (nth hole e48 0)) fun n58 =>
 chk (Bool.and (slSize w6 1) (Nat.blt n58 n57)) (
 tvs (pel w6 n58) fun e59 =>
 chk (ab au e59 0) (
 tv (pun .not (nth hole e59 0)) fun v60 =>
 Prg.ite (asBool v60) (
 nat (slLen w6) fun n61 =>
 nat (ak (nth hole e48 0)) fun n62 =>
 chk (Bool.and (slSize w6 1) (Nat.blt n62 n61)) (
 tvs (pel w6 n62) fun e63 =>
 chk (ab au e63 0) (
 tv (cj [] w6 n62 0 [B true]) fun v64 =>
 call 48 [t9 (nth hole e48 0),agg [y3,y4,y5]] fun v65 =>
 chk (ab zSl [v65] 0) (
 rws (pelems 2 (TV.sl true 2 (chunks 2 1 [nth hole e48 0,v65]))) fun r66 =>
 tv (papp 2 v56 r66) fun v67 =>
 jmp [0,0,1,1,0,0,1,1,0,0,1,0,1,1,12,0,1,1] (f24_2_S x0 x1 w2 y3 y4 y5 v64 (dF v67) w8))))) (
 jmp [0,0,1,1,0,0,1,1,0,0,1,0,1,1,12,0,1,1] (f24_2_S x0 x1 w2 y3 y4 y5 w6 (dF v56) w8))))))))))))))) (
 tv (pbin (.int .i64) .add x1 (I 1)) fun v68 =>
 jmp [0,0,1,0,1,1,12,0,1,1] (f24_1_S x0 v68 w2 y3 y4 y5 w6 (dF w7) w8))
def f24_3  (x0 x1 w2:TV):Prg TV :=
 tv (pbin (.int .i64) .lss x0 x1) fun v69 =>
 Prg.ite (asBool v69) (
 nat (slLen w2) fun n70 =>
 nat (ak x1) fun n71 =>
 chk (Bool.and (slSize w2 1) (Nat.blt n71 n70)) (
 tvs (pel w2 n71) fun e72 =>
 chk (ab ei e72 0) (
 nat (slLen w2) fun n73 =>
 nat (ak x0) fun n74 =>
 chk (Bool.and (slSize w2 1) (Nat.blt n74 n73)) (
 tvs (pel w2 n74) fun e75 =>
 chk (ab ei e75 0) (
 nat (slLen w2) fun n76 =>
 nat (ak x0) fun n77 =>
 chk (Bool.and (slSize w2 1) (Nat.blt n77 n76)) (
 tvs (pel w2 n77) fun e78 =>
 chk (ab ei e78 0) (
 tv (cj [] w2 n77 0 [nth hole e72 0]) fun v79 =>
 nat (slLen v79) fun n80 =>
 nat (ak x1) fun n81 =>
 chk (Bool.and (slSize v79 1) (Nat.blt n81 n80)) (
 tvs (pel v79 n81) fun e82 =>
 chk (ab ei e82 0) (
 tv (cj [] v79 n81 0 [nth hole e75 0]) fun v83 =>
 tv (pbin (.int .i64) .add x0 (I 1)) fun v84 =>
 tv (pbin (.int .i64) .sub x1 (I 1)) fun v85 =>
 jmp [0,0,1,4,0,1,1,1] (f24_3_S v84 v85 v83)))))))))) (
 chk (isOwn w2) (
 ret w2))
theorem f24_MR (x0:TV):aB prog 24 [x0]=f24_M x0:=by kernel_rfl
theorem f24_0_J  {w0 y1 y2 y3 w4 w5 w6:TV} {r:TV} (h:aa prog 24 (f24_0 w0 y1 y2 y3 w4 w5 w6) r):aa prog 24 (.jmp [1,1,12,0,1,1] (f24_0_S w0 y1 y2 y3 w4 w5 w6)) r:=aa.jmp (by kernel_rfl) h
theorem f24_1_J  {x0 x1 w2 y3 y4 y5 w6 w7 w8:TV} {r:TV} (h:aa prog 24 (f24_1 x0 x1 w2 y3 y4 y5 w6 w7 w8) r):aa prog 24 (.jmp [0,0,1,0,1,1,12,0,1,1] (f24_1_S x0 x1 w2 y3 y4 y5 w6 w7 w8)) r:=aa.jmp (by kernel_rfl) h
theorem f24_2_J  {x0 x1 w2 y3 y4 y5 w6 w7 w8:TV} {r:TV} (h:aa prog 24 (f24_2 x0 x1 w2 y3 y4 y5 w6 w7 w8) r):aa prog 24 (.jmp [0,0,1,1,0,0,1,1,0,0,1,0,1,1,12,0,1,1] (f24_2_S x0 x1 w2 y3 y4 y5 w6 w7 w8)) r:=aa.jmp (by kernel_rfl) h
theorem f24_3_J  {x0 x1 w2:TV} {r:TV} (h:aa prog 24 (f24_3 x0 x1 w2) r):aa prog 24 (.jmp [0,0,1,4,0,1,1,1] (f24_3_S x0 x1 w2)) r:=aa.jmp (by kernel_rfl) h
def f27_M (x0 x1:TV):Prg TV :=
 chk (TV.isAgg x0 1) (
 call 50 [agg [cell x0 0]] fun v0 =>
 chk (ab au [v0] 0) (
 Prg.ite (asBool v0) (
 tv (plen (.slice 42) x1) fun v1 =>
 tv (pbin (.int .i64) .leq v1 (I 30)) fun v2 =>
 ret v2) (
 ret (B false))))
theorem f27_MR (x0 x1:TV):aB prog 27 [x0,x1]=f27_M x0 x1:=by kernel_rfl
def f28_0_S  (x0 y1 y2 y3 y4 y5 y6 y7 y8 y9 y10 y11 y12 y13 y14 y15 y16 y17 y18 w19 w20 w21 w22 w23 w24 w25 w26 w27 w28 w29 w30 w31 w32 w33 w34 w35 w36 w37 w38 w39 w40 w41:TV):ASt:=⟨[Jk,Jk,AV.tv x0,Jk,Jk,Jk,Pt 0,Jk,Jk,Jk,Pt 1] ++ Rj 29,[some (BC.cells [CA.junk,CA.junk,CA.junk,CA.junk,CA.junk,CA.junk,CA.junk,CA.junk,CA.junk,CA.junk,CA.junk,CA.junk,CA.junk,CA.junk,CA.junk,CA.junk,CA.junk,CA.junk,CA.junk,CA.junk,CA.junk]),some (BC.cells [CA.sref 2 0 [],CA.t y1,CA.t y2,CA.t y3,CA.t y4,CA.t y5,CA.t y6,CA.t y7,CA.t y8,CA.t y9,CA.t y10,CA.t y11,CA.t y12,CA.t y13,CA.t y14,CA.t y15,CA.t y16,CA.sref 2 17 [],CA.sref 2 18 [],CA.t y17,CA.t y18,CA.sref 3 0 []]),some (BC.tree [w19,w20,w21,w22,w23,w24,w25,w26,w27,w28,w29,w30,w31,w32,w33,w34,w35,w36,w37,w38,w39,w40]),Tr w41] ++ Rz 60,[]⟩
def f28_1_S  (y0 y1 y2 y3 y4 y5 y6 y7 y8 y9 y10 y11 y12 y13 y14 y15 y16 y17 w18 w19 w20 w21 w22 w23 w24 w25 w26 w27 w28 w29 w30 w31 w32 w33 w34 w35 w36 w37 w38 w39 w40:TV):ASt:=⟨Rj 6 ++ [Pt 0,Jk,Jk,Jk,Pt 1] ++ Rj 29,[some (BC.cells [CA.junk,CA.junk,CA.junk,CA.junk,CA.junk,CA.junk,CA.junk,CA.junk,CA.junk,CA.junk,CA.junk,CA.junk,CA.junk,CA.junk,CA.junk,CA.junk,CA.junk,CA.junk,CA.junk,CA.junk,CA.junk]),some (BC.cells [CA.sref 2 0 [],CA.t y0,CA.t y1,CA.t y2,CA.t y3,CA.t y4,CA.t y5,CA.t y6,CA.t y7,CA.t y8,CA.t y9,CA.t y10,CA.t y11,CA.t y12,CA.t y13,CA.t y14,CA.t y15,CA.sref 2 17 [],CA.sref 2 18 [],CA.t y16,CA.t y17,CA.sref 3 0 []]),some (BC.tree [w18,w19,w20,w21,w22,w23,w24,w25,w26,w27,w28,w29,w30,w31,w32,w33,w34,w35,w36,w37,w38,w39]),Tr w40] ++ Rz 60,[]⟩
def f28_M (x0 x1 x2:TV):Prg TV :=
 chk (TV.isAgg x0 1) (
 call 51 [agg [cell x0 0],x1] fun v0 =>
 chk (isTup v0 2) (
 chk (Bool.and (TV.isAgg (comp v0 0) 21) (ab z44 (cellsL true (comp v0 0)) 0)) (
 chk (ab ei [comp v0 1] 0) (
 tv (pbin (.int .i64) .neq (comp v0 1) (I 0)) fun v1 =>
 Prg.ite (asBool v1) (
 chk true (
 ret (tup [agg [TV.lit aI,W 0,W 0,W 0,W 0,W 0,W 0,W 0,W 0,W 0,W 0,W 0,W 0,W 0,W 0,W 0,W 0,TV.lit aI,TV.lit aI,I 0,W 0],I 1]))) (
 tv (pbin (.int .i64) .gtr x2 (I 1048576)) fun v2 =>
 Prg.ite (asBool v2) (
 chk true (
 ret (tup [agg [TV.lit aI,W 0,W 0,W 0,W 0,W 0,W 0,W 0,W 0,W 0,W 0,W 0,W 0,W 0,W 0,W 0,W 0,TV.lit aI,TV.lit aI,I 0,W 0],I 1]))) (
 chk (isSl (cell x0 0)) (
 jmp [0,0,0,1,1,1,1] (f28_0_S x2 (cell (comp v0 0) 1) (cell (comp v0 0) 2) (cell (comp v0 0) 3) (cell (comp v0 0) 4) (cell (comp v0 0) 5) (cell (comp v0 0) 6) (cell (comp v0 0) 7) (cell (comp v0 0) 8) (cell (comp v0 0) 9) (cell (comp v0 0) 10) (cell (comp v0 0) 11) (cell (comp v0 0) 12) (cell (comp v0 0) 13) (cell (comp v0 0) 14) (cell (comp v0 0) 15) (cell (comp v0 0) 16) (cell (comp v0 0) 19) (cell (comp v0 0) 20) (cell (comp v0 0) 0) hole hole hole hole hole hole hole hole hole hole hole hole hole hole hole hole (cell (comp v0 0) 17) (cell (comp v0 0) 18) hole hole hole (cell x0 0)))))))))
def f28_0  (x0 y1 y2 y3 y4 y5 y6 y7 y8 y9 y10 y11 y12 y13 y14 y15 y16 y17 y18 w19 w20 w21 w22 w23 w24 w25 w26 w27 w28 w29 w30 w31 w32 w33 w34 w35 w36 w37 w38 w39 w40 w41:TV):Prg TV :=
 tv (pbin (.int .i64) .gtr x0 (I 0)) fun v3 =>
 Prg.ite (asBool v3) (
 tv (pbin (.int .i64) .eql y17 (I 0)) fun v4 =>
 Prg.ite (asBool v4) (
 chk (Bool.and (isSl w19) (Bool.and (isSc y1) (Bool.and (isSc y2) (Bool.and (isSc y3) (Bool.and (isSc y4) (Bool.and (isSc y5) (Bool.and (isSc y6) (Bool.and (isSc y7) (Bool.and (isSc y8) (Bool.and (isSc y9) (Bool.and (isSc y10) (Bool.and (isSc y11) (Bool.and (isSc y12) (Bool.and (isSc y13) (Bool.and (isSc y14) (Bool.and (isSc y15) (Bool.and (isSc y16) (Bool.and (isSl w36) (Bool.and (isSl w37) (Bool.and (isSc y17) (Bool.and (isSc y18) (Bool.and (isSl w41) true)))))))))))))))))))))) (
 call 52 [tup [w19,y1,y2,y3,y4,y5,y6,y7,y8,y9,y10,y11,y12,y13,y14,y15,y16,w36,w37,y17,y18,w41]] fun v5 =>
 chk (Bool.and (Bool.and (isTup v5 2) (isTup (comp v5 1) 22)) (Bool.and (isSl (comp (comp v5 1) 0)) (Bool.and (isSc (comp (comp v5 1) 1)) (Bool.and (isSc (comp (comp v5 1) 2)) (Bool.and (isSc (comp (comp v5 1) 3)) (Bool.and (isSc (comp (comp v5 1) 4)) (Bool.and (isSc (comp (comp v5 1) 5)) (Bool.and (isSc (comp (comp v5 1) 6)) (Bool.and (isSc (comp (comp v5 1) 7)) (Bool.and (isSc (comp (comp v5 1) 8)) (Bool.and (isSc (comp (comp v5 1) 9)) (Bool.and (isSc (comp (comp v5 1) 10)) (Bool.and (isSc (comp (comp v5 1) 11)) (Bool.and (isSc (comp (comp v5 1) 12)) (Bool.and (isSc (comp (comp v5 1) 13)) (Bool.and (isSc (comp (comp v5 1) 14)) (Bool.and (isSc (comp (comp v5 1) 15)) (Bool.and (isSc (comp (comp v5 1) 16)) (Bool.and (isSl (comp (comp v5 1) 17)) (Bool.and (isSl (comp (comp v5 1) 18)) (Bool.and (isSc (comp (comp v5 1) 19)) (Bool.and (isSc (comp (comp v5 1) 20)) (Bool.and (isSl (comp (comp v5 1) 21)) true))))))))))))))))))))))) (
 chk (isTup (comp v5 0) 0) (
 tv (pbin (.int .i64) .sub x0 (I 1)) fun v6 =>
 jmp [0,0,0,1,1,1,1] (f28_0_S v6 (comp (comp v5 1) 1) (comp (comp v5 1) 2) (comp (comp v5 1) 3) (comp (comp v5 1) 4) (comp (comp v5 1) 5) (comp (comp v5 1) 6) (comp (comp v5 1) 7) (comp (comp v5 1) 8) (comp (comp v5 1) 9) (comp (comp v5 1) 10) (comp (comp v5 1) 11) (comp (comp v5 1) 12) (comp (comp v5 1) 13) (comp (comp v5 1) 14) (comp (comp v5 1) 15) (comp (comp v5 1) 16) (comp (comp v5 1) 19) (comp (comp v5 1) 20) (comp (comp v5 1) 0) hole hole hole hole hole hole hole hole hole hole hole hole hole hole hole hole (comp (comp v5 1) 17) (comp (comp v5 1) 18) hole hole hole (comp (comp v5 1) 21)))))) (
 jmp [1,1,1,1,1] (f28_1_S y1 y2 y3 y4 y5 y6 y7 y8 y9 y10 y11 y12 y13 y14 y15 y16 y17 y18 w19 w20 w21 w22 w23 w24 w25 w26 w27 w28 w29 w30 w31 w32 w33 w34 w35 w36 w37 w38 w39 w40 w41))) (
 jmp [1,1,1,1,1] (f28_1_S y1 y2 y3 y4 y5 y6 y7 y8 y9 y10 y11 y12 y13 y14 y15 y16 y17 y18 w19 w20 w21 w22 w23 w24 w25 w26 w27 w28 w29 w30 w31 w32 w33 w34 w35 w36 w37 w38 w39 w40 w41))
def f28_1  (y0 y1 y2 y3 y4 y5 y6 y7 y8 y9 y10 y11 y12 y13 y14 y15 y16 y17 w18 w19 w20 w21 w22 w23 w24 w25 w26 w27 w28 w29 w30 w31 w32 w33 w34 w35 w36 w37 w38 w39 w40:TV):Prg TV :=
 chk (bn [agg [w18,y0,y1,y2,y3,y4,y5,y6,y7,y8,y9,y10,y11,y12,y13,y14,y15,w35,w36,y16,y17],I 0]) (
 ret (tup [agg [w18,y0,y1,y2,y3,y4,y5,y6,y7,y8,y9,y10,y11,y12,y13,y14,y15,w35,w36,y16,y17],I 0]))
theorem f28_MR (x0 x1 x2:TV):aB prog 28 [x0,x1,x2]=f28_M x0 x1 x2:=by kernel_rfl
theorem f28_0_J  {x0 y1 y2 y3 y4 y5 y6 y7 y8 y9 y10 y11 y12 y13 y14 y15 y16 y17 y18 w19 w20 w21 w22 w23 w24 w25 w26 w27 w28 w29 w30 w31 w32 w33 w34 w35 w36 w37 w38 w39 w40 w41:TV} {r:TV} (h:aa prog 28 (f28_0 x0 y1 y2 y3 y4 y5 y6 y7 y8 y9 y10 y11 y12 y13 y14 y15 y16 y17 y18 w19 w20 w21 w22 w23 w24 w25 w26 w27 w28 w29 w30 w31 w32 w33 w34 w35 w36 w37 w38 w39 w40 w41) r):aa prog 28 (.jmp [0,0,0,1,1,1,1] (f28_0_S x0 y1 y2 y3 y4 y5 y6 y7 y8 y9 y10 y11 y12 y13 y14 y15 y16 y17 y18 w19 w20 w21 w22 w23 w24 w25 w26 w27 w28 w29 w30 w31 w32 w33 w34 w35 w36 w37 w38 w39 w40 w41)) r:=aa.jmp (by kernel_rfl) h
theorem f28_1_J  {y0 y1 y2 y3 y4 y5 y6 y7 y8 y9 y10 y11 y12 y13 y14 y15 y16 y17 w18 w19 w20 w21 w22 w23 w24 w25 w26 w27 w28 w29 w30 w31 w32 w33 w34 w35 w36 w37 w38 w39 w40:TV} {r:TV} (h:aa prog 28 (f28_1 y0 y1 y2 y3 y4 y5 y6 y7 y8 y9 y10 y11 y12 y13 y14 y15 y16 y17 w18 w19 w20 w21 w22 w23 w24 w25 w26 w27 w28 w29 w30 w31 w32 w33 w34 w35 w36 w37 w38 w39 w40) r):aa prog 28 (.jmp [1,1,1,1,1] (f28_1_S y0 y1 y2 y3 y4 y5 y6 y7 y8 y9 y10 y11 y12 y13 y14 y15 y16 y17 w18 w19 w20 w21 w22 w23 w24 w25 w26 w27 w28 w29 w30 w31 w32 w33 w34 w35 w36 w37 w38 w39 w40)) r:=aa.jmp (by kernel_rfl) h
def f29_0_S  (x0 y1 y2 y3 y4 y5 y6 y7 y8 y9 y10 y11 y12 y13 y14 y15 y16 y17 y18 y19 y20 y21 y22 y23 y24 y25 y26 y27 y28 y29 y30 y31 y32 y33 y34 y35 y36 y37 y38 y39 y40 y41 y42:TV):ASt:=⟨[Jk,Jk,Pt 0,Pt 1,Jk,AV.tv x0] ++ Rj 63,[some (BC.cells [CA.t y1,CA.t y2,CA.t y3,CA.t y4,CA.t y5,CA.t y6,CA.t y7,CA.t y8,CA.t y9,CA.t y10,CA.t y11,CA.t y12,CA.t y13,CA.t y14,CA.t y15,CA.t y16,CA.t y17,CA.t y18,CA.t y19,CA.t y20,CA.t y21]),some (BC.cells [CA.t y22,CA.t y23,CA.t y24,CA.t y25,CA.t y26,CA.t y27,CA.t y28,CA.t y29,CA.t y30,CA.t y31,CA.t y32,CA.t y33,CA.t y34,CA.t y35,CA.t y36,CA.t y37,CA.t y38,CA.t y39,CA.t y40,CA.t y41,CA.t y42])] ++ Rz 91,[]⟩
def f29_M (x0 x1:TV):Prg TV :=
 chk (TV.isAgg x0 21) (
 chk (TV.isAgg x1 21) (
 tv (plen (.slice 51) (cell x0 0)) fun v0 =>
 tv (plen (.slice 51) (cell x1 0)) fun v1 =>
 tv (pbin (.int .i64) .neq v0 v1) fun v2 =>
 Prg.ite (asBool v2) (
 ret (B false)) (
 tv (Ad IntKind.u16 .neq [cell x0 1,cell x0 2,cell x0 3,cell x0 4,cell x0 5,cell x0 6,cell x0 7,cell x0 8,cell x0 9,cell x0 10,cell x0 11,cell x0 12,cell x0 13,cell x0 14,cell x0 15,cell x0 16] [cell x1 1,cell x1 2,cell x1 3,cell x1 4,cell x1 5,cell x1 6,cell x1 7,cell x1 8,cell x1 9,cell x1 10,cell x1 11,cell x1 12,cell x1 13,cell x1 14,cell x1 15,cell x1 16]) fun v3 =>
 Prg.ite (asBool v3) (
 ret (B false)) (
 call 53 [cell x0 17,cell x1 17] fun v4 =>
 chk (ab au [v4] 0) (
 tv (pun .not v4) fun v5 =>
 Prg.ite (asBool v5) (
 ret (B false)) (
 call 16 [cell x0 18,cell x1 18] fun v6 =>
 chk (ab au [v6] 0) (
 tv (pun .not v6) fun v7 =>
 Prg.ite (asBool v7) (
 ret (B false)) (
 tv (pbin (.int .i64) .neq (cell x0 19) (cell x1 19)) fun v8 =>
 Prg.ite (asBool v8) (
 ret (B false)) (
 tv (pbin (.int .u16) .neq (cell x0 20) (cell x1 20)) fun v9 =>
 Prg.ite (asBool v9) (
 ret (B false)) (
 jmp [0,0,1,0,1,1] (f29_0_S (I 0) (cell x0 0) (cell x0 1) (cell x0 2) (cell x0 3) (cell x0 4) (cell x0 5) (cell x0 6) (cell x0 7) (cell x0 8) (cell x0 9) (cell x0 10) (cell x0 11) (cell x0 12) (cell x0 13) (cell x0 14) (cell x0 15) (cell x0 16) (cell x0 17) (cell x0 18) (cell x0 19) (cell x0 20) (cell x1 0) (cell x1 1) (cell x1 2) (cell x1 3) (cell x1 4) (cell x1 5) (cell x1 6) (cell x1 7) (cell x1 8) (cell x1 9) (cell x1 10) (cell x1 11) (cell x1 12) (cell x1 13) (cell x1 14) (cell x1 15) (cell x1 16) (cell x1 17) (cell x1 18) (cell x1 19) (cell x1 20))))))))))))
def f29_0  (x0 y1 y2 y3 y4 y5 y6 y7 y8 y9 y10 y11 y12 y13 y14 y15 y16 y17 y18 y19 y20 y21 y22 y23 y24 y25 y26 y27 y28 y29 y30 y31 y32 y33 y34 y35 y36 y37 y38 y39 y40 y41 y42:TV):Prg TV :=
 tv (plen (.slice 51) y1) fun v10 =>
 tv (pbin (.int .i64) .lss x0 v10) fun v11 =>
 Prg.ite (asBool v11) (
 tvs (pidx 5 y1 x0) fun e12 =>
 chk (Nat.ble 5 (List.length e12)) (
 tvs (pidx 5 y22 x0) fun e13 =>
 chk (Nat.ble 5 (List.length e13)) (
 call 54 [agg [nth hole e12 0,nth hole e12 1,nth hole e12 2,nth hole e12 3,nth hole e12 4],agg [nth hole e13 0,nth hole e13 1,nth hole e13 2,nth hole e13 3,nth hole e13 4]] fun v14 =>
 chk (ab au [v14] 0) (
 tv (pun .not v14) fun v15 =>
 Prg.ite (asBool v15) (
 ret (B false)) (
 tv (pbin (.int .i64) .add x0 (I 1)) fun v16 =>
 jmp [0,0,1,0,1,1] (f29_0_S v16 y1 y2 y3 y4 y5 y6 y7 y8 y9 y10 y11 y12 y13 y14 y15 y16 y17 y18 y19 y20 y21 y22 y23 y24 y25 y26 y27 y28 y29 y30 y31 y32 y33 y34 y35 y36 y37 y38 y39 y40 y41 y42)))))) (
 ret (B true))
theorem f29_MR (x0 x1:TV):aB prog 29 [x0,x1]=f29_M x0 x1:=by kernel_rfl
theorem f29_0_J  {x0 y1 y2 y3 y4 y5 y6 y7 y8 y9 y10 y11 y12 y13 y14 y15 y16 y17 y18 y19 y20 y21 y22 y23 y24 y25 y26 y27 y28 y29 y30 y31 y32 y33 y34 y35 y36 y37 y38 y39 y40 y41 y42:TV} {r:TV} (h:aa prog 29 (f29_0 x0 y1 y2 y3 y4 y5 y6 y7 y8 y9 y10 y11 y12 y13 y14 y15 y16 y17 y18 y19 y20 y21 y22 y23 y24 y25 y26 y27 y28 y29 y30 y31 y32 y33 y34 y35 y36 y37 y38 y39 y40 y41 y42) r):aa prog 29 (.jmp [0,0,1,0,1,1] (f29_0_S x0 y1 y2 y3 y4 y5 y6 y7 y8 y9 y10 y11 y12 y13 y14 y15 y16 y17 y18 y19 y20 y21 y22 y23 y24 y25 y26 y27 y28 y29 y30 y31 y32 y33 y34 y35 y36 y37 y38 y39 y40 y41 y42)) r:=aa.jmp (by kernel_rfl) h
def f41_M (x0 x1:TV):Prg TV :=
 chk (TV.isAgg x0 3) (
 tv (pbin (.int .i64) .leq (I 0) x1) fun v0 =>
 Prg.ite (asBool v0) (
 tv (plen (.slice 59) (cell x0 2)) fun v1 =>
 tv (pbin (.int .i64) .lss x1 v1) fun v2 =>
 ret v2) (
 ret (B false)))
theorem f41_MR (x0 x1:TV):aB prog 41 [x0,x1]=f41_M x0 x1:=by kernel_rfl
def f42_0_S  (x0 y1 y2 y3 y4 y5 y6 y7 y8 y9 y10 y11 y12 y13 y14 w15:TV):ASt:=⟨[Jk,Pt 0,Jk,Jk,Sr 1] ++ Rj 13 ++ [AV.tv x0] ++ Rj 7,[some (BC.cells [CA.t y1,CA.t y2,CA.t y3,CA.t y4,CA.t y5,CA.t y6,CA.t y7,CA.t y8,CA.t y9,CA.t y10,CA.t y11,CA.t y12,CA.t y13,CA.t y14]),Tr w15] ++ Rz 48,[]⟩
def f42_M (x0:TV):Prg TV :=
 chk (TV.isAgg x0 14) (
 call 62 [cell x0 6] fun v0 =>
 chk (ab ei [v0] 0) (
 call 63 [v0,I 64] fun v1 =>
 chk (ab au [v1] 0) (
 Prg.ite (asBool v1) (
 rws (pelems 1 (TV.sl true 1 (chunks 1 1 [cell x0 11]))) fun r2 =>
 tv (papp 1 (TV.lit aI) (rO r2)) fun v3 =>
 call 63 [v0,I 128] fun v4 =>
 chk (ab au [v4] 0) (
 jmp [1,0,1,1,1,1] (f42_0_S v4 (cell x0 0) (cell x0 1) (cell x0 2) (cell x0 3) (cell x0 4) (cell x0 5) (cell x0 6) (cell x0 7) (cell x0 8) (cell x0 9) (cell x0 10) (cell x0 11) (cell x0 12) (cell x0 13) v3))) (
 call 63 [v0,I 128] fun v5 =>
 chk (ab au [v5] 0) (
 chk true (
 jmp [1,0,1,1,1,1] (f42_0_S v5 (cell x0 0) (cell x0 1) (cell x0 2) (cell x0 3) (cell x0 4) (cell x0 5) (cell x0 6) (cell x0 7) (cell x0 8) (cell x0 9) (cell x0 10) (cell x0 11) (cell x0 12) (cell x0 13) (TV.lit aI))))))))
def f42_0  (x0 y1 y2 y3 y4 y5 y6 y7 y8 y9 y10 y11 y12 y13 y14 w15:TV):Prg TV :=
 Prg.ite (asBool x0) (
 rws (pelems 1 (TV.sl true 1 (chunks 1 1 [y13]))) fun r6 =>
 tv (papp 1 w15 (rO r6)) fun v7 =>
 chk (isOwn v7) (
 ret v7)) (
 chk (isOwn w15) (
 ret w15))
theorem f42_MR (x0:TV):aB prog 42 [x0]=f42_M x0:=by kernel_rfl
theorem f42_0_J  {x0 y1 y2 y3 y4 y5 y6 y7 y8 y9 y10 y11 y12 y13 y14 w15:TV} {r:TV} (h:aa prog 42 (f42_0 x0 y1 y2 y3 y4 y5 y6 y7 y8 y9 y10 y11 y12 y13 y14 w15) r):aa prog 42 (.jmp [1,0,1,1,1,1] (f42_0_S x0 y1 y2 y3 y4 y5 y6 y7 y8 y9 y10 y11 y12 y13 y14 w15)) r:=aa.jmp (by kernel_rfl) h
end Go.Ab.Q12
end

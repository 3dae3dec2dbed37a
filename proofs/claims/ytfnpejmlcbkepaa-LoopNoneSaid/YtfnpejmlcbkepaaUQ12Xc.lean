import Derived.Test.YtfnpejmlcbkepaaUQ12T
set_option linter.all false
section
set_option maxRecDepth 100000
namespace Go.Ab.Q12
open Go Go.Ab Go.Proofs
open Go.Ab.TV (hole cell comp isSl isSc isTup cellsL tup agg)
open Go.Ab.Prg (tv tvs rws nat chk call jmp ret)
def f14_0_S  (x0 x1 x2 y3 y4 w5:TV):ASt:=⟨[Jk,AV.tv x0,Jk,Jk,Jk,AV.tv x1,Pt 0,AV.tv x2] ++ Rj 91,[some (BC.cells [CA.t y3,CA.t y4,CA.sref 1 0 []]),Tr w5] ++ Rz 121,[]⟩
def f14_1_S  (x0 x1 y2 y3 w4:TV):ASt:=⟨[Jk,AV.tv x0,Jk,Jk,Jk,AV.tv x1,Pt 0] ++ Rj 92,[some (BC.cells [CA.t y2,CA.t y3,CA.sref 1 0 []]),Tr w4] ++ Rz 121,[]⟩
def f14_2_S  (x0 x1 x2 y3 y4 w5:TV):ASt:=⟨Rj 5 ++ [AV.tv x0,Pt 0,Jk,AV.tv x1,Jk,AV.tv x2] ++ Rj 88,[some (BC.cells [CA.t y3,CA.t y4,CA.sref 1 0 []]),Tr w5] ++ Rz 121,[]⟩
def f14_3_S  (x0 x1 x2 x3 y4 y5 w6:TV):ASt:=⟨Rj 5 ++ [AV.tv x0,Pt 0,Jk,AV.tv x1,Jk,AV.tv x2,AV.tv x3] ++ Rj 87,[some (BC.cells [CA.t y4,CA.t y5,CA.sref 1 0 []]),Tr w6] ++ Rz 121,[]⟩
def f14_M (x0 x1:TV):Prg TV :=
 call 37 [] fun v0 =>
 chk (ac gG [v0] 0) (
 tv (pun .not v0) fun v1 =>
 Prg.ite (asBool v1) (
 ret (B false)) (
 tv (pbin (.int .u8) .rem x0 (TV.lit (Value.int IntKind.u8 (10:Int)))) fun v2 =>
 tv (pconv (.int .i64) v2) fun v3 =>
 tv (pbin (.int .i64) .add v3 (I 2)) fun v4 =>
 chk true (
 jmp [0,0,1,0,1,1,1,1] (f14_0_S x1 v4 (I 0) (I 0) (I 1) (TV.lit aD)))))
def f14_0  (x0 x1 x2 y3 y4 w5:TV):Prg TV :=
 tv (pbin (.int .i64) .lss x2 x1) fun v5 =>
 Prg.ite (asBool v5) (
 tv (pbin (.int .i64) .add x2 (I 1)) fun v6 =>
 rws (pelems 14 (TV.sl true 14 (chunks 14 1 [B false,I 0,TV.lit aD,B false,B false,TV.lit aD,I 2,I 0,I 0,I 0,TV.lit aD,v6,I 0,I 0]))) fun r7 =>
 tv (papp 14 w5 r7) fun v8 =>
 tv (pbin (.int .i64) .add x2 (I 1)) fun v9 =>
 jmp [0,0,1,0,1,1,1,1] (f14_0_S x0 x1 v9 y3 y4 v8)) (
 jmp [1,1,1,1,1] (f14_1_S x0 x1 y3 y4 w5))
def f14_1  (x0 x1 y2 y3 w4:TV):Prg TV :=
 rws (pelems 14 (TV.sl true 14 (chunks 14 1 [B false,I 0,TV.lit aD,B false,B false,TV.lit aD,I 1,I 0,I 0,I 0,TV.lit aD,I 0,I 0,I 0]))) fun r10 =>
 tv (papp 14 w4 r10) fun v11 =>
 call 38 [agg [y2,y3,frz v11]] fun v12 =>
 chk (ac zSl [v12] 0) (
 tv (plen (.slice 67) v12) fun v13 =>
 tv (pbin (.int .i64) .neq v13 (I 0)) fun v14 =>
 Prg.ite (asBool v14) (
 ret (B false)) (
 tv (pconv (.int .i64) x0) fun v15 =>
 tv (pbin (.int .i64) .rem v15 x1) fun v16 =>
 tv (pbin (.int .i64) .sub x1 (I 1)) fun v17 =>
 chk (TV.cK x1) (
 nat (slLen v11) fun n18 =>
 nat (af v17) fun n19 =>
 chk (Bool.and (slSize v11 14) (Nat.blt n19 n18)) (
 tvs (pel v11 n19) fun e20 =>
 chk (Bool.and (du Du e20 6) (ac Du [I 3,I 0,I 0,I 0,TV.lit aD,v16,x1,I 0] 0)) (
 tv (di [] v11 n19 6 [I 3,I 0,I 0,I 0,TV.lit aD,v16,x1,I 0]) fun v21 =>
 call 38 [agg [y2,y3,frz v21]] fun v22 =>
 chk (ac zSl [v22] 0) (
 tv (plen (.slice 67) v22) fun v23 =>
 tv (pbin (.int .i64) .neq v23 (I 1)) fun v24 =>
 Prg.ite (asBool v24) (
 ret (B false)) (
 nat (slLen v22) fun n25 =>
 nat (af (I 0)) fun n26 =>
 chk (Bool.and (slSize v22 2) (Nat.blt n26 n25)) (
 tvs (pel v22 n26) fun e27 =>
 chk (ac bm e27 0) (
 tv (pbin (.int .i64) .neq (nth hole e27 0) v16) fun v28 =>
 Prg.ite (asBool v28) (
 ret (B false)) (
 nat (slLen v22) fun n29 =>
 nat (af (I 0)) fun n30 =>
 chk (Bool.and (slSize v22 2) (Nat.blt n30 n29)) (
 tvs (pel v22 n30) fun e31 =>
 chk (ac zSl e31 1) (
 tv (bP [(n30,1)] v22) fun v32 =>
 tv (plen (.slice 3) v32) fun v33 =>
 tv (pbin (.int .i64) .sub x1 v16) fun v34 =>
 tv (pbin (.int .i64) .neq v33 v34) fun v35 =>
 Prg.ite (asBool v35) (
 ret (B false)) (
 jmp [0,0,1,0,1,1,1,1,1,1,1,1,1,1,1] (f14_2_S x1 v16 (I 0) y2 y3 v21))))))))))))))
def f14_2  (x0 x1 x2 y3 y4 w5:TV):Prg TV :=
 tv (pbin (.int .i64) .leq x2 x0) fun v36 =>
 Prg.ite (asBool v36) (
 tv (pbin (.int .i64) .geq x2 x1) fun v37 =>
 Prg.ite (asBool v37) (
 tv (pbin (.int .i64) .lss x2 x0) fun v38 =>
 Prg.ite (asBool v38) (
 jmp [1,1,0,0,1,0,0,1,0,1,1,1,1,1,1,1,1,1,1,1] (f14_3_S x0 x1 x2 (I 1) y3 y4 w5)) (
 jmp [1,1,0,0,1,0,0,1,0,1,1,1,1,1,1,1,1,1,1,1] (f14_3_S x0 x1 x2 (I 0) y3 y4 w5))) (
 jmp [1,1,0,0,1,0,0,1,0,1,1,1,1,1,1,1,1,1,1,1] (f14_3_S x0 x1 x2 (I 0) y3 y4 w5))) (
 ret (B true))
def f14_3  (x0 x1 x2 x3 y4 y5 w6:TV):Prg TV :=
 call 40 [agg [y4,y5,frz w6],x2] fun v39 =>
 chk (ac bm [v39] 0) (
 tv (pbin (.int .i64) .neq v39 x3) fun v40 =>
 Prg.ite (asBool v40) (
 ret (B false)) (
 tv (pbin (.int .i64) .add x2 (I 1)) fun v41 =>
 jmp [0,0,1,0,1,1,1,1,1,1,1,1,1,1,1] (f14_2_S x0 x1 v41 y4 y5 w6)))
theorem f14_MR (x0 x1:TV):bT prog 14 [x0,x1]=f14_M x0 x1:=by kernel_rfl
theorem f14_0_J  {x0 x1 x2 y3 y4 w5:TV} {r:TV} (h:aa prog 14 (f14_0 x0 x1 x2 y3 y4 w5) r):aa prog 14 (.jmp [0,0,1,0,1,1,1,1] (f14_0_S x0 x1 x2 y3 y4 w5)) r:=aa.jmp (by kernel_rfl) h
theorem f14_1_J  {x0 x1 y2 y3 w4:TV} {r:TV} (h:aa prog 14 (f14_1 x0 x1 y2 y3 w4) r):aa prog 14 (.jmp [1,1,1,1,1] (f14_1_S x0 x1 y2 y3 w4)) r:=aa.jmp (by kernel_rfl) h
theorem f14_2_J  {x0 x1 x2 y3 y4 w5:TV} {r:TV} (h:aa prog 14 (f14_2 x0 x1 x2 y3 y4 w5) r):aa prog 14 (.jmp [0,0,1,0,1,1,1,1,1,1,1,1,1,1,1] (f14_2_S x0 x1 x2 y3 y4 w5)) r:=aa.jmp (by kernel_rfl) h
theorem f14_3_J  {x0 x1 x2 x3 y4 y5 w6:TV} {r:TV} (h:aa prog 14 (f14_3 x0 x1 x2 x3 y4 y5 w6) r):aa prog 14 (.jmp [1,1,0,0,1,0,0,1,0,1,1,1,1,1,1,1,1,1,1,1] (f14_3_S x0 x1 x2 x3 y4 y5 w6)) r:=aa.jmp (by kernel_rfl) h
def f16_0_S  (x0 x1 x2:TV):ASt:=⟨[AV.tv x0,AV.tv x1,Jk,Jk,Jk,AV.tv x2] ++ Rj 20,Rz 50,[]⟩
def f16_M (x0 x1:TV):Prg TV :=
 tv (plen (.slice 3) x0) fun v0 =>
 tv (plen (.slice 3) x1) fun v1 =>
 tv (pbin (.int .i64) .neq v0 v1) fun v2 =>
 Prg.ite (asBool v2) (
 ret (B false)) (
 jmp [0,0,1,0,1,1] (f16_0_S x0 x1 (I 0)))
def f16_0  (x0 x1 x2:TV):Prg TV :=
 tv (plen (.slice 3) x0) fun v3 =>
 tv (pbin (.int .i64) .lss x2 v3) fun v4 =>
 Prg.ite (asBool v4) (
 tvs (pidx 1 x0 x2) fun e5 =>
 chk (Nat.blt 0 (List.length e5)) (
 tvs (pidx 1 x1 x2) fun e6 =>
 chk (Nat.blt 0 (List.length e6)) (
 tv (pbin (.int .i64) .neq (nth hole e5 0) (nth hole e6 0)) fun v7 =>
 Prg.ite (asBool v7) (
 ret (B false)) (
 tv (pbin (.int .i64) .add x2 (I 1)) fun v8 =>
 jmp [0,0,1,0,1,1] (f16_0_S x0 x1 v8))))) (
 ret (B true))
theorem f16_MR (x0 x1:TV):bT prog 16 [x0,x1]=f16_M x0 x1:=by kernel_rfl
theorem f16_0_J  {x0 x1 x2:TV} {r:TV} (h:aa prog 16 (f16_0 x0 x1 x2) r):aa prog 16 (.jmp [0,0,1,0,1,1] (f16_0_S x0 x1 x2)) r:=aa.jmp (by kernel_rfl) h
def f17_0_S  (y0 y1 y2 w3:TV):ASt:=⟨[Jk,Jk,Pt 0,Jk,Jk,Jk,Sr 1] ++ Rj 24,[some (BC.cells [CA.t y0,CA.t y1,CA.t y2]),Tr w3] ++ Rz 53,[]⟩
def f17_1_S  (x0 x1 w2 y3 y4 y5:TV):ASt:=⟨[Sr 0,AV.clo 44 [CA.ptr 1 0]] ++ Rj 5 ++ [AV.tv x0,AV.tv x1] ++ Rj 10,[Tr w2,some (BC.cells [CA.t y3,CA.t y4,CA.t y5])] ++ Rz 114,(Rj 31 ++ [Sr 0,AV.clo 44 [CA.ptr 1 0]] ++ Rj 40)⟩
def f17_2_S  (x0 x1 w2 y3 y4 y5:TV):ASt:=⟨[Sr 0,AV.clo 44 [CA.ptr 1 0],Jk,Jk,Jk,AV.tv x0,AV.tv x1] ++ Rj 35,[Tr w2,some (BC.cells [CA.t y3,CA.t y4,CA.t y5])] ++ Rz 95,Rj 31⟩
def f17_3_S  (x0 w1:TV):ASt:=⟨[Sr 0] ++ Rj 4 ++ [AV.tv x0] ++ Rj 36,[Tr w1] ++ Rz 96,Rj 31⟩
def f17_M (x0 x1:TV):Prg TV :=
 chk (TV.isAgg x0 3) (
 call 41 [agg [cell x0 0,cell x0 1,cell x0 2],x1] fun v0 =>
 chk (ac gG [v0] 0) (
 tv (pun .not v0) fun v1 =>
 Prg.ite (asBool v1) (
 chk true (
 ret (TV.lit aD))) (
 tvs (pidx 14 (cell x0 2) x1) fun e2 =>
 chk (Nat.ble 14 (List.length e2)) (
 call 42 [agg [nth hole e2 0,nth hole e2 1,nth hole e2 2,nth hole e2 3,nth hole e2 4,nth hole e2 5,nth hole e2 6,nth hole e2 7,nth hole e2 8,nth hole e2 9,nth hole e2 10,nth hole e2 11,nth hole e2 12,nth hole e2 13]] fun v3 =>
 chk (ac zSl [v3] 0) (
 tv (pbin (.int .i64) .eql (nth hole e2 6) (I 4)) fun v4 =>
 Prg.ite (asBool v4) (
 rws (pelems 1 (TV.sl true 1 (chunks 1 1 [nth hole e2 13]))) fun r5 =>
 tv (papp 1 v3 (mo r5)) fun v6 =>
 jmp [1,1,1,1,1] (f17_0_S (cell x0 0) (cell x0 1) (cell x0 2) v6)) (
 jmp [1,1,1,1,1] (f17_0_S (cell x0 0) (cell x0 1) (cell x0 2) v3)))))))
def f17_0  (y0 y1 y2 w3:TV):Prg TV :=
 tv (plen (.slice 3) w3) fun v7 =>
 jmp [0,0,1,0,1,6,0,1,6,0,1,1,1,1,1] (f17_1_S v7 (I 0) w3 y0 y1 y2)
def f17_1  (x0 x1 w2 y3 y4 y5:TV):Prg TV :=
 tv (pbin (.int .i64) .lss x1 x0) fun v8 =>
 Prg.ite (asBool v8) (
 nat (slLen w2) fun n9 =>
 nat (af x1) fun n10 =>
 chk (Bool.and (slSize w2 1) (Nat.blt n10 n9)) (
 tvs (pel w2 n10) fun e11 =>
 chk (ac bm e11 0) (
 call 41 [agg [y3,y4,y5],nth hole e11 0] fun v12 =>
 chk (ac gG [v12] 0) (
 tv (pun .not v12) fun v13 =>
 Prg.ite (asBool v13) (
 tv (pbin (.int .i64) .eql x1 (TV.lit (Value.int IntKind.i64 (-1)))) fun v14 =>
 Prg.ite (asBool v14) (
 chk (bG w2) (
 ret w2)) (
 tv (pbin (.int .i64) .add x1 (I 1)) fun v15 =>
 jmp [0,0,1,0,1,1,1,6,0,1,1,1,1,1] (f17_2_S x1 v15 w2 y3 y4 y5))) (
 tv (pbin (.int .i64) .add x1 (I 1)) fun v16 =>
 jmp [0,0,1,0,1,6,0,1,6,0,1,1,1,1,1] (f17_1_S x0 v16 w2 y3 y4 y5)))))) (
 tv (pbin (.int .i64) .eql (TV.lit (Value.int IntKind.i64 (-1))) (TV.lit (Value.int IntKind.i64 (-1)))) fun v17 =>
 Prg.ite (asBool v17) (
 chk (bG w2) (
 ret w2)) (
 tv (pbin (.int .i64) .add (TV.lit (Value.int IntKind.i64 (-1))) (I 1)) fun v18 =>
 jmp [0,0,1,0,1,1,1,6,0,1,1,1,1,1] (f17_2_S (TV.lit (Value.int IntKind.i64 (-1))) v18 w2 y3 y4 y5)))
def f17_2  (x0 x1 w2 y3 y4 y5:TV):Prg TV :=
 tv (plen (.slice 3) w2) fun v19 =>
 tv (pbin (.int .i64) .lss x1 v19) fun v20 =>
 Prg.ite (asBool v20) (
 nat (slLen w2) fun n21 =>
 nat (af x1) fun n22 =>
 chk (Bool.and (slSize w2 1) (Nat.blt n22 n21)) (
 tvs (pel w2 n22) fun e23 =>
 chk (ac bm e23 0) (
 call 41 [agg [y3,y4,y5],nth hole e23 0] fun v24 =>
 chk (ac gG [v24] 0) (
 tv (pun .not v24) fun v25 =>
 tv (pun .not v25) fun v26 =>
 Prg.ite (asBool v26) (
 nat (slLen w2) fun n27 =>
 nat (af x0) fun n28 =>
 chk (Bool.and (slSize w2 1) (Nat.blt n28 n27)) (
 tvs (pel w2 n28) fun e29 =>
 chk (ac bm e29 0) (
 tv (di [] w2 n28 0 [nth hole e23 0]) fun v30 =>
 tv (pbin (.int .i64) .add x0 (I 1)) fun v31 =>
 tv (pbin (.int .i64) .add x1 (I 1)) fun v32 =>
 jmp [0,0,1,0,1,1,1,6,0,1,1,1,1,1] (f17_2_S v31 v32 v30 y3 y4 y5)))) (
 tv (pbin (.int .i64) .add x1 (I 1)) fun v33 =>
 jmp [0,0,1,0,1,1,1,6,0,1,1,1,1,1] (f17_2_S x0 v33 w2 y3 y4 y5)))))) (
 jmp [1,1,1,1,6,0,1,1,1,1,1] (f17_3_S x0 w2))
def f17_3  (x0 w1:TV):Prg TV :=
 nat (slLen w1) fun n34 =>
 nat (af x0) fun n35 =>
 chk (Bool.and (Bool.and (slSize w1 1) (Nat.ble (Option.getD (some n35) 0) (Option.getD none n34))) (Nat.ble (Option.getD none n34) n34)) (
 tv (pclear 1 [I 0] (Option.getD (some n35) 0) ((Option.getD none n34) - (Option.getD (some n35) 0)) w1) fun v36 =>
 nat (slLen v36) fun n37 =>
 nat (af x0) fun n38 =>
 chk (Bool.and (Bool.and (slSize v36 1) (Nat.ble 0 (Option.getD (some n38) n37))) (Nat.ble (Option.getD (some n38) n37) n37)) (
 tv (fq 0 ((Option.getD (some n38) n37) - 0) v36) fun v39 =>
 chk (bG v39) (
 ret v39)))
theorem f17_MR (x0 x1:TV):bT prog 17 [x0,x1]=f17_M x0 x1:=by kernel_rfl
theorem f17_0_J  {y0 y1 y2 w3:TV} {r:TV} (h:aa prog 17 (f17_0 y0 y1 y2 w3) r):aa prog 17 (.jmp [1,1,1,1,1] (f17_0_S y0 y1 y2 w3)) r:=aa.jmp (by kernel_rfl) h
theorem f17_1_J  {x0 x1 w2 y3 y4 y5:TV} {r:TV} (h:aa prog 17 (f17_1 x0 x1 w2 y3 y4 y5) r):aa prog 17 (.jmp [0,0,1,0,1,6,0,1,6,0,1,1,1,1,1] (f17_1_S x0 x1 w2 y3 y4 y5)) r:=aa.jmp (by kernel_rfl) h
theorem f17_2_J  {x0 x1 w2 y3 y4 y5:TV} {r:TV} (h:aa prog 17 (f17_2 x0 x1 w2 y3 y4 y5) r):aa prog 17 (.jmp [0,0,1,0,1,1,1,6,0,1,1,1,1,1] (f17_2_S x0 x1 w2 y3 y4 y5)) r:=aa.jmp (by kernel_rfl) h
theorem f17_3_J  {x0 w1:TV} {r:TV} (h:aa prog 17 (f17_3 x0 w1) r):aa prog 17 (.jmp [1,1,1,1,6,0,1,1,1,1,1] (f17_3_S x0 w1)) r:=aa.jmp (by kernel_rfl) h
end Go.Ab.Q12
end
section
set_option maxRecDepth 100000
namespace Go.Ab.Q12
open Go Go.Ab Go.Proofs
open Go.Ab.TV (hole cell comp isSl isSc isTup cellsL tup agg)
open Go.Ab.Prg (tv tvs rws nat chk call jmp ret)
def f24_0_S  (w0 y1 y2 y3 w4 w5 w6:TV):ASt:=⟨[Jk,Sr 0] ++ Rj 5 ++ [Pt 1] ++ Rj 22,[Tr w0,some (BC.cells [CA.fn1 48 2,CA.sref 3 0 [],CA.sref 4 0 [],CA.sref 5 0 []]),some (BC.cells [CA.t y1,CA.t y2,CA.t y3]),Tr w4,Tr w5,Tr w6] ++ Rz 65,Rj 17⟩
def f24_1_S  (x0 x1 w2 y3 y4 y5 w6 w7 w8:TV):ASt:=⟨Rj 7 ++ [Pt 0] ++ Rj 6 ++ [Sr 1,AV.tv x0,AV.tv x1] ++ Rj 13,[some (BC.cells [CA.fn1 48 2,CA.sref 3 0 [],CA.sref 4 0 [],CA.sref 5 0 []]),Tr w2,some (BC.cells [CA.t y3,CA.t y4,CA.t y5]),Tr w6,Tr w7,Tr w8] ++ Rz 65,Rj 17⟩
def f24_2_S  (x0 x1 w2 y3 y4 y5 w6 w7 w8:TV):ASt:=⟨Rj 7 ++ [Pt 0] ++ Rj 6 ++ [Sr 1,AV.tv x0,AV.tv x1] ++ Rj 13,[some (BC.cells [CA.fn1 48 2,CA.sref 3 0 [],CA.sref 4 0 [],CA.sref 5 0 []]),Tr w2,some (BC.cells [CA.t y3,CA.t y4,CA.t y5]),Tr w6,Tr w7,Tr w8] ++ Rz 65,Rj 17⟩
def f24_3_S  (x0 x1 w2:TV):ASt:=⟨[Sr 0,Jk,AV.tv x0,AV.tv x1] ++ Rj 24,[Tr w2] ++ Rz 68,([Jk,Jk,Jk,Sr 0] ++ Rj 13)⟩
def f24_M (x0:TV):Prg TV :=
 chk (TV.isAgg x0 3) (
 tv (plen (.slice 59) (cell x0 2)) fun v0 =>
 tv (pbin (.int .i64) .eql v0 (I 0)) fun v1 =>
 Prg.ite (asBool v1) (
 chk true (
 ret (TV.lit aD))) (
 tv (plen (.slice 59) (cell x0 2)) fun v2 =>
 nat (af v2) fun n3 =>
 nat (af v2) fun n4 =>
 chk (Bool.and (Nat.ble n3 n4) (Nat.ble n4 4294967296)) (
 chk true (
 chk true (
 jmp [1,1,12,0,1,1] (f24_0_S (TV.sl true 1 (chunks 1 1 [I 0])) (cell x0 0) (cell x0 1) (cell x0 2) (TV.sl true 1 (List.replicate n3 [B false])) (TV.lit aD) (TV.lit aD)))))))
def f24_0  (w0 y1 y2 y3 w4 w5 w6:TV):Prg TV :=
 tv (plen (.slice 3) w0) fun v5 =>
 jmp [0,0,1,0,1,1,12,0,1,1] (f24_1_S v5 (I 0) w0 y1 y2 y3 w4 (dD w5) w6)
def f24_1  (x0 x1 w2 y3 y4 y5 w6 w7 w8:TV):Prg TV :=
 tv (pbin (.int .i64) .lss x1 x0) fun v6 =>
 Prg.ite (asBool v6) (
 nat (slLen w2) fun n7 =>
 nat (af x1) fun n8 =>
 chk (Bool.and (slSize w2 1) (Nat.blt n8 n7)) (
 tvs (pel w2 n8) fun e9 =>
 chk (ac bm e9 0) (
 nat (slLen w6) fun n10 =>
 nat (af (nth hole e9 0)) fun n11 =>
 chk (Bool.and (slSize w6 1) (Nat.blt n11 n10)) (
 tvs (pel w6 n11) fun e12 =>
 chk (ac gG e12 0) (
 tv (pun .not (nth hole e12 0)) fun v13 =>
 Prg.ite (asBool v13) (
 nat (slLen w6) fun n14 =>
 nat (af (nth hole e9 0)) fun n15 =>
 chk (Bool.and (slSize w6 1) (Nat.blt n15 n14)) (
 tvs (pel w6 n15) fun e16 =>
 chk (ac gG e16 0) (
 tv (di [] w6 n15 0 [B true]) fun v17 =>
 call 48 [uv (nth hole e9 0),agg [y3,y4,y5]] fun v18 =>
 chk (ac zSl [v18] 0) (
 rws (pelems 2 (TV.sl true 2 (chunks 2 1 [nth hole e9 0,v18]))) fun r19 =>
 tv (papp 2 w7 r19) fun v20 =>
 jmp [0,0,1,1,0,0,1,1,0,0,1,0,1,1,12,0,1,1] (f24_2_S x0 x1 w2 y3 y4 y5 v17 (dD v20) w8))))) (
 jmp [0,0,1,1,0,0,1,1,0,0,1,0,1,1,12,0,1,1] (f24_2_S x0 x1 w2 y3 y4 y5 w6 (dD w7) w8))))))) (
 tv (plen (.slice 3) w8) fun v21 =>
 tv (pbin (.int .i64) .sub v21 (I 1)) fun v22 =>
 jmp [0,0,1,4,0,1,1,1] (f24_3_S (I 0) v22 w8))
def f24_2  (x0 x1 w2 y3 y4 y5 w6 w7 w8:TV):Prg TV :=
 tv (plen (.slice 126) w7) fun v23 =>
 tv (pbin (.int .i64) .gtr v23 (I 0)) fun v24 =>
 Prg.ite (asBool v24) (
 tv (plen (.slice 126) w7) fun v25 =>
 tv (pbin (.int .i64) .sub v25 (I 1)) fun v26 =>
 nat (slLen w7) fun n27 =>
 nat (af v26) fun n28 =>
 chk (Bool.and (slSize w7 2) (Nat.blt n28 n27)) (
 tvs (pel w7 n28) fun e29 =>
 chk (ac zSl e29 1) (
 tv (bP [(n28,1)] w7) fun v30 =>
 tv (plen (.slice 3) v30) fun v31 =>
 tv (pbin (.int .i64) .eql v31 (I 0)) fun v32 =>
 Prg.ite (asBool v32) (
 tv (plen (.slice 126) w7) fun v33 =>
 tv (pbin (.int .i64) .sub v33 (I 1)) fun v34 =>
 nat (slLen w7) fun n35 =>
 nat (af v34) fun n36 =>
 chk (Bool.and (slSize w7 2) (Nat.blt n36 n35)) (
 tvs (pel w7 n36) fun e37 =>
 chk (ac bm e37 0) (
 rws (pelems 1 (TV.sl true 1 (chunks 1 1 [nth hole e37 0]))) fun r38 =>
 tv (papp 1 w8 (mo r38)) fun v39 =>
 nat (slLen w7) fun n40 =>
 nat (af v34) fun n41 =>
 chk (Bool.and (Bool.and (slSize w7 2) (Nat.ble 0 (Option.getD (some n41) n40))) (Nat.ble (Option.getD (some n41) n40) n40)) (
 tv (fq 0 ((Option.getD (some n41) n40) - 0) w7) fun v42 =>
 jmp [0,0,1,1,0,0,1,1,0,0,1,0,1,1,12,0,1,1] (f24_2_S x0 x1 w2 y3 y4 y5 w6 (dD v42) v39))))) (
 tvs (pel w7 n28) fun e43 =>
 chk (ac zSl e43 1) (
 tv (bP [(n28,1)] w7) fun v44 =>
 nat (slLen v44) fun n45 =>
 nat (af (I 0)) fun n46 =>
 chk (Bool.and (slSize v44 1) (Nat.blt n46 n45)) (
 tv (bP [(n28,1)] w7) fun v47 =>
 tvs (pel v47 n46) fun e48 =>
 chk (ac bm e48 0) (
 tvs (pel w7 n28) fun e49 =>
 chk (ac zSl e49 1) (
 tv (bP [(n28,1)] w7) fun v50 =>
 nat (slLen v50) fun n51 =>
 nat (af (I 1)) fun n52 =>
 chk (Bool.and (Bool.and (slSize v50 1) (Nat.ble (Option.getD (some n52) 0) (Option.getD none n51))) (Nat.ble (Option.getD none n51) n51)) (
 tv (bP [(n28,1)] w7) fun v53 =>
 tv (fq (Option.getD (some n52) 0) ((Option.getD none n51) - (Option.getD (some n52) 0)) v53) fun v54 =>
 chk (TV.gT v54) (
 tvs (pel w7 n28) fun e55 =>
 chk (Bool.and (du zSl e55 1) (ac zSl [v54] 0)) (
 tv (di [] w7 n28 1 [v54]) fun v56 =>
 nat (slLen w6) fun n57 =>
 nat (af (nth hole e48 0)) fun n58 =>
 chk (Bool.and (slSize w6 1) (Nat.blt n58 n57)) (
 tvs (pel w6 n58) fun e59 =>
 chk (ac gG e59 0) (
 tv (pun .not (nth hole e59 0)) fun v60 =>
 Prg.ite (asBool v60) (
 nat (slLen w6) fun n61 =>
 nat (af (nth hole e48 0)) fun n62 =>
 chk (Bool.and (slSize w6 1) (Nat.blt n62 n61)) (
 tvs (pel w6 n62) fun e63 =>
 chk (ac gG e63 0) (
 tv (di [] w6 n62 0 [B true]) fun v64 =>
 call 48 [uv (nth hole e48 0),agg [y3,y4,y5]] fun v65 =>
 chk (ac zSl [v65] 0) (
 rws (pelems 2 (TV.sl true 2 (chunks 2 1 [nth hole e48 0,v65]))) fun r66 =>
 tv (papp 2 v56 r66) fun v67 =>
 jmp [0,0,1,1,0,0,1,1,0,0,1,0,1,1,12,0,1,1] (f24_2_S x0 x1 w2 y3 y4 y5 v64 (dD v67) w8))))) (
 jmp [0,0,1,1,0,0,1,1,0,0,1,0,1,1,12,0,1,1] (f24_2_S x0 x1 w2 y3 y4 y5 w6 (dD v56) w8))))))))))))))) (
 tv (pbin (.int .i64) .add x1 (I 1)) fun v68 =>
 jmp [0,0,1,0,1,1,12,0,1,1] (f24_1_S x0 v68 w2 y3 y4 y5 w6 (dD w7) w8))
def f24_3  (x0 x1 w2:TV):Prg TV :=
 tv (pbin (.int .i64) .lss x0 x1) fun v69 =>
 Prg.ite (asBool v69) (
 nat (slLen w2) fun n70 =>
 nat (af x1) fun n71 =>
 chk (Bool.and (slSize w2 1) (Nat.blt n71 n70)) (
 tvs (pel w2 n71) fun e72 =>
 chk (ac bm e72 0) (
 nat (slLen w2) fun n73 =>
 nat (af x0) fun n74 =>
 chk (Bool.and (slSize w2 1) (Nat.blt n74 n73)) (
 tvs (pel w2 n74) fun e75 =>
 chk (ac bm e75 0) (
 nat (slLen w2) fun n76 =>
 nat (af x0) fun n77 =>
 chk (Bool.and (slSize w2 1) (Nat.blt n77 n76)) (
 tvs (pel w2 n77) fun e78 =>
 chk (ac bm e78 0) (
 tv (di [] w2 n77 0 [nth hole e72 0]) fun v79 =>
 nat (slLen v79) fun n80 =>
 nat (af x1) fun n81 =>
 chk (Bool.and (slSize v79 1) (Nat.blt n81 n80)) (
 tvs (pel v79 n81) fun e82 =>
 chk (ac bm e82 0) (
 tv (di [] v79 n81 0 [nth hole e75 0]) fun v83 =>
 tv (pbin (.int .i64) .add x0 (I 1)) fun v84 =>
 tv (pbin (.int .i64) .sub x1 (I 1)) fun v85 =>
 jmp [0,0,1,4,0,1,1,1] (f24_3_S v84 v85 v83)))))))))) (
 chk (bG w2) (
 ret w2))
theorem f24_MR (x0:TV):bT prog 24 [x0]=f24_M x0:=by kernel_rfl
theorem f24_0_J  {w0 y1 y2 y3 w4 w5 w6:TV} {r:TV} (h:aa prog 24 (f24_0 w0 y1 y2 y3 w4 w5 w6) r):aa prog 24 (.jmp [1,1,12,0,1,1] (f24_0_S w0 y1 y2 y3 w4 w5 w6)) r:=aa.jmp (by kernel_rfl) h
theorem f24_1_J  {x0 x1 w2 y3 y4 y5 w6 w7 w8:TV} {r:TV} (h:aa prog 24 (f24_1 x0 x1 w2 y3 y4 y5 w6 w7 w8) r):aa prog 24 (.jmp [0,0,1,0,1,1,12,0,1,1] (f24_1_S x0 x1 w2 y3 y4 y5 w6 w7 w8)) r:=aa.jmp (by kernel_rfl) h
theorem f24_2_J  {x0 x1 w2 y3 y4 y5 w6 w7 w8:TV} {r:TV} (h:aa prog 24 (f24_2 x0 x1 w2 y3 y4 y5 w6 w7 w8) r):aa prog 24 (.jmp [0,0,1,1,0,0,1,1,0,0,1,0,1,1,12,0,1,1] (f24_2_S x0 x1 w2 y3 y4 y5 w6 w7 w8)) r:=aa.jmp (by kernel_rfl) h
theorem f24_3_J  {x0 x1 w2:TV} {r:TV} (h:aa prog 24 (f24_3 x0 x1 w2) r):aa prog 24 (.jmp [0,0,1,4,0,1,1,1] (f24_3_S x0 x1 w2)) r:=aa.jmp (by kernel_rfl) h
def f31_0_S  (y0 y1 y2 w3 w4 w5:TV):ASt:=⟨[Jk,Pt 0,Jk,Pt 1] ++ Rj 44,[some (BC.cells [CA.t y0,CA.t y1,CA.t y2]),some (BC.cells [CA.sref 2 0 [],CA.sref 2 1 [],CA.sref 2 2 []]),some (BC.tree [w3,w4,w5])] ++ Rz 69,[]⟩
def f31_1_S  (x0 x1 y2 y3 y4 w5 w6 w7:TV):ASt:=⟨[Jk,Pt 0,Jk,AV.tv x0,AV.tv x1] ++ Rj 28,[some (BC.cells [CA.sref 3 0 [],CA.sref 3 1 [],CA.sref 3 2 []]),some (BC.cells [CA.t y2,CA.t y3,CA.t y4]),some (BC.cells [CA.sref 3 0 [],CA.sref 3 1 [],CA.sref 3 2 []]),some (BC.tree [w5,w6,w7])] ++ Rz 101,([Jk,Pt 1,Jk,Pt 2] ++ Rj 44)⟩
def f31_2_S  (y0 y1 y2 w3 w4 w5:TV):ASt:=⟨[Jk,Pt 0,Jk,Pt 1] ++ Rj 44,[some (BC.cells [CA.t y0,CA.t y1,CA.t y2]),some (BC.cells [CA.sref 2 0 [],CA.sref 2 1 [],CA.sref 2 2 []]),some (BC.tree [w3,w4,w5])] ++ Rz 69,[]⟩
def f31_3_S  (x0 x1 w2 w3 w4 w5:TV):ASt:=⟨[Jk,Jk,Jk,Pt 0,Sr 1] ++ Rj 11 ++ [AV.tv x0,AV.tv x1] ++ Rj 30,[some (BC.cells [CA.sref 2 0 [],CA.sref 2 1 [],CA.sref 2 2 []]),Tr w2,some (BC.tree [w3,w4,w5])] ++ Rz 69,[]⟩
def f31_4_S  (w0 w1 w2 w3:TV):ASt:=⟨[Jk,Jk,Jk,Pt 0,Sr 1] ++ Rj 43,[some (BC.cells [CA.sref 2 0 [],CA.sref 2 1 [],CA.sref 2 2 []]),Tr w0,some (BC.tree [w1,w2,w3])] ++ Rz 69,[]⟩
def f31_5_S  (x0 w1 w2 w3 w4:TV):ASt:=⟨[Jk,Jk,Jk,Pt 0,Sr 1,Jk,AV.tv x0] ++ Rj 41,[some (BC.cells [CA.sref 2 0 [],CA.sref 2 1 [],CA.sref 2 2 []]),Tr w1,some (BC.tree [w2,w3,w4])] ++ Rz 69,[]⟩
def f31_M (x0:TV):Prg TV :=
 chk (TV.isAgg x0 3) (
 call 55 [agg [cell x0 0,cell x0 1,cell x0 2]] fun v0 =>
 chk (Bool.and (TV.isAgg v0 3) (ac z84 (cellsL true v0) 0)) (
 jmp [0,0,0,1,1] (f31_0_S (cell x0 0) (cell x0 1) (cell x0 2) (cell v0 0) (cell v0 1) (cell v0 2))))
def f31_0  (y0 y1 y2 w3 w4 w5:TV):Prg TV :=
 jmp [0,0,1,0,1,1,4,0,0,0,0,0,1,1] (f31_1_S (B false) (I 1) y0 y1 y2 w3 w4 w5)
def f31_1  (x0 x1 y2 y3 y4 w5 w6 w7:TV):Prg TV :=
 tv (plen (.slice 3) w7) fun v1 =>
 tv (pbin (.int .i64) .lss x1 v1) fun v2 =>
 Prg.ite (asBool v2) (
 nat (slLen w6) fun n3 =>
 nat (af x1) fun n4 =>
 chk (Bool.and (slSize w6 1) (Nat.blt n4 n3)) (
 tvs (pel w6 n4) fun e5 =>
 chk (ac zSl e5 0) (
 tv (bP [(n4,0)] w6) fun v6 =>
 call 75 [agg [frz w5,frz w6,frz w7],frz v6] fun v7 =>
 chk (ac bm [v7] 0) (
 nat (slLen w7) fun n8 =>
 nat (af x1) fun n9 =>
 chk (Bool.and (slSize w7 1) (Nat.blt n9 n8)) (
 tvs (pel w7 n9) fun e10 =>
 chk (ac bm e10 0) (
 tv (pbin (.int .i64) .neq v7 (nth hole e10 0)) fun v11 =>
 Prg.ite (asBool v11) (
 nat (slLen w7) fun n12 =>
 nat (af x1) fun n13 =>
 chk (Bool.and (slSize w7 1) (Nat.blt n13 n12)) (
 tvs (pel w7 n13) fun e14 =>
 chk (ac bm e14 0) (
 tv (di [] w7 n13 0 [v7]) fun v15 =>
 tv (pbin (.int .i64) .add x1 (I 1)) fun v16 =>
 jmp [0,0,1,0,1,1,4,0,0,0,0,0,1,1] (f31_1_S (B true) v16 y2 y3 y4 w5 w6 v15)))) (
 tv (pbin (.int .i64) .add x1 (I 1)) fun v17 =>
 jmp [0,0,1,0,1,1,4,0,0,0,0,0,1,1] (f31_1_S x0 v17 y2 y3 y4 w5 w6 w7)))))))) (
 Prg.ite (asBool x0) (
 jmp [0,0,0,1,1] (f31_0_S y2 y3 y4 w5 w6 w7)) (
 jmp [1,1,1] (f31_2_S y2 y3 y4 w5 w6 w7)))
def f31_2  (y0 y1 y2 w3 w4 w5:TV):Prg TV :=
 tv (plen (.slice 59) y2) fun v18 =>
 nat (af v18) fun n19 =>
 nat (af v18) fun n20 =>
 chk (Bool.and (Nat.ble n19 n20) (Nat.ble n20 4294967296)) (
 tv (plen (.slice 3) (TV.sl true 1 (List.replicate n19 [I 0]))) fun v21 =>
 jmp [0,0,1,0,1,1,1,1] (f31_3_S v21 (I 0) (TV.sl true 1 (List.replicate n19 [I 0])) w3 w4 w5))
def f31_3  (x0 x1 w2 w3 w4 w5:TV):Prg TV :=
 tv (pbin (.int .i64) .lss x1 x0) fun v22 =>
 Prg.ite (asBool v22) (
 nat (slLen w2) fun n23 =>
 nat (af x1) fun n24 =>
 chk (Bool.and (slSize w2 1) (Nat.blt n24 n23)) (
 tvs (pel w2 n24) fun e25 =>
 chk (ac bm e25 0) (
 tv (di [] w2 n24 0 [TV.lit (Value.int IntKind.i64 (-1))]) fun v26 =>
 tv (pbin (.int .i64) .add x1 (I 1)) fun v27 =>
 jmp [0,0,1,0,1,1,1,1] (f31_3_S x0 v27 v26 w3 w4 w5)))) (
 jmp [1,1,1,1,1] (f31_4_S w2 w3 w4 w5))
def f31_4  (w0 w1 w2 w3:TV):Prg TV :=
 jmp [0,0,1,0,1,1,1,1,1] (f31_5_S (I 1) w0 w1 w2 w3)
def f31_5  (x0 w1 w2 w3 w4:TV):Prg TV :=
 tv (plen (.slice 3) w2) fun v28 =>
 tv (pbin (.int .i64) .lss x0 v28) fun v29 =>
 Prg.ite (asBool v29) (
 nat (slLen w2) fun n30 =>
 nat (af x0) fun n31 =>
 chk (Bool.and (slSize w2 1) (Nat.blt n31 n30)) (
 tvs (pel w2 n31) fun e32 =>
 chk (ac bm e32 0) (
 nat (slLen w4) fun n33 =>
 nat (af x0) fun n34 =>
 chk (Bool.and (slSize w4 1) (Nat.blt n34 n33)) (
 tvs (pel w4 n34) fun e35 =>
 chk (ac bm e35 0) (
 nat (slLen w2) fun n36 =>
 nat (af (nth hole e35 0)) fun n37 =>
 chk (Bool.and (slSize w2 1) (Nat.blt n37 n36)) (
 tvs (pel w2 n37) fun e38 =>
 chk (ac bm e38 0) (
 nat (slLen w1) fun n39 =>
 nat (af (nth hole e32 0)) fun n40 =>
 chk (Bool.and (slSize w1 1) (Nat.blt n40 n39)) (
 tvs (pel w1 n40) fun e41 =>
 chk (ac bm e41 0) (
 tv (di [] w1 n40 0 [nth hole e38 0]) fun v42 =>
 tv (pbin (.int .i64) .add x0 (I 1)) fun v43 =>
 jmp [0,0,1,0,1,1,1,1,1] (f31_5_S v43 v42 w2 w3 w4)))))))))) (
 chk (bG w1) (
 ret w1))
theorem f31_MR (x0:TV):bT prog 31 [x0]=f31_M x0:=by kernel_rfl
theorem f31_0_J  {y0 y1 y2 w3 w4 w5:TV} {r:TV} (h:aa prog 31 (f31_0 y0 y1 y2 w3 w4 w5) r):aa prog 31 (.jmp [0,0,0,1,1] (f31_0_S y0 y1 y2 w3 w4 w5)) r:=aa.jmp (by kernel_rfl) h
theorem f31_1_J  {x0 x1 y2 y3 y4 w5 w6 w7:TV} {r:TV} (h:aa prog 31 (f31_1 x0 x1 y2 y3 y4 w5 w6 w7) r):aa prog 31 (.jmp [0,0,1,0,1,1,4,0,0,0,0,0,1,1] (f31_1_S x0 x1 y2 y3 y4 w5 w6 w7)) r:=aa.jmp (by kernel_rfl) h
theorem f31_2_J  {y0 y1 y2 w3 w4 w5:TV} {r:TV} (h:aa prog 31 (f31_2 y0 y1 y2 w3 w4 w5) r):aa prog 31 (.jmp [1,1,1] (f31_2_S y0 y1 y2 w3 w4 w5)) r:=aa.jmp (by kernel_rfl) h
theorem f31_3_J  {x0 x1 w2 w3 w4 w5:TV} {r:TV} (h:aa prog 31 (f31_3 x0 x1 w2 w3 w4 w5) r):aa prog 31 (.jmp [0,0,1,0,1,1,1,1] (f31_3_S x0 x1 w2 w3 w4 w5)) r:=aa.jmp (by kernel_rfl) h
theorem f31_4_J  {w0 w1 w2 w3:TV} {r:TV} (h:aa prog 31 (f31_4 w0 w1 w2 w3) r):aa prog 31 (.jmp [1,1,1,1,1] (f31_4_S w0 w1 w2 w3)) r:=aa.jmp (by kernel_rfl) h
theorem f31_5_J  {x0 w1 w2 w3 w4:TV} {r:TV} (h:aa prog 31 (f31_5 x0 w1 w2 w3 w4) r):aa prog 31 (.jmp [0,0,1,0,1,1,1,1,1] (f31_5_S x0 w1 w2 w3 w4)) r:=aa.jmp (by kernel_rfl) h
def f37_M:Prg TV :=
 call 38 [agg [I 0,I 1,frz (TV.sl true 14 (chunks 14 3 [B false,I 0,TV.lit aD,B false,B false,TV.lit aD,I 2,I 0,I 0,I 0,TV.lit aD,I 1,I 0,I 0,B false,I 0,TV.lit aD,B false,B false,TV.lit aD,I 3,I 0,I 0,I 0,TV.lit aD,I 1,I 2,I 0,B false,I 0,TV.lit aD,B false,B false,TV.lit aD,I 1,I 0,I 0,I 0,TV.lit aD,I 0,I 0,I 0]))]] fun v0 =>
 chk (ac zSl [v0] 0) (
 tv (plen (.slice 67) v0) fun v1 =>
 tv (pbin (.int .i64) .eql v1 (I 1)) fun v2 =>
 Prg.ite (asBool v2) (
 nat (slLen v0) fun n3 =>
 nat (af (I 0)) fun n4 =>
 chk (Bool.and (slSize v0 2) (Nat.blt n4 n3)) (
 tvs (pel v0 n4) fun e5 =>
 chk (ac bm e5 0) (
 tv (pbin (.int .i64) .eql (nth hole e5 0) (I 1)) fun v6 =>
 Prg.ite (asBool v6) (
 nat (slLen v0) fun n7 =>
 nat (af (I 0)) fun n8 =>
 chk (Bool.and (slSize v0 2) (Nat.blt n8 n7)) (
 tvs (pel v0 n8) fun e9 =>
 chk (ac zSl e9 1) (
 tv (bP [(n8,1)] v0) fun v10 =>
 call 16 [frz v10,frz (TV.sl true 1 (chunks 1 1 [I 1]))] fun v11 =>
 chk (ac gG [v11] 0) (
 Prg.ite (asBool v11) (
 call 40 [agg [I 0,I 1,frz (TV.sl true 14 (chunks 14 3 [B false,I 0,TV.lit aD,B false,B false,TV.lit aD,I 2,I 0,I 0,I 0,TV.lit aD,I 1,I 0,I 0,B false,I 0,TV.lit aD,B false,B false,TV.lit aD,I 3,I 0,I 0,I 0,TV.lit aD,I 1,I 2,I 0,B false,I 0,TV.lit aD,B false,B false,TV.lit aD,I 1,I 0,I 0,I 0,TV.lit aD,I 0,I 0,I 0]))],I 1] fun v12 =>
 chk (ac bm [v12] 0) (
 tv (pbin (.int .i64) .eql v12 (I 1)) fun v13 =>
 Prg.ite (asBool v13) (
 call 40 [agg [I 0,I 1,frz (TV.sl true 14 (chunks 14 3 [B false,I 0,TV.lit aD,B false,B false,TV.lit aD,I 2,I 0,I 0,I 0,TV.lit aD,I 1,I 0,I 0,B false,I 0,TV.lit aD,B false,B false,TV.lit aD,I 3,I 0,I 0,I 0,TV.lit aD,I 1,I 2,I 0,B false,I 0,TV.lit aD,B false,B false,TV.lit aD,I 1,I 0,I 0,I 0,TV.lit aD,I 0,I 0,I 0]))],I 2] fun v14 =>
 chk (ac bm [v14] 0) (
 tv (pbin (.int .i64) .eql v14 (I 0)) fun v15 =>
 ret v15)) (
 ret (B false)))) (
 ret (B false)))))) (
 ret (B false))))) (
 ret (B false)))
theorem f37_MR:bT prog 37 []=f37_M  := by kernel_rfl
def f38_0_S  (x0 x1 w2 w3 w4 w5 w6 w7 w8:TV):ASt:=⟨[Jk,Jk,Jk,Pt 0,Pt 1] ++ Rj 13 ++ [AV.tv x0,AV.tv x1] ++ Rj 35,[some (BC.cells [CA.sref 2 0 [],CA.sref 2 1 [],CA.sref 2 2 [],CA.sref 2 3 [],CA.sref 2 4 [],CA.sref 2 5 []]),some (BC.cells [CA.sref 3 0 []]),some (BC.tree [w2,w3,w4,w5,w6,w7]),Tr w8] ++ Rz 75,[]⟩
def f38_1_S  (x0 y1 y2 w3 w4 w5 w6 w7 w8 w9 x10 x11:TV):ASt:=⟨[AV.one (CA.yl 0),Pt 0,Jk,Jk,AV.tv x0] ++ Rj 23,[some (BC.cells [CA.sref 5 0 [],CA.sref 5 1 [],CA.sref 5 2 [],CA.sref 5 3 [],CA.sref 5 4 [],CA.sref 5 5 []]),some (BC.cells [CA.sref 5 0 [],CA.sref 5 1 [],CA.sref 5 2 [],CA.sref 5 3 [],CA.sref 5 4 [],CA.sref 5 5 []]),some (BC.cells [CA.sref 6 0 []]),Ct y1,Ct y2,some (BC.tree [w3,w4,w5,w6,w7,w8]),Tr w9] ++ Rz 100,([Jk,Jk,Jk,Pt 1,Pt 2,Pt 3] ++ Rj 12 ++ [AV.tv x10,AV.tv x11] ++ Rj 4 ++ [AV.clo 79 [CA.ptr 0 0,CA.ptr 4 0]] ++ Rj 30)⟩
def f38_2_S  (w0:TV):ASt:=⟨Rj 4 ++ [Pt 0] ++ Rj 50,[some (BC.cells [CA.sref 1 0 []]),Tr w0] ++ Rz 77,[]⟩
def f38_3_S  (x0 y1 y2 w3 w4 w5 w6 w7 w8 w9 x10 x11:TV):ASt:=⟨[AV.one (CA.yl 0),Pt 0,Jk,Jk,AV.tv x0] ++ Rj 23,[some (BC.cells [CA.sref 5 0 [],CA.sref 5 1 [],CA.sref 5 2 [],CA.sref 5 3 [],CA.sref 5 4 [],CA.sref 5 5 []]),some (BC.cells [CA.sref 5 0 [],CA.sref 5 1 [],CA.sref 5 2 [],CA.sref 5 3 [],CA.sref 5 4 [],CA.sref 5 5 []]),some (BC.cells [CA.sref 6 0 []]),Ct y1,Ct y2,some (BC.tree [w3,w4,w5,w6,w7,w8]),Tr w9] ++ Rz 100,([Jk,Jk,Jk,Pt 1,Pt 2,Pt 3] ++ Rj 12 ++ [AV.tv x10,AV.tv x11] ++ Rj 4 ++ [AV.clo 79 [CA.ptr 0 0,CA.ptr 4 0]] ++ Rj 30)⟩
def f38_4_S  (x0 x1 w2 w3:TV):ASt:=⟨Rj 7 ++ [Sr 0] ++ Rj 29 ++ [Sr 1,AV.tv x0,AV.tv x1] ++ Rj 15,[Tr w2,Tr w3] ++ Rz 77,[]⟩
def f38_M (x0:TV):Prg TV :=
 chk (TV.isAgg x0 3) (
 call 59 [agg [cell x0 0,cell x0 1,cell x0 2]] fun v0 =>
 chk (Bool.and (TV.isAgg v0 6) (ac z91 (cellsL true v0) 0)) (
 tv (plen (.slice 59) (cell x0 2)) fun v1 =>
 nat (af v1) fun n2 =>
 nat (af v1) fun n3 =>
 chk (Bool.and (Nat.ble n2 n3) (Nat.ble n3 4294967296)) (
 tv (plen (.slice 59) (cell x0 2)) fun v4 =>
 jmp [0,0,1,0,1,1,1] (f38_0_S v4 (I 0) (cell v0 0) (cell v0 1) (cell v0 2) (cell v0 3) (cell v0 4) (cell v0 5) (TV.sl true 1 (List.replicate n2 [TV.lit aD]))))))
def f38_0  (x0 x1 w2 w3 w4 w5 w6 w7 w8:TV):Prg TV :=
 tv (pbin (.int .i64) .lss x1 x0) fun v5 =>
 Prg.ite (asBool v5) (
 chk (TV.cK x1) (
 nat (slLen w6) fun n6 =>
 nat (af x1) fun n7 =>
 chk (Bool.and (slSize w6 1) (Nat.blt n7 n6)) (
 tvs (pel w6 n7) fun e8 =>
 chk (ac bm e8 0) (
 nat (slLen w5) fun n9 =>
 nat (af x1) fun n10 =>
 chk (Bool.and (slSize w5 1) (Nat.blt n10 n9)) (
 tvs (pel w5 n10) fun e11 =>
 chk (ac gG e11 0) (
 Prg.ite (asBool (nth hole e11 0)) (
 jmp [1,1,79,0,1,1,0,0,1,1,0,0,1,0,1,1,1] (f38_1_S x1 x1 x1 w2 w3 w4 w5 w6 w7 w8 x0 x1)) (
 jmp [1,1,79,0,1,1,0,0,1,1,0,0,1,0,1,1,1] (f38_1_S (nth hole e8 0) x1 x1 w2 w3 w4 w5 w6 w7 w8 x0 x1)))))))) (
 jmp [1,1,1,1] (f38_2_S w8))
def f38_1  (x0 y1 y2 w3 w4 w5 w6 w7 w8 w9 x10 x11:TV):Prg TV :=
 jmp [0,0,1,1,79,0,1,1,0,0,1,1,0,0,1,0,1,1,1] (f38_3_S x0 y1 y2 w3 w4 w5 w6 w7 w8 w9 x10 x11)
def f38_2  (w0:TV):Prg TV :=
 tv (plen (.slice 27) w0) fun v12 =>
 chk true (
 jmp [0,0,1,0,1,1,1,1,1] (f38_4_S v12 (I 0) (TV.lit aD) w0))
def f38_3  (x0 y1 y2 w3 w4 w5 w6 w7 w8 w9 x10 x11:TV):Prg TV :=
 tv (pbin (.int .i64) .geq x0 (I 0)) fun v13 =>
 Prg.ite (asBool v13) (
 nat (slLen w9) fun n14 =>
 nat (af x0) fun n15 =>
 chk (Bool.and (slSize w9 1) (Nat.blt n15 n14)) (
 tvs (pel w9 n15) fun e16 =>
 chk (ac zSl e16 0) (
 rws (pelems 1 (TV.sl true 1 (chunks 1 1 [y1]))) fun r17 =>
 tv (bP [(n15,0)] w9) fun v18 =>
 tv (papp 1 v18 (mo r17)) fun v19 =>
 tv (gI [(n15,0)] w9 hole) fun v20 =>
 nat (slLen v20) fun n21 =>
 nat (af x0) fun n22 =>
 chk (Bool.and (slSize v20 1) (Nat.blt n22 n21)) (
 tvs (pel v20 n22) fun e23 =>
 chk (Bool.and (du zSl e23 0) (ac zSl [v19] 0)) (
 tv (di [] v20 n22 0 [v19]) fun v24 =>
 nat (slLen w7) fun n25 =>
 nat (af x0) fun n26 =>
 chk (Bool.and (slSize w7 1) (Nat.blt n26 n25)) (
 tvs (pel w7 n26) fun e27 =>
 chk (ac bm e27 0) (
 jmp [0,0,1,1,79,0,1,1,0,0,1,1,0,0,1,0,1,1,1] (f38_3_S (nth hole e27 0) y1 y2 w3 w4 w5 w6 w7 w8 v24 x10 x11)))))))) (
 tv (pbin (.int .i64) .add x11 (I 1)) fun v28 =>
 jmp [0,0,1,0,1,1,1] (f38_0_S x10 v28 w3 w4 w5 w6 w7 w8 w9))
def f38_4  (x0 x1 w2 w3:TV):Prg TV :=
 tv (pbin (.int .i64) .lss x1 x0) fun v29 =>
 Prg.ite (asBool v29) (
 nat (slLen w3) fun n30 =>
 nat (af x1) fun n31 =>
 chk (Bool.and (slSize w3 1) (Nat.blt n31 n30)) (
 tvs (pel w3 n31) fun e32 =>
 chk (ac zSl e32 0) (
 tv (bP [(n31,0)] w3) fun v33 =>
 tv (plen (.slice 3) v33) fun v34 =>
 tv (pbin (.int .i64) .gtr v34 (I 0)) fun v35 =>
 Prg.ite (asBool v35) (
 chk (TV.cK x1) (
 tv (bP [(n31,0)] w3) fun v36 =>
 Prg.ite (frB v36) (
 rws (pelems 2 (TV.sl true 2 (chunks 2 1 [x1,v36]))) fun r37 =>
 tv (papp 2 w2 r37) fun v38 =>
 tv (pbin (.int .i64) .add x1 (I 1)) fun v39 =>
 jmp [0,0,1,0,1,1,1,1,1] (f38_4_S x0 v39 v38 w3)) (
 tv (gI [(n31,0)] w3 hole) fun v40 =>
 rws (pelems 2 (TV.sl true 2 (chunks 2 1 [x1,v36]))) fun r41 =>
 tv (papp 2 w2 r41) fun v42 =>
 tv (pbin (.int .i64) .add x1 (I 1)) fun v43 =>
 jmp [0,0,1,0,1,1,1,1,1] (f38_4_S x0 v43 v42 v40)))) (
 tv (pbin (.int .i64) .add x1 (I 1)) fun v44 =>
 jmp [0,0,1,0,1,1,1,1,1] (f38_4_S x0 v44 w2 w3))))) (
 chk (bG w2) (
 ret w2))
theorem f38_MR (x0:TV):bT prog 38 [x0]=f38_M x0:=by kernel_rfl
theorem f38_0_J  {x0 x1 w2 w3 w4 w5 w6 w7 w8:TV} {r:TV} (h:aa prog 38 (f38_0 x0 x1 w2 w3 w4 w5 w6 w7 w8) r):aa prog 38 (.jmp [0,0,1,0,1,1,1] (f38_0_S x0 x1 w2 w3 w4 w5 w6 w7 w8)) r:=aa.jmp (by kernel_rfl) h
theorem f38_1_J  {x0 y1 y2 w3 w4 w5 w6 w7 w8 w9 x10 x11:TV} {r:TV} (h:aa prog 38 (f38_1 x0 y1 y2 w3 w4 w5 w6 w7 w8 w9 x10 x11) r):aa prog 38 (.jmp [1,1,79,0,1,1,0,0,1,1,0,0,1,0,1,1,1] (f38_1_S x0 y1 y2 w3 w4 w5 w6 w7 w8 w9 x10 x11)) r:=aa.jmp (by kernel_rfl) h
theorem f38_2_J  {w0:TV} {r:TV} (h:aa prog 38 (f38_2 w0) r):aa prog 38 (.jmp [1,1,1,1] (f38_2_S w0)) r:=aa.jmp (by kernel_rfl) h
theorem f38_3_J  {x0 y1 y2 w3 w4 w5 w6 w7 w8 w9 x10 x11:TV} {r:TV} (h:aa prog 38 (f38_3 x0 y1 y2 w3 w4 w5 w6 w7 w8 w9 x10 x11) r):aa prog 38 (.jmp [0,0,1,1,79,0,1,1,0,0,1,1,0,0,1,0,1,1,1] (f38_3_S x0 y1 y2 w3 w4 w5 w6 w7 w8 w9 x10 x11)) r:=aa.jmp (by kernel_rfl) h
theorem f38_4_J  {x0 x1 w2 w3:TV} {r:TV} (h:aa prog 38 (f38_4 x0 x1 w2 w3) r):aa prog 38 (.jmp [0,0,1,0,1,1,1,1,1] (f38_4_S x0 x1 w2 w3)) r:=aa.jmp (by kernel_rfl) h
def f40_0_S  (x0 y1 y2 w3 w4 w5 w6 w7 w8:TV):ASt:=⟨[AV.one (CA.yl 0),Pt 0,Jk,Jk,AV.tv x0] ++ Rj 23,[some (BC.cells [CA.sref 3 0 [],CA.sref 3 1 [],CA.sref 3 2 [],CA.sref 3 3 [],CA.sref 3 4 [],CA.sref 3 5 []]),Ct y1,Ct y2,some (BC.tree [w3,w4,w5,w6,w7,w8])] ++ Rz 71,(Rj 5 ++ [Pt 1] ++ Rj 12 ++ [AV.clo 79 [CA.ptr 0 0,CA.ptr 2 0]] ++ Rj 4)⟩
def f40_1_S  (x0 y1 y2 w3 w4 w5 w6 w7 w8:TV):ASt:=⟨[AV.one (CA.yl 0),Pt 0,Jk,Jk,AV.tv x0] ++ Rj 23,[some (BC.cells [CA.sref 3 0 [],CA.sref 3 1 [],CA.sref 3 2 [],CA.sref 3 3 [],CA.sref 3 4 [],CA.sref 3 5 []]),Ct y1,Ct y2,some (BC.tree [w3,w4,w5,w6,w7,w8])] ++ Rz 71,(Rj 5 ++ [Pt 1] ++ Rj 12 ++ [AV.clo 79 [CA.ptr 0 0,CA.ptr 2 0]] ++ Rj 4)⟩
def f40_M (x0 x1:TV):Prg TV :=
 chk (TV.isAgg x0 3) (
 tv (pbin (.int .i64) .lss x1 (I 0)) fun v0 =>
 Prg.ite (asBool v0) (
 ret (I 0)) (
 tv (plen (.slice 59) (cell x0 2)) fun v1 =>
 tv (pbin (.int .i64) .geq x1 v1) fun v2 =>
 Prg.ite (asBool v2) (
 ret (I 0)) (
 call 59 [agg [cell x0 0,cell x0 1,cell x0 2]] fun v3 =>
 chk (Bool.and (TV.isAgg v3 6) (ac z91 (cellsL true v3) 0)) (
 chk (TV.cK x1) (
 nat (slLen (cell v3 4)) fun n4 =>
 nat (af x1) fun n5 =>
 chk (Bool.and (slSize (cell v3 4) 1) (Nat.blt n5 n4)) (
 tvs (pel (cell v3 4) n5) fun e6 =>
 chk (ac bm e6 0) (
 nat (slLen (cell v3 3)) fun n7 =>
 nat (af x1) fun n8 =>
 chk (Bool.and (slSize (cell v3 3) 1) (Nat.blt n8 n7)) (
 tvs (pel (cell v3 3) n8) fun e9 =>
 chk (ac gG e9 0) (
 Prg.ite (asBool (nth hole e9 0)) (
 jmp [1,1,79,0,1,0,1,1,1] (f40_0_S x1 (I 0) x1 (cell v3 0) (cell v3 1) (cell v3 2) (cell v3 3) (cell v3 4) (cell v3 5))) (
 jmp [1,1,79,0,1,0,1,1,1] (f40_0_S (nth hole e6 0) (I 0) x1 (cell v3 0) (cell v3 1) (cell v3 2) (cell v3 3) (cell v3 4) (cell v3 5))))))))))))
def f40_0  (x0 y1 y2 w3 w4 w5 w6 w7 w8:TV):Prg TV :=
 jmp [0,0,1,1,79,0,1,0,1,1,1] (f40_1_S x0 y1 y2 w3 w4 w5 w6 w7 w8)
def f40_1  (x0 y1 y2 w3 w4 w5 w6 w7 w8:TV):Prg TV :=
 tv (pbin (.int .i64) .geq x0 (I 0)) fun v10 =>
 Prg.ite (asBool v10) (
 tv (pbin (.int .i64) .add y1 (I 1)) fun v11 =>
 nat (slLen w7) fun n12 =>
 nat (af x0) fun n13 =>
 chk (Bool.and (slSize w7 1) (Nat.blt n13 n12)) (
 tvs (pel w7 n13) fun e14 =>
 chk (ac bm e14 0) (
 jmp [0,0,1,1,79,0,1,0,1,1,1] (f40_1_S (nth hole e14 0) v11 y2 w3 w4 w5 w6 w7 w8)))) (
 ret y1)
theorem f40_MR (x0 x1:TV):bT prog 40 [x0,x1]=f40_M x0 x1:=by kernel_rfl
theorem f40_0_J  {x0 y1 y2 w3 w4 w5 w6 w7 w8:TV} {r:TV} (h:aa prog 40 (f40_0 x0 y1 y2 w3 w4 w5 w6 w7 w8) r):aa prog 40 (.jmp [1,1,79,0,1,0,1,1,1] (f40_0_S x0 y1 y2 w3 w4 w5 w6 w7 w8)) r:=aa.jmp (by kernel_rfl) h
theorem f40_1_J  {x0 y1 y2 w3 w4 w5 w6 w7 w8:TV} {r:TV} (h:aa prog 40 (f40_1 x0 y1 y2 w3 w4 w5 w6 w7 w8) r):aa prog 40 (.jmp [0,0,1,1,79,0,1,0,1,1,1] (f40_1_S x0 y1 y2 w3 w4 w5 w6 w7 w8)) r:=aa.jmp (by kernel_rfl) h
def f41_M (x0 x1:TV):Prg TV :=
 chk (TV.isAgg x0 3) (
 tv (pbin (.int .i64) .leq (I 0) x1) fun v0 =>
 Prg.ite (asBool v0) (
 tv (plen (.slice 59) (cell x0 2)) fun v1 =>
 tv (pbin (.int .i64) .lss x1 v1) fun v2 =>
 ret v2) (
 ret (B false)))
theorem f41_MR (x0 x1:TV):bT prog 41 [x0,x1]=f41_M x0 x1:=by kernel_rfl
def f42_0_S  (x0 y1 y2 y3 y4 y5 y6 y7 y8 y9 y10 y11 y12 y13 y14 w15:TV):ASt:=⟨[Jk,Pt 0,Jk,Jk,Sr 1] ++ Rj 13 ++ [AV.tv x0] ++ Rj 7,[some (BC.cells [CA.t y1,CA.t y2,CA.t y3,CA.t y4,CA.t y5,CA.t y6,CA.t y7,CA.t y8,CA.t y9,CA.t y10,CA.t y11,CA.t y12,CA.t y13,CA.t y14]),Tr w15] ++ Rz 48,[]⟩
def f42_M (x0:TV):Prg TV :=
 chk (TV.isAgg x0 14) (
 call 62 [cell x0 6] fun v0 =>
 chk (ac bm [v0] 0) (
 call 63 [v0,I 64] fun v1 =>
 chk (ac gG [v1] 0) (
 Prg.ite (asBool v1) (
 rws (pelems 1 (TV.sl true 1 (chunks 1 1 [cell x0 11]))) fun r2 =>
 tv (papp 1 (TV.lit aD) (mo r2)) fun v3 =>
 call 63 [v0,I 128] fun v4 =>
 chk (ac gG [v4] 0) (
 jmp [1,0,1,1,1,1] (f42_0_S v4 (cell x0 0) (cell x0 1) (cell x0 2) (cell x0 3) (cell x0 4) (cell x0 5) (cell x0 6) (cell x0 7) (cell x0 8) (cell x0 9) (cell x0 10) (cell x0 11) (cell x0 12) (cell x0 13) v3))) (
 call 63 [v0,I 128] fun v5 =>
 chk (ac gG [v5] 0) (
 chk true (
 jmp [1,0,1,1,1,1] (f42_0_S v5 (cell x0 0) (cell x0 1) (cell x0 2) (cell x0 3) (cell x0 4) (cell x0 5) (cell x0 6) (cell x0 7) (cell x0 8) (cell x0 9) (cell x0 10) (cell x0 11) (cell x0 12) (cell x0 13) (TV.lit aD))))))))
def f42_0  (x0 y1 y2 y3 y4 y5 y6 y7 y8 y9 y10 y11 y12 y13 y14 w15:TV):Prg TV :=
 Prg.ite (asBool x0) (
 rws (pelems 1 (TV.sl true 1 (chunks 1 1 [y13]))) fun r6 =>
 tv (papp 1 w15 (mo r6)) fun v7 =>
 chk (bG v7) (
 ret v7)) (
 chk (bG w15) (
 ret w15))
theorem f42_MR (x0:TV):bT prog 42 [x0]=f42_M x0:=by kernel_rfl
theorem f42_0_J  {x0 y1 y2 y3 y4 y5 y6 y7 y8 y9 y10 y11 y12 y13 y14 w15:TV} {r:TV} (h:aa prog 42 (f42_0 x0 y1 y2 y3 y4 y5 y6 y7 y8 y9 y10 y11 y12 y13 y14 w15) r):aa prog 42 (.jmp [1,0,1,1,1,1] (f42_0_S x0 y1 y2 y3 y4 y5 y6 y7 y8 y9 y10 y11 y12 y13 y14 w15)) r:=aa.jmp (by kernel_rfl) h
end Go.Ab.Q12
end
section
set_option maxRecDepth 100000
namespace Go.Ab.Q12
open Go Go.Ab Go.Proofs
open Go.Ab.TV (hole cell comp isSl isSc isTup cellsL tup agg)
open Go.Ab.Prg (tv tvs rws nat chk call jmp ret)
def f48_M (c0 c1 c2 x0:TV):Prg TV :=
 chk (Nat.ble 3 (List.length [c0,c1,c2])) (
 call 17 [agg [c0,c1,c2],x0] fun v0 =>
 chk (ac zSl [v0] 0) (
 chk (bG v0) (
 ret v0)))
theorem f48_MR (c0 c1 c2 x0:TV):bT prog 48 [x0,agg [c0,c1,c2]]=f48_M c0 c1 c2 x0:=by kernel_rfl
def f55_0_S  (x0 w1 w2 w3:TV):ASt:=⟨[Jk,Jk,Pt 0,Sr 1,Pt 2,AV.tv x0] ++ Rj 28,[some (BC.cells [CA.junk,CA.junk,CA.junk]),Tr w1,some (BC.cells [CA.sref 1 0 [],CA.sref 3 0 [],CA.sref 4 0 []]),Tr w2,Tr w3] ++ Rz 53,[]⟩
def f55_M (x0:TV):Prg TV :=
 chk (TV.isAgg x0 3) (
 call 24 [agg [cell x0 0,cell x0 1,cell x0 2]] fun v0 =>
 chk (ac zSl [v0] 0) (
 call 74 [agg [cell x0 0,cell x0 1,cell x0 2],frz v0] fun v1 =>
 chk (ac zSl [v1] 0) (
 tv (plen (.slice 3) v0) fun v2 =>
 nat (af v2) fun n3 =>
 nat (af v2) fun n4 =>
 chk (Bool.and (Nat.ble n3 n4) (Nat.ble n4 4294967296)) (
 jmp [0,0,1,0,1,1,1] (f55_0_S (I 1) v0 v1 (TV.sl true 1 (List.replicate n3 [I 0])))))))
def f55_0  (x0 w1 w2 w3:TV):Prg TV :=
 tv (plen (.slice 3) w1) fun v5 =>
 tv (pbin (.int .i64) .lss x0 v5) fun v6 =>
 Prg.ite (asBool v6) (
 nat (slLen w2) fun n7 =>
 nat (af x0) fun n8 =>
 chk (Bool.and (slSize w2 1) (Nat.blt n8 n7)) (
 tvs (pel w2 n8) fun e9 =>
 chk (ac zSl e9 0) (
 tv (bP [(n8,0)] w2) fun v10 =>
 nat (slLen v10) fun n11 =>
 nat (af (I 0)) fun n12 =>
 chk (Bool.and (slSize v10 1) (Nat.blt n12 n11)) (
 tv (bP [(n8,0)] w2) fun v13 =>
 tvs (pel v13 n12) fun e14 =>
 chk (ac bm e14 0) (
 nat (slLen w3) fun n15 =>
 nat (af x0) fun n16 =>
 chk (Bool.and (slSize w3 1) (Nat.blt n16 n15)) (
 tvs (pel w3 n16) fun e17 =>
 chk (ac bm e17 0) (
 tv (di [] w3 n16 0 [nth hole e14 0]) fun v18 =>
 tv (pbin (.int .i64) .add x0 (I 1)) fun v19 =>
 jmp [0,0,1,0,1,1,1] (f55_0_S v19 w1 w2 v18)))))))) (
 chk (bG (agg [w1,w2,w3])) (
 ret (agg [w1,w2,w3])))
theorem f55_MR (x0:TV):bT prog 55 [x0]=f55_M x0:=by kernel_rfl
theorem f55_0_J  {x0 w1 w2 w3:TV} {r:TV} (h:aa prog 55 (f55_0 x0 w1 w2 w3) r):aa prog 55 (.jmp [0,0,1,0,1,1,1] (f55_0_S x0 w1 w2 w3)) r:=aa.jmp (by kernel_rfl) h
end Go.Ab.Q12
end

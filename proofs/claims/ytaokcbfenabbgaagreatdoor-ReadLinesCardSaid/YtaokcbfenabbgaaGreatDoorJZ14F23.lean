import Derived.Test.YtaokcbfenabbgaaGreatDoorJZ14Xa
import Derived.Lib.ItoaLen
set_option linter.all false
section
set_option maxRecDepth 100000
namespace Go.Ab.Z14
open Go Go.Ab Go.Proofs
open Go.Ab.TV (hole cell comp isSl isSc isTup cellsL tup agg)
open Go.Ab.Prg (tv tvs rws nat chk call jmp ret)
def f12_M (x0 x1:TV):Prg TV :=
 chk (TV.isAgg x0 7) (
 chk (TV.isAgg x1 7) (
 tv (pbin (.int .i64) .eql (cell x0 0) (cell x1 0)) fun v0 =>
 Prg.ite (asBool v0) (
 tv (pbin (.int .i64) .eql (cell x0 1) (cell x1 1)) fun v1 =>
 Prg.ite (asBool v1) (
 tv (pbin (.int .i64) .eql (cell x0 2) (cell x1 2)) fun v2 =>
 Prg.ite (asBool v2) (
 tv (pbin (.int .i64) .eql (cell x0 3) (cell x1 3)) fun v3 =>
 Prg.ite (asBool v3) (
 tv (pbin (.int .u16) .eql (cell x0 4) (cell x1 4)) fun v4 =>
 Prg.ite (asBool v4) (
 tv (pbin (.int .i64) .eql (cell x0 5) (cell x1 5)) fun v5 =>
 Prg.ite (asBool v5) (
 call 33 [cell x0 6,cell x1 6] fun v6 =>
 chk (ab gm [v6] 0) (
 ret v6)) (
 ret (B false))) (
 ret (B false))) (
 ret (B false))) (
 ret (B false))) (
 ret (B false))) (
 ret (B false))))
theorem f12_MR (x0 x1:TV):aY prog 12 [x0,x1]=f12_M x0 x1:=by kernel_rfl
def f13_M (x0 x1:TV):Prg TV :=
 chk (TV.isAgg x0 8) (
 chk (TV.isAgg x1 8) (
 tv (pbin (.int .i64) .eql (cell x0 0) (cell x1 0)) fun v0 =>
 Prg.ite (asBool v0) (
 tv (pbin (.int .i64) .eql (cell x0 1) (cell x1 1)) fun v1 =>
 Prg.ite (asBool v1) (
 tv (pbin (.int .i64) .eql (cell x0 2) (cell x1 2)) fun v2 =>
 Prg.ite (asBool v2) (
 tv (pbin (.int .i64) .eql (cell x0 3) (cell x1 3)) fun v3 =>
 Prg.ite (asBool v3) (
 call 33 [cell x0 4,cell x1 4] fun v4 =>
 chk (ab gm [v4] 0) (
 Prg.ite (asBool v4) (
 tv (pbin (.int .i64) .eql (cell x0 5) (cell x1 5)) fun v5 =>
 Prg.ite (asBool v5) (
 tv (pbin (.int .i64) .eql (cell x0 6) (cell x1 6)) fun v6 =>
 Prg.ite (asBool v6) (
 tv (pbin (.int .i64) .eql (cell x0 7) (cell x1 7)) fun v7 =>
 ret v7) (
 ret (B false))) (
 ret (B false))) (
 ret (B false)))) (
 ret (B false))) (
 ret (B false))) (
 ret (B false))) (
 ret (B false))))
theorem f13_MR (x0 x1:TV):aY prog 13 [x0,x1]=f13_M x0 x1:=by kernel_rfl
def f14_0_S  (x0 y1 y2 y3 y4 y5 y6 y7 y8:TV):ASt:=⟨[Jk,Jk,Pt 0,Pt 1,Jk,AV.tv x0] ++ Rj 46,[some (BC.cells [CA.t y1,CA.t y2,CA.t y3,CA.t y4]),some (BC.cells [CA.t y5,CA.t y6,CA.t y7,CA.t y8])] ++ Rz 74,[]⟩
def f14_M (x0 x1:TV):Prg TV :=
 chk (TV.isAgg x0 4) (
 chk (TV.isAgg x1 4) (
 tv (pbin (.int .i64) .neq (cell x0 0) (cell x1 0)) fun v0 =>
 Prg.ite (asBool v0) (
 ret (B false)) (
 tv (pbin Kd.bool .neq (cell x0 2) (cell x1 2)) fun v1 =>
 Prg.ite (asBool v1) (
 ret (B false)) (
 tv (pbin Kd.bool .neq (cell x0 3) (cell x1 3)) fun v2 =>
 Prg.ite (asBool v2) (
 ret (B false)) (
 tv (plen (.slice 23) (cell x0 1)) fun v3 =>
 tv (plen (.slice 23) (cell x1 1)) fun v4 =>
 tv (pbin (.int .i64) .neq v3 v4) fun v5 =>
 Prg.ite (asBool v5) (
 ret (B false)) (
 jmp [0,0,1,0,1,1] (f14_0_S (I 0) (cell x0 0) (cell x0 1) (cell x0 2) (cell x0 3) (cell x1 0) (cell x1 1) (cell x1 2) (cell x1 3))))))))
def f14_0  (x0 y1 y2 y3 y4 y5 y6 y7 y8:TV):Prg TV :=
 tv (plen (.slice 23) y2) fun v6 =>
 tv (pbin (.int .i64) .lss x0 v6) fun v7 =>
 Prg.ite (asBool v7) (
 tvs (pidx 1 y2 x0) fun e8 =>
 chk (Nat.blt 0 (List.length e8)) (
 tvs (pidx 1 y6 x0) fun e9 =>
 chk (Nat.blt 0 (List.length e9)) (
 tv (pbin (.int .u16) .neq (nth hole e8 0) (nth hole e9 0)) fun v10 =>
 Prg.ite (asBool v10) (
 ret (B false)) (
 tv (pbin (.int .i64) .add x0 (I 1)) fun v11 =>
 jmp [0,0,1,0,1,1] (f14_0_S v11 y1 y2 y3 y4 y5 y6 y7 y8))))) (
 ret (B true))
theorem f14_MR (x0 x1:TV):aY prog 14 [x0,x1]=f14_M x0 x1:=by kernel_rfl
theorem f14_0_J  {x0 y1 y2 y3 y4 y5 y6 y7 y8:TV} {r:TV} (h:aa prog 14 (f14_0 x0 y1 y2 y3 y4 y5 y6 y7 y8) r):aa prog 14 (.jmp [0,0,1,0,1,1] (f14_0_S x0 y1 y2 y3 y4 y5 y6 y7 y8)) r:=aa.jmp (by kernel_rfl) h
def f19_M (x0:TV):Prg TV :=
 call 44 [x0,TV.lit (Value.string (ByteArray.mk (Array.mk [(32:UInt8)]))),I 14] fun v0 =>
 chk (ab zSl [v0] 0) (
 ret v0)
theorem f19_MR (x0:TV):aY prog 19 [x0]=f19_M x0:=by kernel_rfl
def f20_0_S  (x0 x1 x2 w3 y4 y5 y6 y7 y8 y9 y10 y11 y12 y13 y14 y15 y16 y17 y18:TV):ASt:=⟨[Jk,AV.one (CA.psl 0 2),Jk,Jk,Jk,Sr 1,Jk,Jk,AV.tv x0,AV.tv x1,AV.tv x2] ++ Rj 22,[some (BC.cells [CA.ptr 3 1,CA.ptr 4 0]),Tr w3,some (BC.cells [CA.t y4,CA.t y5,CA.t y6,CA.t y7,CA.t y8,CA.t y9,CA.t y10]),some (BC.cells [CA.t y11,CA.t y12,CA.t y13,CA.t y14,CA.t y15,CA.t y16,CA.t y17]),Ct y18] ++ Rz 120,(Rj 4 ++ [Pt 2,Pt 3,Pt 4] ++ Rj 61)⟩
def f20_1_S  (x0 x1 x2 y3 y4 y5 y6 y7 y8 y9:TV):ASt:=⟨[Jk,AV.tv x0,Jk,Jk,Pt 0,Pt 1,Jk,Jk,Jk,AV.tv x1] ++ Rj 9 ++ [AV.tv x2] ++ Rj 48,[some (BC.cells [CA.junk,CA.junk,CA.junk,CA.junk,CA.junk,CA.junk,CA.junk]),some (BC.cells [CA.t y3,CA.t y4,CA.t y5,CA.t y6,CA.t y7,CA.t y8,CA.t y9])] ++ Rz 90,[]⟩
def f20_2_S  (x0 x1 x2 w3 y4 y5 y6 y7 y8 y9 y10:TV):ASt:=⟨[Jk,AV.one (CA.psl 0 2),Jk,Jk,Jk,Sr 1,Jk,Jk,AV.tv x0,AV.tv x1,AV.tv x2] ++ Rj 22,[some (BC.cells [CA.ptr 3 1,CA.ptr 3 2]),Tr w3,some (BC.cells [CA.junk,CA.junk,CA.junk,CA.junk,CA.junk,CA.junk,CA.junk]),some (BC.cells [CA.t y4,CA.t y5,CA.t y6,CA.t y7,CA.t y8,CA.t y9,CA.t y10])] ++ Rz 121,(Rj 4 ++ [Pt 2,Pt 3] ++ Rj 62)⟩
def f20_3_S  (x0 x1 x2 y3 y4 y5 y6 y7 y8 y9:TV):ASt:=⟨[Jk,AV.tv x0,Jk,Jk,Pt 0,Pt 1,Jk,Jk,Jk,AV.tv x1] ++ Rj 17 ++ [AV.tv x2] ++ Rj 40,[some (BC.cells [CA.junk,CA.junk,CA.junk,CA.junk,CA.junk,CA.junk,CA.junk]),some (BC.cells [CA.t y3,CA.t y4,CA.t y5,CA.t y6,CA.t y7,CA.t y8,CA.t y9])] ++ Rz 90,[]⟩
def f20_4_S  (x0 x1 x2 w3 y4 y5 y6 y7 y8 y9 y10:TV):ASt:=⟨[Jk,AV.one (CA.psl 0 3),Jk,Jk,Jk,Sr 1,Jk,Jk,AV.tv x0,AV.tv x1,AV.tv x2] ++ Rj 22,[some (BC.cells [CA.ptr 3 1,CA.ptr 3 2,CA.ptr 3 3]),Tr w3,some (BC.cells [CA.junk,CA.junk,CA.junk,CA.junk,CA.junk,CA.junk,CA.junk]),some (BC.cells [CA.t y4,CA.t y5,CA.t y6,CA.t y7,CA.t y8,CA.t y9,CA.t y10])] ++ Rz 121,(Rj 4 ++ [Pt 2,Pt 3] ++ Rj 62)⟩
def f20_5_S  (x0 x1 x2 w3 y4 y5 y6 y7 y8 y9 y10:TV):ASt:=⟨[Jk,AV.one (CA.psl 0 2),Jk,Jk,Jk,Sr 1,Jk,Jk,AV.tv x0,AV.tv x1,AV.tv x2] ++ Rj 22,[some (BC.cells [CA.ptr 3 2,CA.ptr 3 3]),Tr w3,some (BC.cells [CA.junk,CA.junk,CA.junk,CA.junk,CA.junk,CA.junk,CA.junk]),some (BC.cells [CA.t y4,CA.t y5,CA.t y6,CA.t y7,CA.t y8,CA.t y9,CA.t y10])] ++ Rz 121,(Rj 4 ++ [Pt 2,Pt 3] ++ Rj 62)⟩
def f20_6_S  (x0 x1 x2 w3 y4 y5 y6 y7 y8 y9 y10:TV):ASt:=⟨[Jk,AV.one (CA.psl 0 2),Jk,Jk,Jk,Sr 1,Jk,Jk,AV.tv x0,AV.tv x1,AV.tv x2] ++ Rj 22,[some (BC.cells [CA.ptr 3 1,CA.ptr 3 5]),Tr w3,some (BC.cells [CA.junk,CA.junk,CA.junk,CA.junk,CA.junk,CA.junk,CA.junk]),some (BC.cells [CA.t y4,CA.t y5,CA.t y6,CA.t y7,CA.t y8,CA.t y9,CA.t y10])] ++ Rz 121,(Rj 4 ++ [Pt 2,Pt 3] ++ Rj 62)⟩
def f20_7_S  (x0 x1 x2 w3 y4 y5 y6 y7 y8 y9 y10:TV):ASt:=⟨[Jk,AV.one (CA.psl 0 1),Jk,Jk,Jk,Sr 1,Jk,Jk,AV.tv x0,AV.tv x1,AV.tv x2] ++ Rj 22,[some (BC.cells [CA.ptr 3 2]),Tr w3,some (BC.cells [CA.junk,CA.junk,CA.junk,CA.junk,CA.junk,CA.junk,CA.junk]),some (BC.cells [CA.t y4,CA.t y5,CA.t y6,CA.t y7,CA.t y8,CA.t y9,CA.t y10])] ++ Rz 121,(Rj 4 ++ [Pt 2,Pt 3] ++ Rj 62)⟩
def f20_8_S  (x0 x1 x2 w3 y4 y5 y6 y7 y8 y9 y10:TV):ASt:=⟨[Jk,AV.one (CA.psl 0 1),Jk,Jk,Jk,Sr 1,Jk,Jk,AV.tv x0,AV.tv x1,AV.tv x2] ++ Rj 22,[some (BC.cells [CA.ptr 3 1]),Tr w3,some (BC.cells [CA.junk,CA.junk,CA.junk,CA.junk,CA.junk,CA.junk,CA.junk]),some (BC.cells [CA.t y4,CA.t y5,CA.t y6,CA.t y7,CA.t y8,CA.t y9,CA.t y10])] ++ Rz 121,(Rj 4 ++ [Pt 2,Pt 3] ++ Rj 62)⟩
def f20_M (x0 x1:TV):Prg TV :=
 chk (TV.fS x0) (
 tv (pbin (.int .i64) .eql x0 (I 1)) fun v0 =>
 Prg.ite (asBool v0) (
 tv (plen (.slice 9) x1) fun v1 =>
 chk true (
 jmp [0,0,1,0,1,1,8,0,1,0,1,0,1,0,1,1] (f20_0_S x1 v1 (I 0) (TV.lit af) (I 0) (I 0) (I 0) (I 0) (W 0) (I 0) (TV.lit af) x0 (I 0) (I 0) (I 0) (W 0) (I 0) (TV.lit af) (I 0)))) (
 tv (pbin (.int .i64) .eql x0 (I 2)) fun v2 =>
 Prg.ite (asBool v2) (
 jmp [1,1,1,0,1,0,1,1] (f20_1_S x1 x0 v2 x0 (I 0) (I 0) (I 0) (W 0) (I 0) (TV.lit af))) (
 tv (pbin (.int .i64) .eql x0 (I 9)) fun v3 =>
 jmp [1,1,1,0,1,0,1,1] (f20_1_S x1 x0 v3 x0 (I 0) (I 0) (I 0) (W 0) (I 0) (TV.lit af)))))
def f20_0  (x0 x1 x2 w3 y4 y5 y6 y7 y8 y9 y10 y11 y12 y13 y14 y15 y16 y17 y18:TV):Prg TV :=
 tv (pbin (.int .i64) .lss x2 x1) fun v4 =>
 Prg.ite (asBool v4) (
 tvs (pidx 1 x0 x2) fun e5 =>
 chk (Nat.blt 0 (List.length e5)) (
 tv (pbin (.int .i64) .lss x2 (I 2)) fun v6 =>
 Prg.ite (asBool v6) (
 nat (al x2) fun n7 =>
 Prg.ite (some (Nat.beq n7 1)) (
 call 48 [nth hole e5 0] fun v8 =>
 chk (ab aT [v8] 0) (
 tv (pbin (.int .i64) .add x2 (I 1)) fun v9 =>
 jmp [0,0,1,0,1,1,8,0,1,0,1,0,1,0,1,1] (f20_0_S x0 x1 v9 w3 y4 y5 y6 y7 y8 y9 y10 y11 y12 y13 y14 y15 y16 y17 v8))) (
 Prg.ite (some (Nat.beq n7 0)) (
 call 48 [nth hole e5 0] fun v10 =>
 chk (ab aT [v10] 0) (
 tv (pbin (.int .i64) .add x2 (I 1)) fun v11 =>
 jmp [0,0,1,0,1,1,8,0,1,0,1,0,1,0,1,1] (f20_0_S x0 x1 v11 w3 y4 y5 y6 y7 y8 y9 y10 y11 v10 y13 y14 y15 y16 y17 y18))) (
 Prg.fail))) (
 call 48 [nth hole e5 0] fun v12 =>
 chk (ab aT [v12] 0) (
 rws (pelems 1 (TV.sl true 1 (chunks 1 1 [v12]))) fun r13 =>
 tv (papp 1 w3 (iU r13)) fun v14 =>
 tv (pbin (.int .i64) .add x2 (I 1)) fun v15 =>
 jmp [0,0,1,0,1,1,8,0,1,0,1,0,1,0,1,1] (f20_0_S x0 x1 v15 v14 y4 y5 y6 y7 y8 y9 y10 y11 y12 y13 y14 y15 y16 y17 y18))))) (
 tv (pconv (.int .u16) y18) fun v16 =>
 chk (aD (agg [y11,y12,y13,y14,v16,y16,y17])) (
 ret (agg [y11,y12,y13,y14,v16,y16,y17])))
def f20_1  (x0 x1 x2 y3 y4 y5 y6 y7 y8 y9:TV):Prg TV :=
 Prg.ite (asBool x2) (
 tv (plen (.slice 9) x0) fun v17 =>
 chk true (
 jmp [0,0,1,0,1,1,10,0,1,1,1,0,1,0,1,1] (f20_2_S x0 v17 (I 0) (TV.lit af) y3 y4 y5 y6 y7 y8 y9))) (
 tv (pbin (.int .i64) .eql x1 (I 3)) fun v18 =>
 Prg.ite (asBool v18) (
 jmp [1,1,1,1,1,0,1,0,1,1] (f20_3_S x0 x1 v18 y3 y4 y5 y6 y7 y8 y9)) (
 tv (pbin (.int .i64) .eql x1 (I 4)) fun v19 =>
 Prg.ite (asBool v19) (
 jmp [1,1,1,1,1,0,1,0,1,1] (f20_3_S x0 x1 v19 y3 y4 y5 y6 y7 y8 y9)) (
 tv (pbin (.int .i64) .eql x1 (I 5)) fun v20 =>
 Prg.ite (asBool v20) (
 jmp [1,1,1,1,1,0,1,0,1,1] (f20_3_S x0 x1 v20 y3 y4 y5 y6 y7 y8 y9)) (
 tv (pbin (.int .i64) .eql x1 (I 6)) fun v21 =>
 Prg.ite (asBool v21) (
 jmp [1,1,1,1,1,0,1,0,1,1] (f20_3_S x0 x1 v21 y3 y4 y5 y6 y7 y8 y9)) (
 tv (pbin (.int .i64) .eql x1 (I 7)) fun v22 =>
 Prg.ite (asBool v22) (
 jmp [1,1,1,1,1,0,1,0,1,1] (f20_3_S x0 x1 v22 y3 y4 y5 y6 y7 y8 y9)) (
 tv (pbin (.int .i64) .eql x1 (I 8)) fun v23 =>
 jmp [1,1,1,1,1,0,1,0,1,1] (f20_3_S x0 x1 v23 y3 y4 y5 y6 y7 y8 y9)))))))
def f20_2  (x0 x1 x2 w3 y4 y5 y6 y7 y8 y9 y10:TV):Prg TV :=
 tv (pbin (.int .i64) .lss x2 x1) fun v24 =>
 Prg.ite (asBool v24) (
 tvs (pidx 1 x0 x2) fun e25 =>
 chk (Nat.blt 0 (List.length e25)) (
 tv (pbin (.int .i64) .lss x2 (I 2)) fun v26 =>
 Prg.ite (asBool v26) (
 nat (al x2) fun n27 =>
 Prg.ite (some (Nat.beq n27 1)) (
 call 48 [nth hole e25 0] fun v28 =>
 chk (ab aT [v28] 0) (
 tv (pbin (.int .i64) .add x2 (I 1)) fun v29 =>
 jmp [0,0,1,0,1,1,10,0,1,1,1,0,1,0,1,1] (f20_2_S x0 x1 v29 w3 y4 y5 v28 y7 y8 y9 y10))) (
 Prg.ite (some (Nat.beq n27 0)) (
 call 48 [nth hole e25 0] fun v30 =>
 chk (ab aT [v30] 0) (
 tv (pbin (.int .i64) .add x2 (I 1)) fun v31 =>
 jmp [0,0,1,0,1,1,10,0,1,1,1,0,1,0,1,1] (f20_2_S x0 x1 v31 w3 y4 v30 y6 y7 y8 y9 y10))) (
 Prg.fail))) (
 call 48 [nth hole e25 0] fun v32 =>
 chk (ab aT [v32] 0) (
 rws (pelems 1 (TV.sl true 1 (chunks 1 1 [v32]))) fun r33 =>
 tv (papp 1 w3 (iU r33)) fun v34 =>
 tv (pbin (.int .i64) .add x2 (I 1)) fun v35 =>
 jmp [0,0,1,0,1,1,10,0,1,1,1,0,1,0,1,1] (f20_2_S x0 x1 v35 v34 y4 y5 y6 y7 y8 y9 y10))))) (
 chk (aD (agg [y4,y5,y6,y7,y8,y9,y10])) (
 ret (agg [y4,y5,y6,y7,y8,y9,y10])))
def f20_3  (x0 x1 x2 y3 y4 y5 y6 y7 y8 y9:TV):Prg TV :=
 Prg.ite (asBool x2) (
 tv (plen (.slice 9) x0) fun v36 =>
 chk true (
 jmp [0,0,1,0,1,1,12,0,1,1,1,1,1,0,1,0,1,1] (f20_4_S x0 v36 (I 0) (TV.lit af) y3 y4 y5 y6 y7 y8 y9))) (
 tv (pbin (.int .i64) .eql x1 (I 10)) fun v37 =>
 Prg.ite (asBool v37) (
 tv (plen (.slice 9) x0) fun v38 =>
 chk true (
 jmp [0,0,1,0,1,1,10,0,1,1,1,1,1,1,1,0,1,0,1,1] (f20_5_S x0 v38 (I 0) (TV.lit af) y3 y4 y5 y6 y7 y8 y9))) (
 tv (pbin (.int .i64) .eql x1 (I 11)) fun v39 =>
 Prg.ite (asBool v39) (
 tv (plen (.slice 9) x0) fun v40 =>
 chk true (
 jmp [0,0,1,0,1,1,10,0,1,1,1,1,1,1,1,1,1,0,1,0,1,1] (f20_6_S x0 v40 (I 0) (TV.lit af) y3 y4 y5 y6 y7 y8 y9))) (
 tv (pbin (.int .i64) .eql x1 (I 12)) fun v41 =>
 Prg.ite (asBool v41) (
 tv (plen (.slice 9) x0) fun v42 =>
 chk true (
 jmp [0,0,1,0,1,1,8,0,1,1,1,1,1,1,1,1,1,1,1,0,1,0,1,1] (f20_7_S x0 v42 (I 0) (TV.lit af) y3 y4 y5 y6 y7 y8 y9))) (
 tv (pbin (.int .i64) .eql x1 (I 13)) fun v43 =>
 Prg.ite (asBool v43) (
 tv (plen (.slice 9) x0) fun v44 =>
 chk true (
 jmp [0,0,1,0,1,1,8,0,1,1,1,1,1,1,1,1,1,1,1,1,1,0,1,0,1,1] (f20_8_S x0 v44 (I 0) (TV.lit af) y3 y4 y5 y6 y7 y8 y9))) (
 chk (aD (agg [y3,y4,y5,y6,y7,y8,y9])) (
 ret (agg [y3,y4,y5,y6,y7,y8,y9])))))))
def f20_4  (x0 x1 x2 w3 y4 y5 y6 y7 y8 y9 y10:TV):Prg TV :=
 tv (pbin (.int .i64) .lss x2 x1) fun v45 =>
 Prg.ite (asBool v45) (
 tvs (pidx 1 x0 x2) fun e46 =>
 chk (Nat.blt 0 (List.length e46)) (
 tv (pbin (.int .i64) .lss x2 (I 3)) fun v47 =>
 Prg.ite (asBool v47) (
 nat (al x2) fun n48 =>
 Prg.ite (some (Nat.beq n48 2)) (
 call 48 [nth hole e46 0] fun v49 =>
 chk (ab aT [v49] 0) (
 tv (pbin (.int .i64) .add x2 (I 1)) fun v50 =>
 jmp [0,0,1,0,1,1,12,0,1,1,1,1,1,0,1,0,1,1] (f20_4_S x0 x1 v50 w3 y4 y5 y6 v49 y8 y9 y10))) (
 Prg.ite (some (Nat.beq n48 1)) (
 call 48 [nth hole e46 0] fun v51 =>
 chk (ab aT [v51] 0) (
 tv (pbin (.int .i64) .add x2 (I 1)) fun v52 =>
 jmp [0,0,1,0,1,1,12,0,1,1,1,1,1,0,1,0,1,1] (f20_4_S x0 x1 v52 w3 y4 y5 v51 y7 y8 y9 y10))) (
 Prg.ite (some (Nat.beq n48 0)) (
 call 48 [nth hole e46 0] fun v53 =>
 chk (ab aT [v53] 0) (
 tv (pbin (.int .i64) .add x2 (I 1)) fun v54 =>
 jmp [0,0,1,0,1,1,12,0,1,1,1,1,1,0,1,0,1,1] (f20_4_S x0 x1 v54 w3 y4 v53 y6 y7 y8 y9 y10))) (
 Prg.fail)))) (
 call 48 [nth hole e46 0] fun v55 =>
 chk (ab aT [v55] 0) (
 rws (pelems 1 (TV.sl true 1 (chunks 1 1 [v55]))) fun r56 =>
 tv (papp 1 w3 (iU r56)) fun v57 =>
 tv (pbin (.int .i64) .add x2 (I 1)) fun v58 =>
 jmp [0,0,1,0,1,1,12,0,1,1,1,1,1,0,1,0,1,1] (f20_4_S x0 x1 v58 v57 y4 y5 y6 y7 y8 y9 y10))))) (
 chk (aD (agg [y4,y5,y6,y7,y8,y9,y10])) (
 ret (agg [y4,y5,y6,y7,y8,y9,y10])))
def f20_5  (x0 x1 x2 w3 y4 y5 y6 y7 y8 y9 y10:TV):Prg TV :=
 tv (pbin (.int .i64) .lss x2 x1) fun v59 =>
 Prg.ite (asBool v59) (
 tvs (pidx 1 x0 x2) fun e60 =>
 chk (Nat.blt 0 (List.length e60)) (
 tv (pbin (.int .i64) .lss x2 (I 2)) fun v61 =>
 Prg.ite (asBool v61) (
 nat (al x2) fun n62 =>
 Prg.ite (some (Nat.beq n62 1)) (
 call 48 [nth hole e60 0] fun v63 =>
 chk (ab aT [v63] 0) (
 tv (pbin (.int .i64) .add x2 (I 1)) fun v64 =>
 jmp [0,0,1,0,1,1,10,0,1,1,1,1,1,1,1,0,1,0,1,1] (f20_5_S x0 x1 v64 w3 y4 y5 y6 v63 y8 y9 y10))) (
 Prg.ite (some (Nat.beq n62 0)) (
 call 48 [nth hole e60 0] fun v65 =>
 chk (ab aT [v65] 0) (
 tv (pbin (.int .i64) .add x2 (I 1)) fun v66 =>
 jmp [0,0,1,0,1,1,10,0,1,1,1,1,1,1,1,0,1,0,1,1] (f20_5_S x0 x1 v66 w3 y4 y5 v65 y7 y8 y9 y10))) (
 Prg.fail))) (
 call 48 [nth hole e60 0] fun v67 =>
 chk (ab aT [v67] 0) (
 rws (pelems 1 (TV.sl true 1 (chunks 1 1 [v67]))) fun r68 =>
 tv (papp 1 w3 (iU r68)) fun v69 =>
 tv (pbin (.int .i64) .add x2 (I 1)) fun v70 =>
 jmp [0,0,1,0,1,1,10,0,1,1,1,1,1,1,1,0,1,0,1,1] (f20_5_S x0 x1 v70 v69 y4 y5 y6 y7 y8 y9 y10))))) (
 chk (aD (agg [y4,y5,y6,y7,y8,y9,y10])) (
 ret (agg [y4,y5,y6,y7,y8,y9,y10])))
def f20_6  (x0 x1 x2 w3 y4 y5 y6 y7 y8 y9 y10:TV):Prg TV :=
 tv (pbin (.int .i64) .lss x2 x1) fun v71 =>
 Prg.ite (asBool v71) (
 tvs (pidx 1 x0 x2) fun e72 =>
 chk (Nat.blt 0 (List.length e72)) (
 tv (pbin (.int .i64) .lss x2 (I 2)) fun v73 =>
 Prg.ite (asBool v73) (
 nat (al x2) fun n74 =>
 Prg.ite (some (Nat.beq n74 1)) (
 call 48 [nth hole e72 0] fun v75 =>
 chk (ab aT [v75] 0) (
 tv (pbin (.int .i64) .add x2 (I 1)) fun v76 =>
 jmp [0,0,1,0,1,1,10,0,1,1,1,1,1,1,1,1,1,0,1,0,1,1] (f20_6_S x0 x1 v76 w3 y4 y5 y6 y7 y8 v75 y10))) (
 Prg.ite (some (Nat.beq n74 0)) (
 call 48 [nth hole e72 0] fun v77 =>
 chk (ab aT [v77] 0) (
 tv (pbin (.int .i64) .add x2 (I 1)) fun v78 =>
 jmp [0,0,1,0,1,1,10,0,1,1,1,1,1,1,1,1,1,0,1,0,1,1] (f20_6_S x0 x1 v78 w3 y4 v77 y6 y7 y8 y9 y10))) (
 Prg.fail))) (
 call 48 [nth hole e72 0] fun v79 =>
 chk (ab aT [v79] 0) (
 rws (pelems 1 (TV.sl true 1 (chunks 1 1 [v79]))) fun r80 =>
 tv (papp 1 w3 (iU r80)) fun v81 =>
 tv (pbin (.int .i64) .add x2 (I 1)) fun v82 =>
 jmp [0,0,1,0,1,1,10,0,1,1,1,1,1,1,1,1,1,0,1,0,1,1] (f20_6_S x0 x1 v82 v81 y4 y5 y6 y7 y8 y9 y10))))) (
 chk (aD (agg [y4,y5,y6,y7,y8,y9,w3])) (
 ret (agg [y4,y5,y6,y7,y8,y9,w3])))
def f20_7  (x0 x1 x2 w3 y4 y5 y6 y7 y8 y9 y10:TV):Prg TV :=
 tv (pbin (.int .i64) .lss x2 x1) fun v83 =>
 Prg.ite (asBool v83) (
 tvs (pidx 1 x0 x2) fun e84 =>
 chk (Nat.blt 0 (List.length e84)) (
 tv (pbin (.int .i64) .lss x2 (I 1)) fun v85 =>
 Prg.ite (asBool v85) (
 nat (al x2) fun n86 =>
 Prg.ite (some (Nat.beq n86 0)) (
 call 48 [nth hole e84 0] fun v87 =>
 chk (ab aT [v87] 0) (
 tv (pbin (.int .i64) .add x2 (I 1)) fun v88 =>
 jmp [0,0,1,0,1,1,8,0,1,1,1,1,1,1,1,1,1,1,1,0,1,0,1,1] (f20_7_S x0 x1 v88 w3 y4 y5 v87 y7 y8 y9 y10))) (
 Prg.fail)) (
 call 48 [nth hole e84 0] fun v89 =>
 chk (ab aT [v89] 0) (
 rws (pelems 1 (TV.sl true 1 (chunks 1 1 [v89]))) fun r90 =>
 tv (papp 1 w3 (iU r90)) fun v91 =>
 tv (pbin (.int .i64) .add x2 (I 1)) fun v92 =>
 jmp [0,0,1,0,1,1,8,0,1,1,1,1,1,1,1,1,1,1,1,0,1,0,1,1] (f20_7_S x0 x1 v92 v91 y4 y5 y6 y7 y8 y9 y10))))) (
 chk (aD (agg [y4,y5,y6,y7,y8,y9,y10])) (
 ret (agg [y4,y5,y6,y7,y8,y9,y10])))
def f20_8  (x0 x1 x2 w3 y4 y5 y6 y7 y8 y9 y10:TV):Prg TV :=
 tv (pbin (.int .i64) .lss x2 x1) fun v93 =>
 Prg.ite (asBool v93) (
 tvs (pidx 1 x0 x2) fun e94 =>
 chk (Nat.blt 0 (List.length e94)) (
 tv (pbin (.int .i64) .lss x2 (I 1)) fun v95 =>
 Prg.ite (asBool v95) (
 nat (al x2) fun n96 =>
 Prg.ite (some (Nat.beq n96 0)) (
 call 48 [nth hole e94 0] fun v97 =>
 chk (ab aT [v97] 0) (
 tv (pbin (.int .i64) .add x2 (I 1)) fun v98 =>
 jmp [0,0,1,0,1,1,8,0,1,1,1,1,1,1,1,1,1,1,1,1,1,0,1,0,1,1] (f20_8_S x0 x1 v98 w3 y4 v97 y6 y7 y8 y9 y10))) (
 Prg.fail)) (
 call 48 [nth hole e94 0] fun v99 =>
 chk (ab aT [v99] 0) (
 rws (pelems 1 (TV.sl true 1 (chunks 1 1 [v99]))) fun r100 =>
 tv (papp 1 w3 (iU r100)) fun v101 =>
 tv (pbin (.int .i64) .add x2 (I 1)) fun v102 =>
 jmp [0,0,1,0,1,1,8,0,1,1,1,1,1,1,1,1,1,1,1,1,1,0,1,0,1,1] (f20_8_S x0 x1 v102 v101 y4 y5 y6 y7 y8 y9 y10))))) (
 chk (aD (agg [y4,y5,y6,y7,y8,y9,y10])) (
 ret (agg [y4,y5,y6,y7,y8,y9,y10])))
theorem f20_MR (x0 x1:TV):aY prog 20 [x0,x1]=f20_M x0 x1:=by kernel_rfl
theorem f20_0_J  {x0 x1 x2 w3 y4 y5 y6 y7 y8 y9 y10 y11 y12 y13 y14 y15 y16 y17 y18:TV} {r:TV} (h:aa prog 20 (f20_0 x0 x1 x2 w3 y4 y5 y6 y7 y8 y9 y10 y11 y12 y13 y14 y15 y16 y17 y18) r):aa prog 20 (.jmp [0,0,1,0,1,1,8,0,1,0,1,0,1,0,1,1] (f20_0_S x0 x1 x2 w3 y4 y5 y6 y7 y8 y9 y10 y11 y12 y13 y14 y15 y16 y17 y18)) r:=aa.jmp (by kernel_rfl) h
theorem f20_1_J  {x0 x1 x2 y3 y4 y5 y6 y7 y8 y9:TV} {r:TV} (h:aa prog 20 (f20_1 x0 x1 x2 y3 y4 y5 y6 y7 y8 y9) r):aa prog 20 (.jmp [1,1,1,0,1,0,1,1] (f20_1_S x0 x1 x2 y3 y4 y5 y6 y7 y8 y9)) r:=aa.jmp (by kernel_rfl) h
theorem f20_2_J  {x0 x1 x2 w3 y4 y5 y6 y7 y8 y9 y10:TV} {r:TV} (h:aa prog 20 (f20_2 x0 x1 x2 w3 y4 y5 y6 y7 y8 y9 y10) r):aa prog 20 (.jmp [0,0,1,0,1,1,10,0,1,1,1,0,1,0,1,1] (f20_2_S x0 x1 x2 w3 y4 y5 y6 y7 y8 y9 y10)) r:=aa.jmp (by kernel_rfl) h
theorem f20_3_J  {x0 x1 x2 y3 y4 y5 y6 y7 y8 y9:TV} {r:TV} (h:aa prog 20 (f20_3 x0 x1 x2 y3 y4 y5 y6 y7 y8 y9) r):aa prog 20 (.jmp [1,1,1,1,1,0,1,0,1,1] (f20_3_S x0 x1 x2 y3 y4 y5 y6 y7 y8 y9)) r:=aa.jmp (by kernel_rfl) h
theorem f20_4_J  {x0 x1 x2 w3 y4 y5 y6 y7 y8 y9 y10:TV} {r:TV} (h:aa prog 20 (f20_4 x0 x1 x2 w3 y4 y5 y6 y7 y8 y9 y10) r):aa prog 20 (.jmp [0,0,1,0,1,1,12,0,1,1,1,1,1,0,1,0,1,1] (f20_4_S x0 x1 x2 w3 y4 y5 y6 y7 y8 y9 y10)) r:=aa.jmp (by kernel_rfl) h
theorem f20_5_J  {x0 x1 x2 w3 y4 y5 y6 y7 y8 y9 y10:TV} {r:TV} (h:aa prog 20 (f20_5 x0 x1 x2 w3 y4 y5 y6 y7 y8 y9 y10) r):aa prog 20 (.jmp [0,0,1,0,1,1,10,0,1,1,1,1,1,1,1,0,1,0,1,1] (f20_5_S x0 x1 x2 w3 y4 y5 y6 y7 y8 y9 y10)) r:=aa.jmp (by kernel_rfl) h
theorem f20_6_J  {x0 x1 x2 w3 y4 y5 y6 y7 y8 y9 y10:TV} {r:TV} (h:aa prog 20 (f20_6 x0 x1 x2 w3 y4 y5 y6 y7 y8 y9 y10) r):aa prog 20 (.jmp [0,0,1,0,1,1,10,0,1,1,1,1,1,1,1,1,1,0,1,0,1,1] (f20_6_S x0 x1 x2 w3 y4 y5 y6 y7 y8 y9 y10)) r:=aa.jmp (by kernel_rfl) h
theorem f20_7_J  {x0 x1 x2 w3 y4 y5 y6 y7 y8 y9 y10:TV} {r:TV} (h:aa prog 20 (f20_7 x0 x1 x2 w3 y4 y5 y6 y7 y8 y9 y10) r):aa prog 20 (.jmp [0,0,1,0,1,1,8,0,1,1,1,1,1,1,1,1,1,1,1,0,1,0,1,1] (f20_7_S x0 x1 x2 w3 y4 y5 y6 y7 y8 y9 y10)) r:=aa.jmp (by kernel_rfl) h
theorem f20_8_J  {x0 x1 x2 w3 y4 y5 y6 y7 y8 y9 y10:TV} {r:TV} (h:aa prog 20 (f20_8 x0 x1 x2 w3 y4 y5 y6 y7 y8 y9 y10) r):aa prog 20 (.jmp [0,0,1,0,1,1,8,0,1,1,1,1,1,1,1,1,1,1,1,1,1,0,1,0,1,1] (f20_8_S x0 x1 x2 w3 y4 y5 y6 y7 y8 y9 y10)) r:=aa.jmp (by kernel_rfl) h
def f21_M (x0:TV):Prg TV :=
 tv (pbin Kd.str .eql x0 (TV.lit (Value.string (ByteArray.mk (Array.mk [(99:UInt8),(111:UInt8),(110:UInt8),(115:UInt8),(116:UInt8)]))))) fun v0 =>
 Prg.ite (asBool v0) (
 ret (I 1)) (
 tv (pbin Kd.str .eql x0 (TV.lit (Value.string (ByteArray.mk (Array.mk [(99:UInt8),(111:UInt8),(112:UInt8),(121:UInt8)]))))) fun v1 =>
 Prg.ite (asBool v1) (
 ret (I 2)) (
 tv (pbin Kd.str .eql x0 (TV.lit (Value.string (ByteArray.mk (Array.mk [(97:UInt8),(100:UInt8),(100:UInt8)]))))) fun v2 =>
 Prg.ite (asBool v2) (
 ret (I 3)) (
 tv (pbin Kd.str .eql x0 (TV.lit (Value.string (ByteArray.mk (Array.mk [(115:UInt8),(117:UInt8),(98:UInt8)]))))) fun v3 =>
 Prg.ite (asBool v3) (
 ret (I 4)) (
 tv (pbin Kd.str .eql x0 (TV.lit (Value.string (ByteArray.mk (Array.mk [(109:UInt8),(117:UInt8),(108:UInt8)]))))) fun v4 =>
 Prg.ite (asBool v4) (
 ret (I 5)) (
 tv (pbin Kd.str .eql x0 (TV.lit (Value.string (ByteArray.mk (Array.mk [(100:UInt8),(105:UInt8),(118:UInt8)]))))) fun v5 =>
 Prg.ite (asBool v5) (
 ret (I 6)) (
 tv (pbin Kd.str .eql x0 (TV.lit (Value.string (ByteArray.mk (Array.mk [(101:UInt8),(113:UInt8)]))))) fun v6 =>
 Prg.ite (asBool v6) (
 ret (I 7)) (
 tv (pbin Kd.str .eql x0 (TV.lit (Value.string (ByteArray.mk (Array.mk [(108:UInt8),(116:UInt8)]))))) fun v7 =>
 Prg.ite (asBool v7) (
 ret (I 8)) (
 tv (pbin Kd.str .eql x0 (TV.lit (Value.string (ByteArray.mk (Array.mk [(108:UInt8),(111:UInt8),(97:UInt8),(100:UInt8)]))))) fun v8 =>
 Prg.ite (asBool v8) (
 ret (I 9)) (
 tv (pbin Kd.str .eql x0 (TV.lit (Value.string (ByteArray.mk (Array.mk [(115:UInt8),(116:UInt8),(111:UInt8),(114:UInt8),(101:UInt8)]))))) fun v9 =>
 Prg.ite (asBool v9) (
 ret (I 10)) (
 tv (pbin Kd.str .eql x0 (TV.lit (Value.string (ByteArray.mk (Array.mk [(99:UInt8),(97:UInt8),(108:UInt8),(108:UInt8)]))))) fun v10 =>
 Prg.ite (asBool v10) (
 ret (I 11)) (
 tv (pbin Kd.str .eql x0 (TV.lit (Value.string (ByteArray.mk (Array.mk [(111:UInt8),(117:UInt8),(116:UInt8)]))))) fun v11 =>
 Prg.ite (asBool v11) (
 ret (I 12)) (
 tv (pbin Kd.str .eql x0 (TV.lit (Value.string (ByteArray.mk (Array.mk [(105:UInt8),(110:UInt8)]))))) fun v12 =>
 Prg.ite (asBool v12) (
 ret (I 13)) (
 ret (I 0))))))))))))))
theorem f21_MR (x0:TV):aY prog 21 [x0]=f21_M x0:=by kernel_rfl
def f22_M (x0:TV):Prg TV :=
 chk (TV.isAgg x0 7) (
 tv (pbin (.int .i64) .eql (cell x0 0) (I 1)) fun v0 =>
 Prg.ite (asBool v0) (
 tv (pconv (.int .i64) (cell x0 4)) fun v1 =>
 call 36 [TV.lit (Value.string (ByteArray.mk (Array.mk [(99:UInt8),(111:UInt8),(110:UInt8),(115:UInt8),(116:UInt8)]))),frz (TV.sl true 1 (chunks 1 2 [cell x0 1,v1]))] fun v2 =>
 chk (ab cq [v2] 0) (
 ret v2)) (
 tv (pbin (.int .i64) .eql (cell x0 0) (I 2)) fun v3 =>
 Prg.ite (asBool v3) (
 call 36 [TV.lit (Value.string (ByteArray.mk (Array.mk [(99:UInt8),(111:UInt8),(112:UInt8),(121:UInt8)]))),frz (TV.sl true 1 (chunks 1 2 [cell x0 1,cell x0 2]))] fun v4 =>
 chk (ab cq [v4] 0) (
 ret v4)) (
 tv (pbin (.int .i64) .eql (cell x0 0) (I 3)) fun v5 =>
 Prg.ite (asBool v5) (
 call 36 [TV.lit (Value.string (ByteArray.mk (Array.mk [(97:UInt8),(100:UInt8),(100:UInt8)]))),frz (TV.sl true 1 (chunks 1 3 [cell x0 1,cell x0 2,cell x0 3]))] fun v6 =>
 chk (ab cq [v6] 0) (
 ret v6)) (
 tv (pbin (.int .i64) .eql (cell x0 0) (I 4)) fun v7 =>
 Prg.ite (asBool v7) (
 call 36 [TV.lit (Value.string (ByteArray.mk (Array.mk [(115:UInt8),(117:UInt8),(98:UInt8)]))),frz (TV.sl true 1 (chunks 1 3 [cell x0 1,cell x0 2,cell x0 3]))] fun v8 =>
 chk (ab cq [v8] 0) (
 ret v8)) (
 tv (pbin (.int .i64) .eql (cell x0 0) (I 5)) fun v9 =>
 Prg.ite (asBool v9) (
 call 36 [TV.lit (Value.string (ByteArray.mk (Array.mk [(109:UInt8),(117:UInt8),(108:UInt8)]))),frz (TV.sl true 1 (chunks 1 3 [cell x0 1,cell x0 2,cell x0 3]))] fun v10 =>
 chk (ab cq [v10] 0) (
 ret v10)) (
 tv (pbin (.int .i64) .eql (cell x0 0) (I 6)) fun v11 =>
 Prg.ite (asBool v11) (
 call 36 [TV.lit (Value.string (ByteArray.mk (Array.mk [(100:UInt8),(105:UInt8),(118:UInt8)]))),frz (TV.sl true 1 (chunks 1 3 [cell x0 1,cell x0 2,cell x0 3]))] fun v12 =>
 chk (ab cq [v12] 0) (
 ret v12)) (
 tv (pbin (.int .i64) .eql (cell x0 0) (I 7)) fun v13 =>
 Prg.ite (asBool v13) (
 call 36 [TV.lit (Value.string (ByteArray.mk (Array.mk [(101:UInt8),(113:UInt8)]))),frz (TV.sl true 1 (chunks 1 3 [cell x0 1,cell x0 2,cell x0 3]))] fun v14 =>
 chk (ab cq [v14] 0) (
 ret v14)) (
 tv (pbin (.int .i64) .eql (cell x0 0) (I 8)) fun v15 =>
 Prg.ite (asBool v15) (
 call 36 [TV.lit (Value.string (ByteArray.mk (Array.mk [(108:UInt8),(116:UInt8)]))),frz (TV.sl true 1 (chunks 1 3 [cell x0 1,cell x0 2,cell x0 3]))] fun v16 =>
 chk (ab cq [v16] 0) (
 ret v16)) (
 tv (pbin (.int .i64) .eql (cell x0 0) (I 9)) fun v17 =>
 Prg.ite (asBool v17) (
 call 36 [TV.lit (Value.string (ByteArray.mk (Array.mk [(108:UInt8),(111:UInt8),(97:UInt8),(100:UInt8)]))),frz (TV.sl true 1 (chunks 1 2 [cell x0 1,cell x0 2]))] fun v18 =>
 chk (ab cq [v18] 0) (
 ret v18)) (
 tv (pbin (.int .i64) .eql (cell x0 0) (I 10)) fun v19 =>
 Prg.ite (asBool v19) (
 call 36 [TV.lit (Value.string (ByteArray.mk (Array.mk [(115:UInt8),(116:UInt8),(111:UInt8),(114:UInt8),(101:UInt8)]))),frz (TV.sl true 1 (chunks 1 2 [cell x0 2,cell x0 3]))] fun v20 =>
 chk (ab cq [v20] 0) (
 ret v20)) (
 tv (pbin (.int .i64) .eql (cell x0 0) (I 11)) fun v21 =>
 Prg.ite (asBool v21) (
 call 46 [cell x0 6,frz (TV.sl true 1 (chunks 1 2 [cell x0 1,cell x0 5]))] fun v22 =>
 chk (ab zSl [v22] 0) (
 call 36 [TV.lit (Value.string (ByteArray.mk (Array.mk [(99:UInt8),(97:UInt8),(108:UInt8),(108:UInt8)]))),frz v22] fun v23 =>
 chk (ab cq [v23] 0) (
 ret v23))) (
 tv (pbin (.int .i64) .eql (cell x0 0) (I 12)) fun v24 =>
 Prg.ite (asBool v24) (
 call 36 [TV.lit (Value.string (ByteArray.mk (Array.mk [(111:UInt8),(117:UInt8),(116:UInt8)]))),frz (TV.sl true 1 (chunks 1 1 [cell x0 2]))] fun v25 =>
 chk (ab cq [v25] 0) (
 ret v25)) (
 tv (pbin (.int .i64) .eql (cell x0 0) (I 13)) fun v26 =>
 Prg.ite (asBool v26) (
 call 36 [TV.lit (Value.string (ByteArray.mk (Array.mk [(105:UInt8),(110:UInt8)]))),frz (TV.sl true 1 (chunks 1 1 [cell x0 1]))] fun v27 =>
 chk (ab cq [v27] 0) (
 ret v27)) (
 ret (TV.lit (Value.string (ByteArray.mk (Array.mk []))))))))))))))))))
theorem f22_MR (x0:TV):aY prog 22 [x0]=f22_M x0:=by kernel_rfl
def f23_0_S  (x0 x1 x2 x3 w4:TV):ASt:=⟨[AV.tv x0,AV.tv x1,Jk,Jk,Jk,Sr 0,AV.tv x2,AV.tv x3] ++ Rj 27,[Tr w4] ++ Rz 58,[]⟩
def f23_1_S  (x0 x1 x2 x3 x4 w5:TV):ASt:=⟨[AV.tv x0,AV.tv x1,Jk,Jk,Jk,Sr 0,AV.tv x2,AV.tv x3] ++ Rj 16 ++ [AV.tv x4] ++ Rj 10,[Tr w5] ++ Rz 58,[]⟩
def f23_M (x0 x1:TV):Prg TV :=
 chk true (
 jmp [0,0,1,0,1,1,1] (f23_0_S x0 x1 (I 0) (I 0) (TV.lit af)))
def f23_0  (x0 x1 x2 x3 w4:TV):Prg TV :=
 tv (plen Kd.str x0) fun v0 =>
 tv (pbin (.int .i64) .leq x3 v0) fun v1 =>
 Prg.ite (asBool v1) (
 tv (plen Kd.str x0) fun v2 =>
 tv (pbin (.int .i64) .eql x3 v2) fun v3 =>
 Prg.ite (asBool v3) (
 jmp [1,0,0,1,0,0,1,0,1,1,1] (f23_1_S x0 x1 x2 x3 (B true) w4)) (
 tv (pstr x0 x3) fun v4 =>
 tv (pbin (.int .u8) .eql v4 x1) fun v5 =>
 jmp [1,0,0,1,0,0,1,0,1,1,1] (f23_1_S x0 x1 x2 x3 v5 w4))) (
 chk (aD w4) (
 ret w4))
def f23_1  (x0 x1 x2 x3 x4 w5:TV):Prg TV :=
 Prg.ite (asBool x4) (
 nat (al x2) fun n6 =>
 nat (al x3) fun n7 =>
 tv (pslice Kd.str 0 x0 (some n6) (some n7)) fun v8 =>
 rws (pelems 1 (TV.sl true 1 (chunks 1 1 [v8]))) fun r9 =>
 tv (papp 1 w5 (iU r9)) fun v10 =>
 tv (pbin (.int .i64) .add x3 (I 1)) fun v11 =>
 tv (pbin (.int .i64) .add x3 (I 1)) fun v12 =>
 jmp [0,0,1,0,1,1,1] (f23_0_S x0 x1 v11 v12 v10)) (
 tv (pbin (.int .i64) .add x3 (I 1)) fun v13 =>
 jmp [0,0,1,0,1,1,1] (f23_0_S x0 x1 x2 v13 w5))
theorem f23_MR (x0 x1:TV):aY prog 23 [x0,x1]=f23_M x0 x1:=by kernel_rfl
theorem f23_0_J  {x0 x1 x2 x3 w4:TV} {r:TV} (h:aa prog 23 (f23_0 x0 x1 x2 x3 w4) r):aa prog 23 (.jmp [0,0,1,0,1,1,1] (f23_0_S x0 x1 x2 x3 w4)) r:=aa.jmp (by kernel_rfl) h
theorem f23_1_J  {x0 x1 x2 x3 x4 w5:TV} {r:TV} (h:aa prog 23 (f23_1 x0 x1 x2 x3 x4 w5) r):aa prog 23 (.jmp [1,0,0,1,0,0,1,0,1,1,1] (f23_1_S x0 x1 x2 x3 x4 w5)) r:=aa.jmp (by kernel_rfl) h
end Go.Ab.Z14
end
section
set_option maxRecDepth 100000
namespace Go.Ab.Z14
open Go Go.Ab Go.Proofs
open Go.Ab.TV (hole cell comp isSl isSc isTup cellsL tup agg)
open Go.Ab.Prg (tv tvs rws nat chk call jmp ret)
def f24_M (x0:TV):Prg TV :=
 call 47 [x0,frz (TV.sl true 1 (chunks 1 13 [TV.lit (Value.string (ByteArray.mk (Array.mk [(99:UInt8),(111:UInt8),(110:UInt8),(115:UInt8),(116:UInt8)]))),TV.lit (Value.string (ByteArray.mk (Array.mk [(99:UInt8),(111:UInt8),(112:UInt8),(121:UInt8)]))),TV.lit (Value.string (ByteArray.mk (Array.mk [(97:UInt8),(100:UInt8),(100:UInt8)]))),TV.lit (Value.string (ByteArray.mk (Array.mk [(115:UInt8),(117:UInt8),(98:UInt8)]))),TV.lit (Value.string (ByteArray.mk (Array.mk [(109:UInt8),(117:UInt8),(108:UInt8)]))),TV.lit (Value.string (ByteArray.mk (Array.mk [(100:UInt8),(105:UInt8),(118:UInt8)]))),TV.lit (Value.string (ByteArray.mk (Array.mk [(101:UInt8),(113:UInt8)]))),TV.lit (Value.string (ByteArray.mk (Array.mk [(108:UInt8),(116:UInt8)]))),TV.lit (Value.string (ByteArray.mk (Array.mk [(108:UInt8),(111:UInt8),(97:UInt8),(100:UInt8)]))),TV.lit (Value.string (ByteArray.mk (Array.mk [(115:UInt8),(116:UInt8),(111:UInt8),(114:UInt8),(101:UInt8)]))),TV.lit (Value.string (ByteArray.mk (Array.mk [(99:UInt8),(97:UInt8),(108:UInt8),(108:UInt8)]))),TV.lit (Value.string (ByteArray.mk (Array.mk [(111:UInt8),(117:UInt8),(116:UInt8)]))),TV.lit (Value.string (ByteArray.mk (Array.mk [(105:UInt8),(110:UInt8)])))]))] fun v0 =>
 chk (ab aT [v0] 0) (
 ret v0)
theorem f24_MR (x0:TV):aY prog 24 [x0]=f24_M x0:=by kernel_rfl
def f25_0_S  (x0 x1 w2:TV):ASt:=⟨[AV.tv x0] ++ Rj 5 ++ [Sr 0,AV.tv x1] ++ Rj 20,[Tr w2] ++ Rz 51,[]⟩
def f25_M (x0 x1:TV):Prg TV :=
 chk true (
 jmp [0,0,1,0,1,1] (f25_0_S x0 x1 (TV.lit af)))
def f25_0  (x0 x1 w2:TV):Prg TV :=
 tv (plen (.slice 9) x0) fun v0 =>
 tv (pbin (.int .i64) .lss x1 v0) fun v1 =>
 Prg.ite (asBool v1) (
 tvs (pidx 1 x0 x1) fun e2 =>
 chk (Nat.blt 0 (List.length e2)) (
 call 32 [nth hole e2 0] fun v3 =>
 chk (ab aT [v3] 0) (
 tv (pbin (.int .i64) .lss v3 (I 0)) fun v4 =>
 Prg.ite (asBool v4) (
 chk true (
 ret (tup [TV.lit af,B false]))) (
 rws (pelems 1 (TV.sl true 1 (chunks 1 1 [v3]))) fun r5 =>
 tv (papp 1 w2 (iU r5)) fun v6 =>
 tv (pbin (.int .i64) .add x1 (I 1)) fun v7 =>
 jmp [0,0,1,0,1,1] (f25_0_S x0 v7 v6))))) (
 chk (bR [w2,B true]) (
 ret (tup [w2,B true])))
theorem f25_MR (x0 x1:TV):aY prog 25 [x0,x1]=f25_M x0 x1:=by kernel_rfl
theorem f25_0_J  {x0 x1 w2:TV} {r:TV} (h:aa prog 25 (f25_0 x0 x1 w2) r):aa prog 25 (.jmp [0,0,1,0,1,1] (f25_0_S x0 x1 w2)) r:=aa.jmp (by kernel_rfl) h
def f26_0_S  (x0 x1 x2 y3 y4 y5 y6 y7 y8 y9 y10:TV):ASt:=⟨[Jk,AV.tv x0,Jk,Jk,Pt 0,Pt 1,Jk,Jk,AV.tv x1,AV.tv x2] ++ Rj 31,[some (BC.cells [CA.junk,CA.junk,CA.junk,CA.junk,CA.junk,CA.junk,CA.junk,CA.junk]),some (BC.cells [CA.t y3,CA.t y4,CA.t y5,CA.t y6,CA.t y7,CA.t y8,CA.t y9,CA.t y10])] ++ Rz 63,[]⟩
def f26_1_S  (x0 x1 x2 w3 y4 y5 y6 y7 y8 y9 y10 y11:TV):ASt:=⟨[Jk,AV.one (CA.psl 0 1),Jk,Jk,Jk,Sr 1,Jk,Jk,AV.tv x0,AV.tv x1,AV.tv x2] ++ Rj 22,[some (BC.cells [CA.ptr 3 1]),Tr w3,some (BC.cells [CA.junk,CA.junk,CA.junk,CA.junk,CA.junk,CA.junk,CA.junk,CA.junk]),some (BC.cells [CA.t y4,CA.t y5,CA.t y6,CA.t y7,CA.t y8,CA.t y9,CA.t y10,CA.t y11])] ++ Rz 94,(Rj 4 ++ [Pt 2,Pt 3] ++ Rj 35)⟩
def f26_2_S  (x0 x1 x2 w3 y4 y5 y6 y7 y8 y9 y10 y11:TV):ASt:=⟨[Jk,AV.one (CA.psl 0 1),Jk,Jk,Jk,Sr 1,Jk,Jk,AV.tv x0,AV.tv x1,AV.tv x2] ++ Rj 22,[some (BC.cells [CA.ptr 3 5]),Tr w3,some (BC.cells [CA.junk,CA.junk,CA.junk,CA.junk,CA.junk,CA.junk,CA.junk,CA.junk]),some (BC.cells [CA.t y4,CA.t y5,CA.t y6,CA.t y7,CA.t y8,CA.t y9,CA.t y10,CA.t y11])] ++ Rz 94,(Rj 4 ++ [Pt 2,Pt 3] ++ Rj 35)⟩
def f26_3_S  (x0 x1 x2 w3 y4 y5 y6 y7 y8 y9 y10 y11:TV):ASt:=⟨[Jk,AV.one (CA.psl 0 3),Jk,Jk,Jk,Sr 1,Jk,Jk,AV.tv x0,AV.tv x1,AV.tv x2] ++ Rj 22,[some (BC.cells [CA.ptr 3 1,CA.ptr 3 5,CA.ptr 3 6]),Tr w3,some (BC.cells [CA.junk,CA.junk,CA.junk,CA.junk,CA.junk,CA.junk,CA.junk,CA.junk]),some (BC.cells [CA.t y4,CA.t y5,CA.t y6,CA.t y7,CA.t y8,CA.t y9,CA.t y10,CA.t y11])] ++ Rz 94,(Rj 4 ++ [Pt 2,Pt 3] ++ Rj 35)⟩
def f26_4_S  (x0 x1 x2 w3 y4 y5 y6 y7 y8 y9 y10 y11:TV):ASt:=⟨[Jk,AV.one (CA.psl 0 4),Jk,Jk,Jk,Sr 1,Jk,Jk,AV.tv x0,AV.tv x1,AV.tv x2] ++ Rj 22,[some (BC.cells [CA.ptr 3 2,CA.ptr 3 3,CA.ptr 3 5,CA.ptr 3 7]),Tr w3,some (BC.cells [CA.junk,CA.junk,CA.junk,CA.junk,CA.junk,CA.junk,CA.junk,CA.junk]),some (BC.cells [CA.t y4,CA.t y5,CA.t y6,CA.t y7,CA.t y8,CA.t y9,CA.t y10,CA.t y11])] ++ Rz 94,(Rj 4 ++ [Pt 2,Pt 3] ++ Rj 35)⟩
def f26_M (x0 x1:TV):Prg TV :=
 chk (TV.fS x0) (
 tv (pbin (.int .i64) .eql x0 (I 1)) fun v0 =>
 Prg.ite (asBool v0) (
 jmp [1,0,1,0,1,1] (f26_0_S x1 x0 v0 x0 (I 0) (I 0) (I 0) (TV.lit af) (I 0) (I 0) (I 0))) (
 tv (pbin (.int .i64) .eql x0 (I 5)) fun v1 =>
 jmp [1,0,1,0,1,1] (f26_0_S x1 x0 v1 x0 (I 0) (I 0) (I 0) (TV.lit af) (I 0) (I 0) (I 0))))
def f26_0  (x0 x1 x2 y3 y4 y5 y6 y7 y8 y9 y10:TV):Prg TV :=
 Prg.ite (asBool x2) (
 tv (plen (.slice 9) x0) fun v2 =>
 chk true (
 jmp [0,0,1,0,1,1,8,0,1,0,1,0,1,1] (f26_1_S x0 v2 (I 0) (TV.lit af) y3 y4 y5 y6 y7 y8 y9 y10))) (
 tv (pbin (.int .i64) .eql x1 (I 2)) fun v3 =>
 Prg.ite (asBool v3) (
 tv (plen (.slice 9) x0) fun v4 =>
 chk true (
 jmp [0,0,1,0,1,1,8,0,1,1,1,0,1,0,1,1] (f26_2_S x0 v4 (I 0) (TV.lit af) y3 y4 y5 y6 y7 y8 y9 y10))) (
 tv (pbin (.int .i64) .eql x1 (I 3)) fun v5 =>
 Prg.ite (asBool v5) (
 tv (plen (.slice 9) x0) fun v6 =>
 chk true (
 jmp [0,0,1,0,1,1,12,0,1,1,1,1,1,0,1,0,1,1] (f26_3_S x0 v6 (I 0) (TV.lit af) y3 y4 y5 y6 y7 y8 y9 y10))) (
 tv (pbin (.int .i64) .eql x1 (I 4)) fun v7 =>
 Prg.ite (asBool v7) (
 tv (plen (.slice 9) x0) fun v8 =>
 chk true (
 jmp [0,0,1,0,1,1,14,0,1,1,1,1,1,1,1,0,1,0,1,1] (f26_4_S x0 v8 (I 0) (TV.lit af) y3 y4 y5 y6 y7 y8 y9 y10))) (
 chk (aD (agg [y3,y4,y5,y6,y7,y8,y9,y10])) (
 ret (agg [y3,y4,y5,y6,y7,y8,y9,y10]))))))
def f26_1  (x0 x1 x2 w3 y4 y5 y6 y7 y8 y9 y10 y11:TV):Prg TV :=
 tv (pbin (.int .i64) .lss x2 x1) fun v9 =>
 Prg.ite (asBool v9) (
 tvs (pidx 1 x0 x2) fun e10 =>
 chk (Nat.blt 0 (List.length e10)) (
 tv (pbin (.int .i64) .lss x2 (I 1)) fun v11 =>
 Prg.ite (asBool v11) (
 nat (al x2) fun n12 =>
 Prg.ite (some (Nat.beq n12 0)) (
 call 48 [nth hole e10 0] fun v13 =>
 chk (ab aT [v13] 0) (
 tv (pbin (.int .i64) .add x2 (I 1)) fun v14 =>
 jmp [0,0,1,0,1,1,8,0,1,0,1,0,1,1] (f26_1_S x0 x1 v14 w3 y4 v13 y6 y7 y8 y9 y10 y11))) (
 Prg.fail)) (
 call 48 [nth hole e10 0] fun v15 =>
 chk (ab aT [v15] 0) (
 rws (pelems 1 (TV.sl true 1 (chunks 1 1 [v15]))) fun r16 =>
 tv (papp 1 w3 (iU r16)) fun v17 =>
 tv (pbin (.int .i64) .add x2 (I 1)) fun v18 =>
 jmp [0,0,1,0,1,1,8,0,1,0,1,0,1,1] (f26_1_S x0 x1 v18 v17 y4 y5 y6 y7 y8 y9 y10 y11))))) (
 chk (aD (agg [y4,y5,y6,y7,y8,y9,y10,y11])) (
 ret (agg [y4,y5,y6,y7,y8,y9,y10,y11])))
def f26_2  (x0 x1 x2 w3 y4 y5 y6 y7 y8 y9 y10 y11:TV):Prg TV :=
 tv (pbin (.int .i64) .lss x2 x1) fun v19 =>
 Prg.ite (asBool v19) (
 tvs (pidx 1 x0 x2) fun e20 =>
 chk (Nat.blt 0 (List.length e20)) (
 tv (pbin (.int .i64) .lss x2 (I 1)) fun v21 =>
 Prg.ite (asBool v21) (
 nat (al x2) fun n22 =>
 Prg.ite (some (Nat.beq n22 0)) (
 call 48 [nth hole e20 0] fun v23 =>
 chk (ab aT [v23] 0) (
 tv (pbin (.int .i64) .add x2 (I 1)) fun v24 =>
 jmp [0,0,1,0,1,1,8,0,1,1,1,0,1,0,1,1] (f26_2_S x0 x1 v24 w3 y4 y5 y6 y7 y8 v23 y10 y11))) (
 Prg.fail)) (
 call 48 [nth hole e20 0] fun v25 =>
 chk (ab aT [v25] 0) (
 rws (pelems 1 (TV.sl true 1 (chunks 1 1 [v25]))) fun r26 =>
 tv (papp 1 w3 (iU r26)) fun v27 =>
 tv (pbin (.int .i64) .add x2 (I 1)) fun v28 =>
 jmp [0,0,1,0,1,1,8,0,1,1,1,0,1,0,1,1] (f26_2_S x0 x1 v28 v27 y4 y5 y6 y7 y8 y9 y10 y11))))) (
 chk (aD (agg [y4,y5,y6,y7,y8,y9,y10,y11])) (
 ret (agg [y4,y5,y6,y7,y8,y9,y10,y11])))
def f26_3  (x0 x1 x2 w3 y4 y5 y6 y7 y8 y9 y10 y11:TV):Prg TV :=
 tv (pbin (.int .i64) .lss x2 x1) fun v29 =>
 Prg.ite (asBool v29) (
 tvs (pidx 1 x0 x2) fun e30 =>
 chk (Nat.blt 0 (List.length e30)) (
 tv (pbin (.int .i64) .lss x2 (I 3)) fun v31 =>
 Prg.ite (asBool v31) (
 nat (al x2) fun n32 =>
 Prg.ite (some (Nat.beq n32 2)) (
 call 48 [nth hole e30 0] fun v33 =>
 chk (ab aT [v33] 0) (
 tv (pbin (.int .i64) .add x2 (I 1)) fun v34 =>
 jmp [0,0,1,0,1,1,12,0,1,1,1,1,1,0,1,0,1,1] (f26_3_S x0 x1 v34 w3 y4 y5 y6 y7 y8 y9 v33 y11))) (
 Prg.ite (some (Nat.beq n32 1)) (
 call 48 [nth hole e30 0] fun v35 =>
 chk (ab aT [v35] 0) (
 tv (pbin (.int .i64) .add x2 (I 1)) fun v36 =>
 jmp [0,0,1,0,1,1,12,0,1,1,1,1,1,0,1,0,1,1] (f26_3_S x0 x1 v36 w3 y4 y5 y6 y7 y8 v35 y10 y11))) (
 Prg.ite (some (Nat.beq n32 0)) (
 call 48 [nth hole e30 0] fun v37 =>
 chk (ab aT [v37] 0) (
 tv (pbin (.int .i64) .add x2 (I 1)) fun v38 =>
 jmp [0,0,1,0,1,1,12,0,1,1,1,1,1,0,1,0,1,1] (f26_3_S x0 x1 v38 w3 y4 v37 y6 y7 y8 y9 y10 y11))) (
 Prg.fail)))) (
 call 48 [nth hole e30 0] fun v39 =>
 chk (ab aT [v39] 0) (
 rws (pelems 1 (TV.sl true 1 (chunks 1 1 [v39]))) fun r40 =>
 tv (papp 1 w3 (iU r40)) fun v41 =>
 tv (pbin (.int .i64) .add x2 (I 1)) fun v42 =>
 jmp [0,0,1,0,1,1,12,0,1,1,1,1,1,0,1,0,1,1] (f26_3_S x0 x1 v42 v41 y4 y5 y6 y7 y8 y9 y10 y11))))) (
 chk (aD (agg [y4,y5,y6,y7,y8,y9,y10,y11])) (
 ret (agg [y4,y5,y6,y7,y8,y9,y10,y11])))
def f26_4  (x0 x1 x2 w3 y4 y5 y6 y7 y8 y9 y10 y11:TV):Prg TV :=
 tv (pbin (.int .i64) .lss x2 x1) fun v43 =>
 Prg.ite (asBool v43) (
 tvs (pidx 1 x0 x2) fun e44 =>
 chk (Nat.blt 0 (List.length e44)) (
 tv (pbin (.int .i64) .lss x2 (I 4)) fun v45 =>
 Prg.ite (asBool v45) (
 nat (al x2) fun n46 =>
 Prg.ite (some (Nat.beq n46 3)) (
 call 48 [nth hole e44 0] fun v47 =>
 chk (ab aT [v47] 0) (
 tv (pbin (.int .i64) .add x2 (I 1)) fun v48 =>
 jmp [0,0,1,0,1,1,14,0,1,1,1,1,1,1,1,0,1,0,1,1] (f26_4_S x0 x1 v48 w3 y4 y5 y6 y7 y8 y9 y10 v47))) (
 Prg.ite (some (Nat.beq n46 2)) (
 call 48 [nth hole e44 0] fun v49 =>
 chk (ab aT [v49] 0) (
 tv (pbin (.int .i64) .add x2 (I 1)) fun v50 =>
 jmp [0,0,1,0,1,1,14,0,1,1,1,1,1,1,1,0,1,0,1,1] (f26_4_S x0 x1 v50 w3 y4 y5 y6 y7 y8 v49 y10 y11))) (
 Prg.ite (some (Nat.beq n46 1)) (
 call 48 [nth hole e44 0] fun v51 =>
 chk (ab aT [v51] 0) (
 tv (pbin (.int .i64) .add x2 (I 1)) fun v52 =>
 jmp [0,0,1,0,1,1,14,0,1,1,1,1,1,1,1,0,1,0,1,1] (f26_4_S x0 x1 v52 w3 y4 y5 y6 v51 y8 y9 y10 y11))) (
 Prg.ite (some (Nat.beq n46 0)) (
 call 48 [nth hole e44 0] fun v53 =>
 chk (ab aT [v53] 0) (
 tv (pbin (.int .i64) .add x2 (I 1)) fun v54 =>
 jmp [0,0,1,0,1,1,14,0,1,1,1,1,1,1,1,0,1,0,1,1] (f26_4_S x0 x1 v54 w3 y4 y5 v53 y7 y8 y9 y10 y11))) (
 Prg.fail))))) (
 call 48 [nth hole e44 0] fun v55 =>
 chk (ab aT [v55] 0) (
 rws (pelems 1 (TV.sl true 1 (chunks 1 1 [v55]))) fun r56 =>
 tv (papp 1 w3 (iU r56)) fun v57 =>
 tv (pbin (.int .i64) .add x2 (I 1)) fun v58 =>
 jmp [0,0,1,0,1,1,14,0,1,1,1,1,1,1,1,0,1,0,1,1] (f26_4_S x0 x1 v58 v57 y4 y5 y6 y7 y8 y9 y10 y11))))) (
 chk (aD (agg [y4,y5,y6,y7,w3,y9,y10,y11])) (
 ret (agg [y4,y5,y6,y7,w3,y9,y10,y11])))
theorem f26_MR (x0 x1:TV):aY prog 26 [x0,x1]=f26_M x0 x1:=by kernel_rfl
theorem f26_0_J  {x0 x1 x2 y3 y4 y5 y6 y7 y8 y9 y10:TV} {r:TV} (h:aa prog 26 (f26_0 x0 x1 x2 y3 y4 y5 y6 y7 y8 y9 y10) r):aa prog 26 (.jmp [1,0,1,0,1,1] (f26_0_S x0 x1 x2 y3 y4 y5 y6 y7 y8 y9 y10)) r:=aa.jmp (by kernel_rfl) h
theorem f26_1_J  {x0 x1 x2 w3 y4 y5 y6 y7 y8 y9 y10 y11:TV} {r:TV} (h:aa prog 26 (f26_1 x0 x1 x2 w3 y4 y5 y6 y7 y8 y9 y10 y11) r):aa prog 26 (.jmp [0,0,1,0,1,1,8,0,1,0,1,0,1,1] (f26_1_S x0 x1 x2 w3 y4 y5 y6 y7 y8 y9 y10 y11)) r:=aa.jmp (by kernel_rfl) h
theorem f26_2_J  {x0 x1 x2 w3 y4 y5 y6 y7 y8 y9 y10 y11:TV} {r:TV} (h:aa prog 26 (f26_2 x0 x1 x2 w3 y4 y5 y6 y7 y8 y9 y10 y11) r):aa prog 26 (.jmp [0,0,1,0,1,1,8,0,1,1,1,0,1,0,1,1] (f26_2_S x0 x1 x2 w3 y4 y5 y6 y7 y8 y9 y10 y11)) r:=aa.jmp (by kernel_rfl) h
theorem f26_3_J  {x0 x1 x2 w3 y4 y5 y6 y7 y8 y9 y10 y11:TV} {r:TV} (h:aa prog 26 (f26_3 x0 x1 x2 w3 y4 y5 y6 y7 y8 y9 y10 y11) r):aa prog 26 (.jmp [0,0,1,0,1,1,12,0,1,1,1,1,1,0,1,0,1,1] (f26_3_S x0 x1 x2 w3 y4 y5 y6 y7 y8 y9 y10 y11)) r:=aa.jmp (by kernel_rfl) h
theorem f26_4_J  {x0 x1 x2 w3 y4 y5 y6 y7 y8 y9 y10 y11:TV} {r:TV} (h:aa prog 26 (f26_4 x0 x1 x2 w3 y4 y5 y6 y7 y8 y9 y10 y11) r):aa prog 26 (.jmp [0,0,1,0,1,1,14,0,1,1,1,1,1,1,1,0,1,0,1,1] (f26_4_S x0 x1 x2 w3 y4 y5 y6 y7 y8 y9 y10 y11)) r:=aa.jmp (by kernel_rfl) h
def f27_M (x0:TV):Prg TV :=
 tv (pbin Kd.str .eql x0 (TV.lit (Value.string (ByteArray.mk (Array.mk [(114:UInt8),(101:UInt8),(116:UInt8)]))))) fun v0 =>
 Prg.ite (asBool v0) (
 ret (I 1)) (
 tv (pbin Kd.str .eql x0 (TV.lit (Value.string (ByteArray.mk (Array.mk [(106:UInt8),(117:UInt8),(109:UInt8),(112:UInt8)]))))) fun v1 =>
 Prg.ite (asBool v1) (
 ret (I 2)) (
 tv (pbin Kd.str .eql x0 (TV.lit (Value.string (ByteArray.mk (Array.mk [(98:UInt8),(114:UInt8),(97:UInt8),(110:UInt8),(99:UInt8),(104:UInt8)]))))) fun v2 =>
 Prg.ite (asBool v2) (
 ret (I 3)) (
 tv (pbin Kd.str .eql x0 (TV.lit (Value.string (ByteArray.mk (Array.mk [(105:UInt8),(110:UInt8),(118:UInt8),(111:UInt8),(107:UInt8),(101:UInt8)]))))) fun v3 =>
 Prg.ite (asBool v3) (
 ret (I 4)) (
 tv (pbin Kd.str .eql x0 (TV.lit (Value.string (ByteArray.mk (Array.mk [(116:UInt8),(104:UInt8),(114:UInt8),(111:UInt8),(119:UInt8)]))))) fun v4 =>
 Prg.ite (asBool v4) (
 ret (I 5)) (
 tv (pbin Kd.str .eql x0 (TV.lit (Value.string (ByteArray.mk (Array.mk [(114:UInt8),(101:UInt8),(115:UInt8),(117:UInt8),(109:UInt8),(101:UInt8)]))))) fun v5 =>
 Prg.ite (asBool v5) (
 ret (I 6)) (
 ret (I 0)))))))
theorem f27_MR (x0:TV):aY prog 27 [x0]=f27_M x0:=by kernel_rfl
def f28_M (x0:TV):Prg TV :=
 chk (TV.isAgg x0 8) (
 tv (pbin (.int .i64) .eql (cell x0 0) (I 1)) fun v0 =>
 Prg.ite (asBool v0) (
 call 36 [TV.lit (Value.string (ByteArray.mk (Array.mk [(114:UInt8),(101:UInt8),(116:UInt8)]))),frz (TV.sl true 1 (chunks 1 1 [cell x0 1]))] fun v1 =>
 chk (ab cq [v1] 0) (
 ret v1)) (
 tv (pbin (.int .i64) .eql (cell x0 0) (I 2)) fun v2 =>
 Prg.ite (asBool v2) (
 call 36 [TV.lit (Value.string (ByteArray.mk (Array.mk [(106:UInt8),(117:UInt8),(109:UInt8),(112:UInt8)]))),frz (TV.sl true 1 (chunks 1 1 [cell x0 5]))] fun v3 =>
 chk (ab cq [v3] 0) (
 ret v3)) (
 tv (pbin (.int .i64) .eql (cell x0 0) (I 3)) fun v4 =>
 Prg.ite (asBool v4) (
 call 36 [TV.lit (Value.string (ByteArray.mk (Array.mk [(98:UInt8),(114:UInt8),(97:UInt8),(110:UInt8),(99:UInt8),(104:UInt8)]))),frz (TV.sl true 1 (chunks 1 3 [cell x0 1,cell x0 5,cell x0 6]))] fun v5 =>
 chk (ab cq [v5] 0) (
 ret v5)) (
 tv (pbin (.int .i64) .eql (cell x0 0) (I 4)) fun v6 =>
 Prg.ite (asBool v6) (
 call 46 [cell x0 4,frz (TV.sl true 1 (chunks 1 4 [cell x0 2,cell x0 3,cell x0 5,cell x0 7]))] fun v7 =>
 chk (ab zSl [v7] 0) (
 call 36 [TV.lit (Value.string (ByteArray.mk (Array.mk [(105:UInt8),(110:UInt8),(118:UInt8),(111:UInt8),(107:UInt8),(101:UInt8)]))),frz v7] fun v8 =>
 chk (ab cq [v8] 0) (
 ret v8))) (
 tv (pbin (.int .i64) .eql (cell x0 0) (I 5)) fun v9 =>
 Prg.ite (asBool v9) (
 call 36 [TV.lit (Value.string (ByteArray.mk (Array.mk [(116:UInt8),(104:UInt8),(114:UInt8),(111:UInt8),(119:UInt8)]))),frz (TV.sl true 1 (chunks 1 1 [cell x0 1]))] fun v10 =>
 chk (ab cq [v10] 0) (
 ret v10)) (
 tv (pbin (.int .i64) .eql (cell x0 0) (I 6)) fun v11 =>
 Prg.ite (asBool v11) (
 call 36 [TV.lit (Value.string (ByteArray.mk (Array.mk [(114:UInt8),(101:UInt8),(115:UInt8),(117:UInt8),(109:UInt8),(101:UInt8)]))),TV.lit af] fun v12 =>
 chk (ab cq [v12] 0) (
 ret v12)) (
 ret (TV.lit (Value.string (ByteArray.mk (Array.mk [])))))))))))
theorem f28_MR (x0:TV):aY prog 28 [x0]=f28_M x0:=by kernel_rfl
def f29_M (x0:TV):Prg TV :=
 call 47 [x0,frz (TV.sl true 1 (chunks 1 6 [TV.lit (Value.string (ByteArray.mk (Array.mk [(114:UInt8),(101:UInt8),(116:UInt8)]))),TV.lit (Value.string (ByteArray.mk (Array.mk [(106:UInt8),(117:UInt8),(109:UInt8),(112:UInt8)]))),TV.lit (Value.string (ByteArray.mk (Array.mk [(98:UInt8),(114:UInt8),(97:UInt8),(110:UInt8),(99:UInt8),(104:UInt8)]))),TV.lit (Value.string (ByteArray.mk (Array.mk [(105:UInt8),(110:UInt8),(118:UInt8),(111:UInt8),(107:UInt8),(101:UInt8)]))),TV.lit (Value.string (ByteArray.mk (Array.mk [(116:UInt8),(104:UInt8),(114:UInt8),(111:UInt8),(119:UInt8)]))),TV.lit (Value.string (ByteArray.mk (Array.mk [(114:UInt8),(101:UInt8),(115:UInt8),(117:UInt8),(109:UInt8),(101:UInt8)])))]))] fun v0 =>
 chk (ab aT [v0] 0) (
 ret v0)
theorem f29_MR (x0:TV):aY prog 29 [x0]=f29_M x0:=by kernel_rfl
def f30_0_S  (x0 x1 x2 y3 y4 y5 w6:TV):ASt:=⟨[Jk,Jk,Pt 0,Pt 1,Jk,Jk,AV.tv x0,AV.tv x1,AV.tv x2] ++ Rj 31,[some (BC.cells [CA.junk,CA.junk,CA.junk,CA.junk]),some (BC.cells [CA.t y3,CA.sref 2 0 [],CA.t y4,CA.t y5]),Tr w6] ++ Rz 61,[]⟩
def f30_M (x0:TV):Prg TV :=
 tv (plen (.slice 9) x0) fun v0 =>
 chk true (
 jmp [0,0,1,0,1,1] (f30_0_S x0 v0 (I 0) (I 0) (B false) (B false) (TV.lit af)))
def f30_0  (x0 x1 x2 y3 y4 y5 w6:TV):Prg TV :=
 tv (pbin (.int .i64) .lss x2 x1) fun v1 =>
 Prg.ite (asBool v1) (
 tvs (pidx 1 x0 x2) fun e2 =>
 chk (Nat.blt 0 (List.length e2)) (
 tv (pbin (.int .i64) .eql x2 (I 0)) fun v3 =>
 Prg.ite (asBool v3) (
 call 48 [nth hole e2 0] fun v4 =>
 chk (ab aT [v4] 0) (
 tv (pbin (.int .i64) .add x2 (I 1)) fun v5 =>
 jmp [0,0,1,0,1,1] (f30_0_S x0 x1 v5 v4 y4 y5 w6))) (
 tv (pbin Kd.str .eql (nth hole e2 0) (TV.lit (Value.string (ByteArray.mk (Array.mk [(99:UInt8),(97:UInt8),(116:UInt8),(99:UInt8),(104:UInt8)]))))) fun v6 =>
 Prg.ite (asBool v6) (
 tv (pbin (.int .i64) .add x2 (I 1)) fun v7 =>
 jmp [0,0,1,0,1,1] (f30_0_S x0 x1 v7 y3 y4 y5 w6)) (
 tv (pbin Kd.str .eql (nth hole e2 0) (TV.lit (Value.string (ByteArray.mk (Array.mk [(97:UInt8),(108:UInt8),(108:UInt8)]))))) fun v8 =>
 Prg.ite (asBool v8) (
 tv (pbin (.int .i64) .add x2 (I 1)) fun v9 =>
 jmp [0,0,1,0,1,1] (f30_0_S x0 x1 v9 y3 (B true) y5 w6)) (
 tv (pbin Kd.str .eql (nth hole e2 0) (TV.lit (Value.string (ByteArray.mk (Array.mk [(99:UInt8),(108:UInt8),(101:UInt8),(97:UInt8),(110:UInt8),(117:UInt8),(112:UInt8)]))))) fun v10 =>
 Prg.ite (asBool v10) (
 tv (pbin (.int .i64) .add x2 (I 1)) fun v11 =>
 jmp [0,0,1,0,1,1] (f30_0_S x0 x1 v11 y3 y4 (B true) w6)) (
 call 48 [nth hole e2 0] fun v12 =>
 chk (ab aT [v12] 0) (
 tv (pconv (.int .u16) v12) fun v13 =>
 rws (pelems 1 (TV.sl true 1 (chunks 1 1 [v13]))) fun r14 =>
 tv (papp 1 w6 (iU r14)) fun v15 =>
 tv (pbin (.int .i64) .add x2 (I 1)) fun v16 =>
 jmp [0,0,1,0,1,1] (f30_0_S x0 x1 v16 y3 y4 y5 v15)))))))) (
 chk (aD (agg [y3,w6,y4,y5])) (
 ret (agg [y3,w6,y4,y5])))
theorem f30_MR (x0:TV):aY prog 30 [x0]=f30_M x0:=by kernel_rfl
theorem f30_0_J  {x0 x1 x2 y3 y4 y5 w6:TV} {r:TV} (h:aa prog 30 (f30_0 x0 x1 x2 y3 y4 y5 w6) r):aa prog 30 (.jmp [0,0,1,0,1,1] (f30_0_S x0 x1 x2 y3 y4 y5 w6)) r:=aa.jmp (by kernel_rfl) h
def f31_M (x0:TV):Prg TV :=
 chk (TV.isAgg x0 4) (
 call 36 [TV.lit (Value.string (ByteArray.mk (Array.mk [(112:UInt8),(97:UInt8),(100:UInt8)]))),frz (TV.sl true 1 (chunks 1 1 [cell x0 0]))] fun v0 =>
 chk (ab cq [v0] 0) (
 tv (plen (.slice 23) (cell x0 1)) fun v1 =>
 tv (pbin (.int .i64) .gtr v1 (I 0)) fun v2 =>
 Prg.ite (asBool v2) (
 call 49 [cell x0 1] fun v3 =>
 chk (ab zSl [v3] 0) (
 call 36 [TV.lit (Value.string (ByteArray.mk (Array.mk [(99:UInt8),(97:UInt8),(116:UInt8),(99:UInt8),(104:UInt8)]))),frz v3] fun v4 =>
 chk (ab cq [v4] 0) (
 tv (pbin Kd.str .add (TV.lit (Value.string (ByteArray.mk (Array.mk [(32:UInt8)])))) v4) fun v5 =>
 tv (pbin Kd.str .add v0 v5) fun v6 =>
 Prg.ite (asBool (cell x0 2)) (
 tv (pbin Kd.str .add v6 (TV.lit (Value.string (ByteArray.mk (Array.mk [(32:UInt8),(97:UInt8),(108:UInt8),(108:UInt8)]))))) fun v7 =>
 Prg.ite (asBool (cell x0 3)) (
 tv (pbin Kd.str .add v7 (TV.lit (Value.string (ByteArray.mk (Array.mk [(32:UInt8),(99:UInt8),(108:UInt8),(101:UInt8),(97:UInt8),(110:UInt8),(117:UInt8),(112:UInt8)]))))) fun v8 =>
 ret v8) (
 ret v7)) (
 Prg.ite (asBool (cell x0 3)) (
 tv (pbin Kd.str .add v6 (TV.lit (Value.string (ByteArray.mk (Array.mk [(32:UInt8),(99:UInt8),(108:UInt8),(101:UInt8),(97:UInt8),(110:UInt8),(117:UInt8),(112:UInt8)]))))) fun v9 =>
 ret v9) (
 ret v6))))) (
 Prg.ite (asBool (cell x0 2)) (
 tv (pbin Kd.str .add v0 (TV.lit (Value.string (ByteArray.mk (Array.mk [(32:UInt8),(97:UInt8),(108:UInt8),(108:UInt8)]))))) fun v10 =>
 Prg.ite (asBool (cell x0 3)) (
 tv (pbin Kd.str .add v10 (TV.lit (Value.string (ByteArray.mk (Array.mk [(32:UInt8),(99:UInt8),(108:UInt8),(101:UInt8),(97:UInt8),(110:UInt8),(117:UInt8),(112:UInt8)]))))) fun v11 =>
 ret v11) (
 ret v10)) (
 Prg.ite (asBool (cell x0 3)) (
 tv (pbin Kd.str .add v0 (TV.lit (Value.string (ByteArray.mk (Array.mk [(32:UInt8),(99:UInt8),(108:UInt8),(101:UInt8),(97:UInt8),(110:UInt8),(117:UInt8),(112:UInt8)]))))) fun v12 =>
 ret v12) (
 ret v0)))))
theorem f31_MR (x0:TV):aY prog 31 [x0]=f31_M x0:=by kernel_rfl
def f32_0_S  (x0 x1 x2:TV):ASt:=⟨[AV.tv x0,Jk,Jk,AV.tv x1,AV.tv x2] ++ Rj 45,Rz 74,[]⟩
def f32_1_S  (x0 x1 x2:TV):ASt:=⟨[AV.tv x0,Jk,Jk,AV.tv x1,AV.tv x2] ++ Rj 45,Rz 74,[]⟩
def f32_2_S  (x0:TV):ASt:=⟨[Jk,Jk,Jk,AV.tv x0] ++ Rj 46,Rz 74,[]⟩
def f32_M (x0:TV):Prg TV :=
 tv (plen Kd.str x0) fun v0 =>
 tv (pbin (.int .i64) .eql v0 (I 0)) fun v1 =>
 Prg.ite (asBool v1) (
 ret (TV.lit (Value.int IntKind.i64 (-1)))) (
 tv (plen Kd.str x0) fun v2 =>
 tv (pbin (.int .i64) .gtr v2 (I 5)) fun v3 =>
 Prg.ite (asBool v3) (
 ret (TV.lit (Value.int IntKind.i64 (-1)))) (
 tv (pstr x0 (I 0)) fun v4 =>
 tv (pbin (.int .u8) .eql v4 (TV.lit (Value.int IntKind.u8 (48:Int)))) fun v5 =>
 Prg.ite (asBool v5) (
 tv (plen Kd.str x0) fun v6 =>
 tv (pbin (.int .i64) .gtr v6 (I 1)) fun v7 =>
 Prg.ite (asBool v7) (
 ret (TV.lit (Value.int IntKind.i64 (-1)))) (
 jmp [1,0,1,1,1] (f32_0_S x0 (I 0) (I 0)))) (
 jmp [1,0,1,1,1] (f32_0_S x0 (I 0) (I 0)))))
def f32_0  (x0 x1 x2:TV):Prg TV :=
 jmp [0,0,1,0,1,1,1] (f32_1_S x0 x1 x2)
def f32_1  (x0 x1 x2:TV):Prg TV :=
 tv (plen Kd.str x0) fun v8 =>
 tv (pbin (.int .i64) .lss x2 v8) fun v9 =>
 Prg.ite (asBool v9) (
 tv (pstr x0 x2) fun v10 =>
 tv (pbin (.int .u8) .lss v10 (TV.lit (Value.int IntKind.u8 (48:Int)))) fun v11 =>
 Prg.ite (asBool v11) (
 ret (TV.lit (Value.int IntKind.i64 (-1)))) (
 tv (pstr x0 x2) fun v12 =>
 tv (pbin (.int .u8) .gtr v12 (TV.lit (Value.int IntKind.u8 (57:Int)))) fun v13 =>
 Prg.ite (asBool v13) (
 ret (TV.lit (Value.int IntKind.i64 (-1)))) (
 tv (pbin (.int .i64) .mul x1 (I 10)) fun v14 =>
 tv (pstr x0 x2) fun v15 =>
 tv (pbin (.int .u8) .sub v15 (TV.lit (Value.int IntKind.u8 (48:Int)))) fun v16 =>
 tv (pconv (.int .i64) v16) fun v17 =>
 tv (pbin (.int .i64) .add v14 v17) fun v18 =>
 tv (pbin (.int .i64) .add x2 (I 1)) fun v19 =>
 jmp [0,0,1,0,1,1,1] (f32_1_S x0 v18 v19)))) (
 jmp [1,1,1,1] (f32_2_S x1))
def f32_2  (x0:TV):Prg TV :=
 tv (pbin (.int .i64) .gtr x0 (I 65535)) fun v20 =>
 Prg.ite (asBool v20) (
 ret (TV.lit (Value.int IntKind.i64 (-1)))) (
 ret x0)
theorem f32_MR (x0:TV):aY prog 32 [x0]=f32_M x0:=by kernel_rfl
theorem f32_0_J  {x0 x1 x2:TV} {r:TV} (h:aa prog 32 (f32_0 x0 x1 x2) r):aa prog 32 (.jmp [1,0,1,1,1] (f32_0_S x0 x1 x2)) r:=aa.jmp (by kernel_rfl) h
theorem f32_1_J  {x0 x1 x2:TV} {r:TV} (h:aa prog 32 (f32_1 x0 x1 x2) r):aa prog 32 (.jmp [0,0,1,0,1,1,1] (f32_1_S x0 x1 x2)) r:=aa.jmp (by kernel_rfl) h
theorem f32_2_J  {x0:TV} {r:TV} (h:aa prog 32 (f32_2 x0) r):aa prog 32 (.jmp [1,1,1,1] (f32_2_S x0)) r:=aa.jmp (by kernel_rfl) h
def f33_0_S  (x0 x1 x2:TV):ASt:=⟨[AV.tv x0,AV.tv x1,Jk,Jk,Jk,AV.tv x2] ++ Rj 20,Rz 50,[]⟩
def f33_M (x0 x1:TV):Prg TV :=
 tv (plen (.slice 3) x0) fun v0 =>
 tv (plen (.slice 3) x1) fun v1 =>
 tv (pbin (.int .i64) .neq v0 v1) fun v2 =>
 Prg.ite (asBool v2) (
 ret (B false)) (
 jmp [0,0,1,0,1,1] (f33_0_S x0 x1 (I 0)))
def f33_0  (x0 x1 x2:TV):Prg TV :=
 tv (plen (.slice 3) x0) fun v3 =>
 tv (pbin (.int .i64) .lss x2 v3) fun v4 =>
 Prg.ite (asBool v4) (
 tvs (pidx 1 x0 x2) fun e5 =>
 chk (Nat.blt 0 (List.length e5)) (
 tvs (pidx 1 x1 x2) fun e6 =>
 chk (Nat.blt 0 (List.length e6)) (
 tv (pbin (.int .i64) .neq (nth hole e5 0) (nth hole e6 0)) fun v7 =>
 Prg.ite (asBool v7) (
 ret (B false)) (
 tv (pbin (.int .i64) .add x2 (I 1)) fun v8 =>
 jmp [0,0,1,0,1,1] (f33_0_S x0 x1 v8))))) (
 ret (B true))
theorem f33_MR (x0 x1:TV):aY prog 33 [x0,x1]=f33_M x0 x1:=by kernel_rfl
theorem f33_0_J  {x0 x1 x2:TV} {r:TV} (h:aa prog 33 (f33_0 x0 x1 x2) r):aa prog 33 (.jmp [0,0,1,0,1,1] (f33_0_S x0 x1 x2)) r:=aa.jmp (by kernel_rfl) h
def f36_0_S  (x0 x1 x2 w3 w4:TV):ASt:=⟨Rj 5 ++ [Pt 0] ++ Rj 4 ++ [AV.tv x0,AV.tv x1,AV.tv x2] ++ Rj 9,[some (BC.cells [CA.may 0 77,CA.sref 1 1 []]),some (BC.tree [w3,w4])] ++ Rz 44,[]⟩
def f36_M (x0 x1:TV):Prg TV :=
 chk true (
 call 51 [tup [tup [],TV.buf (ByteArray.mk (Array.mk [])) 5],x0] fun v0 =>
 chk (Bool.and (Bool.and (isTup v0 2) (isTup (comp v0 1) 2)) (Bool.and (TV.bq (comp (comp v0 1) 0)) (Bool.and (TV.jZ (comp (comp v0 1) 1) 5) true))) (
 chk (isTup (comp v0 0) 2) (
 chk (ab aT [comp (comp v0 0) 0] 0) (
 chk (ab z20 [comp (comp v0 0) 1] 0) (
 tv (plen (.slice 3) x1) fun v1 =>
 jmp [0,0,1,0,1,1,1] (f36_0_S x1 v1 (I 0) hole (comp (comp v0 1) 1)))))))
def f36_0  (x0 x1 x2 w3 w4:TV):Prg TV :=
 tv (pbin (.int .i64) .lss x2 x1) fun v2 =>
 Prg.ite (asBool v2) (
 tvs (pidx 1 x0 x2) fun e3 =>
 chk (Nat.blt 0 (List.length e3)) (
 chk (Bool.and true (Bool.and (TV.jZ (pj 5 w4) 5) true)) (
 call 52 [tup [tup [],pj 5 w4],TV.lit (Value.int IntKind.u8 (32:Int))] fun v4 =>
 chk (Bool.and (Bool.and (isTup v4 2) (isTup (comp v4 1) 2)) (Bool.and (TV.bq (comp (comp v4 1) 0)) (Bool.and (TV.jZ (comp (comp v4 1) 1) 5) true))) (
 chk (ab z20 [comp v4 0] 0) (
 call 53 [nth hole e3 0] fun v5 =>
 chk (ab cq [v5] 0) (
 chk (Bool.and true (Bool.and (TV.jZ (pj 5 (comp (comp v4 1) 1)) 5) true)) (
 call 51 [tup [tup [],pj 5 (comp (comp v4 1) 1)],v5] fun v6 =>
 chk (Bool.and (Bool.and (isTup v6 2) (isTup (comp v6 1) 2)) (Bool.and (TV.bq (comp (comp v6 1) 0)) (Bool.and (TV.jZ (comp (comp v6 1) 1) 5) true))) (
 chk (isTup (comp v6 0) 2) (
 chk (ab aT [comp (comp v6 0) 0] 0) (
 chk (ab z20 [comp (comp v6 0) 1] 0) (
 tv (pbin (.int .i64) .add x2 (I 1)) fun v7 =>
 jmp [0,0,1,0,1,1,1] (f36_0_S x0 x1 v7 hole (comp (comp v6 1) 1))))))))))))) (
 chk (Bool.and true (Bool.and (TV.jZ (pj 5 w4) 5) true)) (
 call 39 [tup [tup [],pj 5 w4]] fun v8 =>
 chk (Bool.and (Bool.and (isTup v8 2) (isTup (comp v8 1) 2)) (Bool.and (TV.bq (comp (comp v8 1) 0)) (Bool.and (TV.jZ (comp (comp v8 1) 1) 5) true))) (
 chk (ab cq [comp v8 0] 0) (
 ret (comp v8 0)))))
theorem f36_MR (x0 x1:TV):aY prog 36 [x0,x1]=f36_M x0 x1:=by kernel_rfl
theorem f36_0_J  {x0 x1 x2 w3 w4:TV} {r:TV} (h:aa prog 36 (f36_0 x0 x1 x2 w3 w4) r):aa prog 36 (.jmp [0,0,1,0,1,1,1] (f36_0_S x0 x1 x2 w3 w4)) r:=aa.jmp (by kernel_rfl) h
def f46_M (x0 x1:TV):Prg TV :=
 tv (plen (.slice 3) x1) fun v0 =>
 tv (plen (.slice 3) x0) fun v1 =>
 tv (pbin (.int .i64) .add v0 v1) fun v2 =>
 nat (al (I 0)) fun n3 =>
 nat (al v2) fun n4 =>
 chk (Bool.and (Nat.ble n3 n4) (Nat.ble n4 4294967296)) (
 rws (pelems 1 x1) fun r5 =>
 tv (papp 1 (TV.sl true 1 (List.replicate n3 [I 0])) r5) fun v6 =>
 rws (pelems 1 x0) fun r7 =>
 tv (papp 1 v6 r7) fun v8 =>
 chk (aD v8) (
 ret v8))
theorem f46_MR (x0 x1:TV):aY prog 46 [x0,x1]=f46_M x0 x1:=by kernel_rfl
def f47_0_S  (x0 x1 x2:TV):ASt:=⟨[AV.tv x0,AV.tv x1,Jk,Jk,Jk,AV.tv x2] ++ Rj 14,Rz 44,[]⟩
def f47_M (x0 x1:TV):Prg TV :=
 jmp [0,0,1,0,1] (f47_0_S x0 x1 (I 0))
def f47_0  (x0 x1 x2:TV):Prg TV :=
 tv (plen (.slice 9) x1) fun v0 =>
 tv (pbin (.int .i64) .lss x2 v0) fun v1 =>
 Prg.ite (asBool v1) (
 tvs (pidx 1 x1 x2) fun e2 =>
 chk (Nat.blt 0 (List.length e2)) (
 tv (pbin Kd.str .eql (nth hole e2 0) x0) fun v3 =>
 Prg.ite (asBool v3) (
 tv (pbin (.int .i64) .add x2 (I 1)) fun v4 =>
 ret v4) (
 tv (pbin (.int .i64) .add x2 (I 1)) fun v5 =>
 jmp [0,0,1,0,1] (f47_0_S x0 x1 v5)))) (
 ret (I 0))
theorem f47_MR (x0 x1:TV):aY prog 47 [x0,x1]=f47_M x0 x1:=by kernel_rfl
theorem f47_0_J  {x0 x1 x2:TV} {r:TV} (h:aa prog 47 (f47_0 x0 x1 x2) r):aa prog 47 (.jmp [0,0,1,0,1] (f47_0_S x0 x1 x2)) r:=aa.jmp (by kernel_rfl) h
def f49_0_S  (x0 x1 x2 w3:TV):ASt:=⟨[Jk,Jk,Jk,Sr 0] ++ Rj 5 ++ [AV.tv x0,AV.tv x1,AV.tv x2] ++ Rj 11,[Tr w3] ++ Rz 46,[]⟩
def f49_M (x0:TV):Prg TV :=
 tv (plen (.slice 23) x0) fun v0 =>
 nat (al v0) fun n1 =>
 nat (al v0) fun n2 =>
 chk (Bool.and (Nat.ble n1 n2) (Nat.ble n2 4294967296)) (
 tv (plen (.slice 23) x0) fun v3 =>
 jmp [0,0,1,0,1,1] (f49_0_S x0 v3 (I 0) (TV.sl true 1 (List.replicate n1 [I 0]))))
def f49_0  (x0 x1 x2 w3:TV):Prg TV :=
 tv (pbin (.int .i64) .lss x2 x1) fun v4 =>
 Prg.ite (asBool v4) (
 tvs (pidx 1 x0 x2) fun e5 =>
 chk (Nat.blt 0 (List.length e5)) (
 tv (pconv (.int .i64) (nth hole e5 0)) fun v6 =>
 nat (slLen w3) fun n7 =>
 nat (al x2) fun n8 =>
 chk (Bool.and (slSize w3 1) (Nat.blt n8 n7)) (
 tvs (pel w3 n8) fun e9 =>
 chk (ab aT e9 0) (
 tv (xH [] w3 n8 0 [v6]) fun v10 =>
 tv (pbin (.int .i64) .add x2 (I 1)) fun v11 =>
 jmp [0,0,1,0,1,1] (f49_0_S x0 x1 v11 v10))))) (
 chk (aD w3) (
 ret w3))
theorem f49_MR (x0:TV):aY prog 49 [x0]=f49_M x0:=by kernel_rfl
theorem f49_0_J  {x0 x1 x2 w3:TV} {r:TV} (h:aa prog 49 (f49_0 x0 x1 x2 w3) r):aa prog 49 (.jmp [0,0,1,0,1,1] (f49_0_S x0 x1 x2 w3)) r:=aa.jmp (by kernel_rfl) h
end Go.Ab.Z14
end
section
set_option maxRecDepth 10000
namespace Go.Ab.Z14
open Go Go.Ab Go.Proofs
theorem AT {a b:DIns}:a=b ↔ a.op=b.op/\a.dst=b.dst/\a.a=b.a/\a.b=b.b/\a.k=b.k/\a.f=b.f/\a.args=b.args:=by
 cases a; cases b; simp
theorem Br {a b:DEnd}:a=b ↔ a.kind=b.kind/\a.a=b.a/\a.dst=b.dst/\a.f=b.f/\a.args=b.args/\a.to=b.to/\a.els=b.els/\a.pad=b.pad:=by
 cases a; cases b; simp
theorem sf {a b:DPad}:a=b ↔ a.dst=b.dst/\a.catches=b.catches/\a.all=b.all/\a.cleanup=b.cleanup:=by
 cases a; cases b; simp
theorem r14 {q q':Option Bool} {x y:TV} {l m:List Int} (hx:RInts q x l) (hy:RInts q' y m):aw prog 33 [x,y] (B (tt (l=m))):=by
 refine aw.of (f33_MR _ _) ?_
 unfold f33_M
 repeat' (first
  | refine aa.chk rfl ?_
  | refine aa.tv rfl ?_
  | refine aa.tv (RL.len (by assumption)) ?_
  | refine aa.nat rfl ?_
  | refine aa.ite rfl (fun _=>?_) (fun _=>?_)
  | refine aa.call (by assumption) ?_
  | refine aa.tvs (by assumption) ?_)
 ·rename_i h
  have h:¬ l=m:=by rintro rfl; simp at h
  exact lH h
 ·rename_i h
  have hlen:l.length=m.length:=by simp at h; omega
  refine f33_0_J ?_
  rw [kq (mD hlen)]
  refine vI (g:=fun k=>f33_0 x y (I k)) ?_ ?_
  ·unfold f33_0
   refine aa.tv hx.len (aa.tv rfl (aa.ite bw nofun fun _=>aa.ret))
  ·intro k hk r h1 h2
   have hk':k < m.length:=by omega
   have ha:l[k]? = some l[k]:=DT hk
   have hb:m[k]? = some m[k]:=DT hk'
   obtain ⟨e,he,rfl,_⟩:=hx.idx (k:=.i64) ha
   obtain ⟨e',he',rfl,_⟩:=hy.idx (k:=.i64) hb
   unfold f33_0
   refine aa.tv hx.len (aa.tv rfl (aa.ite (aK hk) (fun _=>?_) nofun))
   refine aa.tvs he (aa.chk rfl (aa.tvs he' (aa.chk rfl (aa.tv rfl (aa.ite rfl (fun h=>?_) fun h=>?_)))))
   ·rw [h1 (by rw [ha,hb]; simpa using h)]; exact aa.ret
   ·refine aa.tv (inc hk hx.bnd) (f33_0_J (h2 ?_))
    rw [ha,hb]; simpa using h
theorem r46 {q q':Option Bool} {e e':List TV} {a b:DIns} (ha:RIns q e a) (hb:RIns q' e' b):aw prog 12 [.agg e,.agg e'] (B (tt (a=b))):=by
 obtain ⟨g,rfl,hg,_⟩:=ha
 obtain ⟨g',rfl,hg',_⟩:=hb
 have h14:=r14 hg hg'
 refine aw.of (f12_MR _ _) ?_
 unfold f12_M
 repeat' (first
  | refine aa.chk rfl ?_
  | refine aa.tv rfl ?_
  | refine aa.tv (RL.len (by assumption)) ?_
  | refine aa.nat rfl ?_
  | refine aa.ite rfl (fun _=>?_) (fun _=>?_)
  | refine aa.call (by assumption) ?_
  | refine aa.tvs (by assumption) ?_)
 ·apply xL; rw [AT]; simp_all [tt]
 all_goals (apply lH; rw [AT]; simp_all [tt])
theorem r45 {q q':Option Bool} {e e':List TV} {a b:DEnd} (ha:REnd q e a) (hb:REnd q' e' b):aw prog 13 [.agg e,.agg e'] (B (tt (a=b))):=by
 obtain ⟨g,rfl,hg,_⟩:=ha
 obtain ⟨g',rfl,hg',_⟩:=hb
 have h14:=r14 hg hg'
 refine aw.of (f13_MR _ _) ?_
 unfold f13_M
 repeat' (first
  | refine aa.chk rfl ?_
  | refine aa.tv rfl ?_
  | refine aa.tv (RL.len (by assumption)) ?_
  | refine aa.nat rfl ?_
  | refine aa.ite rfl (fun _=>?_) (fun _=>?_)
  | refine aa.call (by assumption) ?_
  | refine aa.tvs (by assumption) ?_)
 ·apply xL; rw [Br]; simp_all [tt]
 all_goals (apply lH; rw [Br]; simp_all [tt])
theorem r44 {q q':Option Bool} {e e':List TV} {a b:DPad} (ha:RPad q e a) (hb:RPad q' e' b):aw prog 14 [.agg e,.agg e'] (B (tt (a=b))):=by
 obtain ⟨x,rfl,hx,_⟩:=ha
 obtain ⟨y,rfl,hy,_⟩:=hb
 refine aw.of (f14_MR _ _) ?_
 unfold f14_M
 repeat' (first
  | refine aa.chk rfl ?_
  | refine aa.tv rfl ?_
  | refine aa.tv (RL.len (by assumption)) ?_
  | refine aa.nat rfl ?_
  | refine aa.ite rfl (fun _=>?_) (fun _=>?_)
  | refine aa.call (by assumption) ?_
  | refine aa.tvs (by assumption) ?_)
 ·apply lH; rw [sf]; simp_all
 ·apply lH; rw [sf]; simp_all
 ·apply lH; rw [sf]; simp_all
 ·rename_i h
  apply lH; rw [sf]
  intro h'
  rw [h'.2.1] at h
  simp at h
 ·rename_i h1 h2 h3 h
  have hlen:a.catches.length=b.catches.length:=by simp at h; omega
  refine f14_0_J ?_
  have hp:a=b ↔ ∀ i,i < a.catches.length->a.catches[i]? = b.catches[i]? := by
   rw [sf,mD hlen]
   simp at h1 h2 h3
   exact ⟨fun h=>h.2.1,fun h=>⟨h1,h,h2,h3⟩⟩
  rw [kq hp]
  refine vI (g:=fun k=>f14_0 (I k) (I a.dst) x (B a.all) (B a.cleanup) (I b.dst) y (B b.all) (B b.cleanup)) ?_ ?_
  ·unfold f14_0
   refine aa.tv hx.len (aa.tv rfl (aa.ite bw nofun fun _=>aa.ret))
  ·intro k hk r h1 h2
   have hk':k < b.catches.length:=by omega
   have ha:a.catches[k]? = some a.catches[k]:=DT hk
   have hb:b.catches[k]? = some b.catches[k]:=DT hk'
   obtain ⟨e,he,rfl,_⟩:=hx.idx (k:=.i64) ha
   obtain ⟨e',he',rfl,_⟩:=hy.idx (k:=.i64) hb
   unfold f14_0
   refine aa.tv hx.len (aa.tv rfl (aa.ite (aK hk) (fun _=>?_) nofun))
   refine aa.tvs he (aa.chk rfl (aa.tvs he' (aa.chk rfl (aa.tv rfl (aa.ite rfl (fun h=>?_) fun h=>?_)))))
   ·rw [h1 (by rw [ha,hb]; simpa using h)]; exact aa.ret
   ·refine aa.tv (inc hk hx.bnd) (f14_0_J (h2 ?_))
    rw [ha,hb]; simpa using h
end Go.Ab.Z14
end
section
set_option maxRecDepth 10000
namespace Go.Ab
section
variable {α:Type} {s:Nat} {R S:Nat->List TV->α->Prop} {x:TV} {l:List α}
theorem rF {β:Type}:∀ (l:List β) (n:Nat) (b:β),(au l n b).length=l.length
 | [],_,_=>rfl
 | _ :: _,0,_=>rfl
 | a :: l,n + 1,b=>by simp [au,rF l n b]
end
theorem po:∀ (xs:List (List TV)),(∀ e ∈ xs,bR e=true)->lc xs=true
 | [],_=>rfl
 | e :: xs,h=>by
  simp only [lc,DV]
  exact ⟨h e DZ,po xs fun e he=>h e (D0 _ he)⟩
theorem F2.memL {α β:Type} {R:α->β->Prop} {xs:List α} {l:List β} (h:F2 R xs l) {e:α} (he:e ∈ xs):∃ a,a ∈ l/\R e a:=by
 obtain ⟨i,hi,rfl⟩:=List.mem_iff_getElem.1 he
 obtain ⟨a,ha,hr⟩:=h.getL (DT hi)
 exact ⟨a,D1 ha,hr⟩
theorem RL.own {α:Type} {s:Nat} {R:List TV->α->Prop} {x:TV} {l:List α} (h:RL (some true) s R x l) (hm:∀ e a,R e a->bR e=true):aD x=true:=by
 rcases h with ⟨rfl,rfl⟩ | ⟨o,xs,rfl,hq,h,hb⟩
 ·rfl
 ·rw [hq true rfl]
  simp only [aD,Bool.true_and]
  refine po _ fun e he=>?_
  obtain ⟨a,_,hr⟩:=h.memL he
  exact hm _ _ hr
end Go.Ab
namespace Go.Ab.Z14
open Go Go.Ab Go.Proofs
end Go.Ab.Z14
end
section
set_option maxRecDepth 10000
namespace Go.Ab
abbrev S (l:List UInt8):TV:=.lit (.string ⟨⟨l⟩⟩)
abbrev vv (l:List UInt8):TV:=.buf ⟨⟨l⟩⟩ 5
def nX (n:Int):List UInt8:=32 :: Lib.itoa n
def bZ (w:List UInt8) (ns:List Int):List UInt8:=w ++ ns.flatMap nX
def uO (x:DIns):List UInt8 :=
 if x.op=1 then bZ [99,111,110,115,116] [x.dst,x.k] else if x.op=2 then bZ [99,111,112,121] [x.dst,x.a] else if x.op=3 then bZ [97,100,100] [x.dst,x.a,x.b]
 else if x.op=4 then bZ [115,117,98] [x.dst,x.a,x.b] else if x.op=5 then bZ [109,117,108] [x.dst,x.a,x.b] else if x.op=6 then bZ [100,105,118] [x.dst,x.a,x.b]
 else if x.op=7 then bZ [101,113] [x.dst,x.a,x.b] else if x.op=8 then bZ [108,116] [x.dst,x.a,x.b] else if x.op=9 then bZ [108,111,97,100] [x.dst,x.a]
 else if x.op=10 then bZ [115,116,111,114,101] [x.a,x.b] else if x.op=11 then bZ [99,97,108,108] ([x.dst,x.f] ++ x.args) else if x.op=12 then bZ [111,117,116] [x.a]
 else if x.op=13 then bZ [105,110] [x.dst] else []
def uu (x:DEnd):List UInt8 :=
 if x.kind=1 then bZ [114,101,116] [x.a] else if x.kind=2 then bZ [106,117,109,112] [x.to] else if x.kind=3 then bZ [98,114,97,110,99,104] [x.a,x.to,x.els]
 else if x.kind=4 then bZ [105,110,118,111,107,101] ([x.dst,x.f,x.to,x.pad] ++ x.args) else if x.kind=5 then bZ [116,104,114,111,119] [x.a]
 else if x.kind=6 then bZ [114,101,115,117,109,101] [] else []
def uM (p:DPad):List UInt8 :=
 bZ [112,97,100] [p.dst] ++ (if 0 < p.catches.length then 32 :: bZ [99,97,116,99,104] p.catches else []) ++ (bif p.all then [32,97,108,108] else []) ++ (bif p.cleanup then [32,99,108,101,97,110,117,112] else [])
theorem xV (a b:List UInt8):(⟨⟨a⟩⟩:ByteArray) ++ ⟨⟨b⟩⟩=⟨⟨a ++ b⟩⟩:=by
 apply ByteArray.ext
 simp [ByteArray.data_append]
theorem mJ (a:List UInt8):(⟨⟨a⟩⟩:ByteArray).size=a.length:=rfl
theorem Be (a:List UInt8) (c:UInt8):(⟨⟨a⟩⟩:ByteArray).push c=⟨⟨a ++ [c]⟩⟩:=by
 apply ByteArray.ext
 simp [ByteArray.data_push]
theorem rints {l:List Int} (h:∀ n,n ∈ l->inI n) (hl:l.length<=100):RInts (some false) (.sl false 1 (l.map fun n=>[I n])) l:=by
 refine .sl (by simp) ?_ (by simp; omega)
 clear hl
 induction l with
 | nil=>exact .nil
 | cons a l ih=>exact .cons ⟨rfl,h a (by simp)⟩ (ih fun n hn=>h n (by simp [hn]))
theorem RL.setAt' {α:Type} {s:Nat} {R:List TV->α->Prop} {y:TV} {l:List α} (hy:RL (some true) s R y l) {i:Nat} {e:List TV} (he:Go.Ab.pel y i=some e) {d:Nat} {ys:List TV} {a:α} (hR:R (bF e d ys) a):∃ y',xH [] y i d ys=some y'/\RL (some true) s R y' (l.set i a):=by
 rcases hy with ⟨rfl,rfl⟩ | ⟨o,xs,rfl,hq,hf,hb⟩
 ·simp [Go.Ab.pel] at he
 ·have:o=true:=hq true rfl
  subst this
  have hk:xs[i]? = some e:=he
  refine ⟨.sl true s (au xs i (bF e d ys)),by simp only [xH,dC,yA,hk,lj],.sl (by simp) (hf.set hR) (by rw [rF]; exact hb)⟩
theorem yX {a:Int} (ha:inW a):pconv (.int .i64) (W a)=some (I a):=by
 simp only [pconv]
 rw [IntWalk.i64_in _ (by obtain ⟨_,_⟩:=ha; constructor <;> omega)]
theorem A8 {n:Int} (h:inI n):(nX n).length<=22:=by
 have:=Lib.itoa_length_le n h.1 h.2
 simp [nX]; omega
theorem mF {α:Type} {g:α->List UInt8} {c:Nat}:∀ {l:List α},(∀ x,x ∈ l->(g x).length<=c)->(l.flatMap g).length<=c * l.length
 | [],_=>by simp
 | a :: l,h=>by
  have h1:=h a (by simp)
  have h2:=mF (g:=g) (c:=c) (l:=l) fun x hx=>h x (by simp [hx])
  simp only [List.flatMap_cons,List.length_append,List.length_cons,Nat.mul_succ]
  omega
theorem nO {w:List UInt8} {ns:List Int} (h:∀ n,n ∈ ns->inI n):(bZ w ns).length<=w.length + 22 * ns.length:=by
 have:=mF (g:=nX) (c:=22) (l:=ns) fun n hn=>A8 (h n hn)
 simp only [bZ,List.length_append]; omega
theorem F2.memR {α:Type} {R:List TV->α->Prop} {xs:List (List TV)} {l:List α} (h:F2 R xs l):∀ a,a ∈ l->∃ e,R e a:=by
 intro a ha
 obtain ⟨i,hi⟩:=List.mem_iff_getElem?.1 ha
 obtain ⟨e,_,he⟩:=h.get hi
 exact ⟨e,he⟩
theorem RL.memR {α:Type} {q:Option Bool} {s:Nat} {R:List TV->α->Prop} {x:TV} {l:List α} (h:RL q s R x l):∀ a,a ∈ l->∃ e,R e a:=by
 rcases h with ⟨rfl,rfl⟩ | ⟨o,xs,rfl,hq,h,_⟩
 ·simp
 ·exact h.memR
theorem RInts.inI {q:Option Bool} {x:TV} {l:List Int} (h:RInts q x l):∀ n,n ∈ l->inI n:=fun n hn=>by
 obtain ⟨e,_,h⟩:=RL.memR h n hn
 exact h
end Go.Ab
namespace Go.Ab.Z14
open Go Go.Ab Go.Proofs
theorem e_ws {s t:List UInt8} (h:s.length + t.length<=jS):aw prog 51 [.tup [.tup [],vv s],S t] (.tup [.tup [I t.length,.lit .nilIface],.tup [.tup [],vv (s ++ t)]]):=by
 refine aw.ext (g:=eA 5) rfl ?_
 have h1:Nat.ble (s.length + t.length) jS=true:=by rw [Nat.ble_eq]; exact h
 simp [eA,TV.bq,lS,mJ,xV,h1]
theorem e_wb {s:List UInt8} (c:Int) (hc:0<=c/\c < 256) (h:s.length + 1<=jS):aw prog 52 [.tup [.tup [],vv s],.lit (.int .u8 c)] (.tup [.lit .nilIface,.tup [.tup [],vv (s ++ [c.toNat.toUInt8])]]):=by
 refine aw.ext (g:=gX 5) rfl ?_
 have h1:Nat.ble (s.length + 1) jS=true:=by rw [Nat.ble_eq]; exact h
 simp [gX,TV.bq,lS,mJ,Be,h1,hc]
theorem e_str {s:List UInt8} (h:s≠[]):aw prog 39 [.tup [.tup [],vv s]] (.tup [S s,.tup [.tup [],vv s]]):=by
 refine aw.ext (g:=mV 5) rfl ?_
 have h1:s.length≠0:=fun h'=>h (List.length_eq_zero_iff.1 h')
 simp [mV,TV.bq,lS,mJ]
 cases s <;> simp_all [Nat.beq]
theorem e_itoa {n:Int} (h:inI n):aw prog 53 [I n] (S (Lib.itoa n)):=by
 refine aw.ext (g:=vz) rfl ?_
 have:=h.1; have:=h.2
 simp [vz, *]
theorem zI {q:Option Bool} {x:TV} {ns:List Int} (hx:RInts q x ns):∀ d k (y:TV) (acc:List UInt8),k + d=ns.length->acc≠[]->(acc ++ (ns.drop k).flatMap nX).length<=jS ->
  aa prog 36 (f36_0 x (I ns.length) (I k) y (vv acc)) (S (acc ++ (ns.drop k).flatMap nX)):=by
 intro d
 induction d with
 | zero =>
  intro k y acc hk hne hb
  have hk:k=ns.length:=by omega
  subst hk
  unfold f36_0
  refine aa.tv rfl (aa.ite bw nofun fun _=>?_)
  simp only [List.drop_length,List.flatMap_nil,List.append_nil]
  exact aa.chk rfl (aa.call (e_str hne) (aa.chk rfl (aa.chk rfl aa.ret)))
 | succ d ih =>
  intro k y acc hk hne hb
  have hkl:k < ns.length:=by omega
  have ha:ns[k]? = some ns[k]:=DT hkl
  rw [List.drop_eq_getElem_cons hkl,List.flatMap_cons] at hb ⊢
  obtain ⟨e,he,hr⟩:=hx.idx (k:=.i64) ha
  generalize ns[k]=n at *
  obtain ⟨rfl,hn⟩:=hr
  have hb2:acc.length + (1 + (Lib.itoa n).length)<=jS:=by simp [nX] at hb; omega
  unfold f36_0
  refine aa.tv rfl (aa.ite (aK hkl) (fun _=>?_) nofun)
  refine aa.tvs he (aa.chk rfl (aa.chk rfl (aa.call (e_wb 32 (by omega) (by omega)) (aa.chk rfl (aa.chk rfl (aa.call (e_itoa hn) (aa.chk rfl (aa.chk rfl (aa.call (e_ws (by simp; omega)) (aa.chk rfl (aa.chk rfl (aa.chk rfl (aa.chk rfl (aa.tv (inc hkl hx.bnd) ?_))))))))))))))
  have:=ih (k + 1) .hole (acc ++ nX n) (by omega) (by simp [hne]) (by simpa using hb)
  rw [<- List.append_assoc]
  refine f36_0_J ?_
  have e:acc ++ [(32:Int).toNat.toUInt8] ++ Lib.itoa n=acc ++ nX n:=by simp [nX]
  show aa prog _ (f36_0 x (I ns.length) (I ((k + 1:Nat):Int)) .hole (vv (acc ++ [(32:Int).toNat.toUInt8] ++ Lib.itoa n))) _
  rw [e]; exact this
theorem kV {q:Option Bool} {x:TV} {ns:List Int} (w:List UInt8) (hx:RInts q x ns) (hw:w≠[]) (hb:w.length + 22 * ns.length<=1000):aw prog 36 [S w,x] (S (bZ w ns)):=by
 have hlen:=nO (w:=w) hx.inI
 refine aw.of (f36_MR _ _) ?_
 unfold f36_M
 refine aa.chk rfl (aa.call (e_ws (s:=[]) (by simp [jS]; omega)) (aa.chk rfl (aa.chk rfl (aa.chk rfl (aa.chk rfl (aa.tv hx.len ?_))))))
 exact f36_0_J (zI hx ns.length 0 _ w (by omega) hw (by simp [bZ] at hlen ⊢; simp [jS]; omega))
theorem lB {l:List Int} (w:List UInt8) (h:∀ n,n ∈ l->inI n) (hw:w≠[]) (hb:w.length + 22 * l.length<=1000):aw prog 36 [S w,.sl false 1 (l.map fun n=>[I n])] (S (bZ w l)) :=
 kV w (rints h (by omega)) hw hb
theorem line0 (w:List UInt8) (hw:w≠[]) (hb:w.length<=100):aw prog 36 [S w,.lit (.slice none 0 0)] (S (bZ w [])) :=
 kV w (q:=none) (.nil) hw (by simp; omega)
theorem vN {q q':Option Bool} {x y:TV} {l m:List Int} (hx:RInts q x l) (hy:RInts q' y m) (hl:l.length + m.length<=1000):∃ v,aw prog 46 [x,y] v/\RInts (some true) v (m ++ l):=by
 obtain ⟨xs,hxs,hfx⟩:=hx.elems
 obtain ⟨ys,hys,hfy⟩:=hy.elems
 have h1:=hfx.length
 have h2:=hfy.length
 refine ⟨.sl true 1 (ys ++ xs),aw.of (f46_MR _ _) ?_,.sl (by simp) (hfy.append hfx) (by simp; omega)⟩
 unfold f46_M
 refine aa.tv hy.len (aa.tv hx.len (aa.tv (padd (by constructor <;> omega)) (aa.nat rfl (aa.nat (v:=m.length + l.length) (by simp [al]; omega) (aa.chk ?_ ?_)))))
 ·simp only [DV,Nat.ble_eq]; omega
 ·refine aa.rws hys (aa.tv (v:=.sl true 1 ys) (by simp [papp,room]; omega) (aa.rws hxs (aa.tv (v:=.sl true 1 (ys ++ xs)) (by simp [papp,room]; omega) (aa.chk ?_ aa.ret))))
  exact (RL.sl (q:=some true) (by simp) (hfy.append hfx) (by simp; omega):RInts (some true) _ (m ++ l)).own fun _ _ h=>by obtain ⟨rfl,_⟩:=h; rfl
theorem zN {q:Option Bool} {x:TV} {l:List Int} (hx:RWords q x l) (hl:l.length<=1000):∃ v,aw prog 49 [x] v/\RInts (some true) v l:=by
 have loop:∀ d k (m:List Int) (v:TV),k + d=l.length->m.length=l.length->m.take k=l.take k->RInts (some true) v m->∃ v',aa prog 49 (f49_0 x (I l.length) (I k) v) v'/\RInts (some true) v' l:=by
  intro d
  induction d with
  | zero =>
   intro k m v hk hm ht hv
   have hk:k=l.length:=by omega
   subst hk
   have:m=l:=by rw [List.take_of_length_le (by omega),List.take_of_length_le (by omega)] at ht; exact ht
   subst this
   refine ⟨v,?_,hv⟩
   unfold f49_0
   refine aa.tv rfl (aa.ite bw nofun fun _=>?_)
   exact aa.chk (hv.own fun _ _ h=>by obtain ⟨rfl,_⟩:=h; rfl) aa.ret
  | succ d ih =>
   intro k m v hk hm ht hv
   have hkl:k < l.length:=by omega
   have ha:l[k]? = some l[k]:=DT hkl
   obtain ⟨e,he,hr⟩:=hx.idx (k:=.i64) ha
   have hmk:m[k]? = some m[k]:=DT (by omega)
   obtain ⟨e',he',hr'⟩:=hv.pel hmk
   obtain ⟨rfl,hn⟩:=hr
   obtain ⟨rfl,_⟩:=hr'
   obtain ⟨v',hv',hv2⟩:=hv.setAt' he' (d:=0) (ys:=[I l[k]]) (a:=l[k]) ⟨rfl,by obtain ⟨_,_⟩:=hn; constructor <;> omega⟩
   obtain ⟨z,hz,hz2⟩:=ih (k + 1) (m.set k l[k]) v' (by omega) (by simpa using hm) (by
    rw [List.take_add_one,List.take_add_one,List.take_set_of_le (by omega),ht,List.getElem?_set_self (by omega),ha]) hv2
   refine ⟨z,?_,hz2⟩
   unfold f49_0
   refine aa.tv rfl (aa.ite (aK hkl) (fun _=>?_) nofun)
   refine aa.tvs he (aa.chk rfl (aa.tv (yX hn) (aa.nat hv.slLen (aa.nat (v:=k) (by simp [al]; omega) (aa.chk ?_ (aa.tvs he' (aa.chk rfl (aa.tv hv' (aa.tv (inc hkl hx.bnd) (f49_0_J hz))))))))))
   rw [hv.slSize]
   simp only [Bool.true_and,Nat.blt_eq]
   omega
 obtain ⟨v,h1,h2⟩:=loop l.length 0 (List.replicate l.length 0) (.sl true 1 (List.replicate l.length [I 0])) (by omega) (by simp) (by simp) (.sl (by simp) (by
  generalize l.length=n
  induction n with
  | zero=>exact .nil
  | succ n ih=>exact .cons ⟨rfl,by constructor <;> omega⟩ ih) (by simp; omega))
 refine ⟨v,aw.of (f49_MR _) ?_,h2⟩
 unfold f49_M
 refine aa.tv hx.len (aa.nat (v:=l.length) (by simp [al]; omega) (aa.nat (v:=l.length) (by simp [al]; omega) (aa.chk ?_ (aa.tv hx.len (f49_0_J h1)))))
 simp only [DV,Nat.ble_eq]; omega
end Go.Ab.Z14
end
section
set_option maxRecDepth 10000
namespace Go.Ab.Z14
open Go Go.Ab Go.Proofs
theorem beh {q:Option Bool} {y:TV} {m:List Int} (l:List Int) (w:List UInt8) (hm:RInts q y m) (hl:∀ n,n ∈ l->inI n) (h4:l.length<=4) (h20:m.length<=20) (hw:w≠[]) (h10:w.length<=10) :
  ∃ v,aw prog 46 [y,.sl false 1 (l.map fun n=>[I n])] v/\v.isSl=true/\aw prog 36 [S w,frz v] (S (bZ w (l ++ m))):=by
 obtain ⟨v,h1,h2⟩:=vN hm (rints hl (by omega)) (by omega)
 exact ⟨v,h1,h2.isSl,kV w (h2.frz fun _ _ h=>h.frz) hw (by simp; omega)⟩
theorem Aq {q:Option Bool} {e:List TV} {x:DIns} (h:RIns q e x) (hl:x.args.length<=20):aw prog 22 [.agg e] (S (uO x)):=by
 obtain ⟨g,rfl,hg,ho,hd,ha,hb,hk,hf⟩:=h
 obtain ⟨v,hv,hsl,hv2⟩:=beh [x.dst,x.f] [99,97,108,108] hg (by simp [hd,hf]) (by simp) hl (by simp) (by simp)
 have hkI:inI x.k:=by obtain ⟨_,_⟩:=hk; constructor <;> omega
 refine aw.of (f22_MR _) ?_
 unfold f22_M
 refine aa.chk rfl (aa.tv rfl (aa.ite rfl (fun _=>aa.tv (v:=I x.k) (yX hk) ?_) fun _=>?_))
 repeat' (first
  | refine aa.chk rfl ?_
  | refine aa.tv rfl ?_
  | refine aa.ite rfl (fun _=>?_) (fun _=>?_)
  | refine aa.call hv ?_
  | refine aa.chk (by simp [ab,zSl,aG,hsl]) ?_
  | refine aa.call hv2 ?_
  | refine aa.call (lB (l:=[x.dst,x.k]) _ (by simp [*]) (by simp) (by simp)) ?_
  | refine aa.call (lB (l:=[x.dst,x.a]) _ (by simp [*]) (by simp) (by simp)) ?_
  | refine aa.call (lB (l:=[x.a,x.b]) _ (by simp [*]) (by simp) (by simp)) ?_
  | refine aa.call (lB (l:=[x.dst,x.a,x.b]) _ (by simp [*]) (by simp) (by simp)) ?_
  | refine aa.call (lB (l:=[x.a]) _ (by simp [*]) (by simp) (by simp)) ?_
  | refine aa.call (lB (l:=[x.dst]) _ (by simp [*]) (by simp) (by simp)) ?_)
 all_goals (refine qA.2 ?_; simp_all [uO])
theorem Cx {q:Option Bool} {e:List TV} {x:DEnd} (h:REnd q e x) (hl:x.args.length<=20):aw prog 28 [.agg e] (S (uu x)):=by
 obtain ⟨g,rfl,hg,hk,ha,hd,hf,ht,he,hp⟩:=h
 obtain ⟨v,hv,hsl,hv2⟩:=beh [x.dst,x.f,x.to,x.pad] [105,110,118,111,107,101] hg (by simp [hd,hf,ht,hp]) (by simp) hl (by simp) (by simp)
 refine aw.of (f28_MR _) ?_
 unfold f28_M
 repeat' (first
  | refine aa.chk rfl ?_
  | refine aa.tv rfl ?_
  | refine aa.ite rfl (fun _=>?_) (fun _=>?_)
  | refine aa.call hv ?_
  | refine aa.chk (by simp [ab,zSl,aG,hsl]) ?_
  | refine aa.call hv2 ?_
  | refine aa.call (line0 _ (by simp) (by simp)) ?_
  | refine aa.call (lB (l:=[x.a,x.to,x.els]) _ (by simp [*]) (by simp) (by simp)) ?_
  | refine aa.call (lB (l:=[x.a]) _ (by simp [*]) (by simp) (by simp)) ?_
  | refine aa.call (lB (l:=[x.to]) _ (by simp [*]) (by simp) (by simp)) ?_)
 all_goals (refine qA.2 ?_; simp_all [uu])
theorem BX (a b:List UInt8) (h:a.length + b.length<=10000):pbin .str .add (S a) (S b)=some (S (a ++ b)):=by
 simp [pbin,kr,xV,mJ]; omega
theorem AB {q:Option Bool} {e:List TV} {x:DPad} (h:RPad q e x) (hl:x.catches.length<=20):aw prog 31 [.agg e] (S (uM x)):=by
 obtain ⟨g,rfl,hg,hd⟩:=h
 obtain ⟨v,hv,hv2⟩:=zN hg (by omega)
 have hsl:=hv2.isSl
 have hv3:=kV [99,97,116,99,104] (hv2.frz fun _ _ h=>h.frz) (by simp) (by simp; omega)
 have hA:=nO (w:=[112,97,100]) (ns:=[x.dst]) (by simp [hd])
 have hC:=nO (w:=[99,97,116,99,104]) hv2.inI
 simp only [List.length_cons,List.length_nil] at hA hC
 refine aw.of (f31_MR _) ?_
 unfold f31_M
 repeat' (first
  | refine aa.chk rfl ?_
  | refine aa.tv hg.len ?_
  | refine aa.tv (BX _ _ (by simp only [List.length_append,List.length_cons,List.length_nil]; omega)) ?_
  | refine aa.tv rfl ?_
  | refine aa.ite rfl (fun _=>?_) (fun _=>?_)
  | refine aa.call hv ?_
  | refine aa.chk (by simp [ab,zSl,aG,hsl]) ?_
  | refine aa.call hv3 ?_
  | refine aa.call (lB (l:=[x.dst]) _ (by simp [*]) (by simp) (by simp)) ?_)
 all_goals (refine qA.2 ?_; simp_all [uM])
end Go.Ab.Z14
end
section
set_option maxRecDepth 10000
namespace Go.Ab
theorem lR:∀ (u:Nat),∀ c ∈ Lib.decDigits u,48<=c.toNat/\c.toNat<=57:=by
 intro u
 induction u using Nat.strongRecOn with
 | _ u ih =>
  intro c hc
  by_cases h:u < 10
  ·rw [Lib.decDigits_one h] at hc
   simp only [List.mem_singleton] at hc
   subst hc
   simp [UInt8.toNat_ofNat']
   omega
  ·rw [Lib.decDigits,dif_neg h,List.mem_append] at hc
   rcases hc with hc | hc
   ·exact ih (u / 10) (by omega) c hc
   ·simp only [List.mem_singleton] at hc
    subst hc
    simp [UInt8.toNat_ofNat']
    omega
theorem Af (n:Int):∀ c ∈ Lib.itoa n,c.toNat=45\/48<=c.toNat/\c.toNat<=57:=by
 intro c hc
 unfold Lib.itoa at hc
 split at hc
 ·rcases List.mem_cons.1 hc with rfl | hc
  ·exact .inl rfl
  ·exact .inr (lR _ c hc)
 ·exact .inr (lR _ c hc)
end Go.Ab
end

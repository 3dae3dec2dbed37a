import Derived.Test.YthfcodidfelpoaaAD13T
import Derived.Test.YthfcodidfelpoaaAD13Xb
set_option linter.all false
section
set_option maxRecDepth 100000
namespace Go.Ab.D13
open Go Go.Ab Go.Proofs
open Go.Ab.TV (hole cell comp isSl isSc isTup cellsL tup agg)
open Go.Ab.Prg (tv tvs rws nat chk call jmp ret)
def f36_0_S  (x0 x1 x2 y3 y4 y5 y6:TV):ASt:=⟨Rj 5 ++ [Pt 0] ++ Rj 44 ++ [AV.tv x0,AV.tv x1,AV.tv x2] ++ Rj 8,[some (BC.cells [CA.t y3,CA.t y4,CA.t y5,CA.t y6])] ++ Rz 84,[]⟩
def f36_M (x0 x1:TV):Prg TV :=
 chk (TV.isAgg x0 1) (
 chk (TV.isAgg x1 3) (
 tv (pbin (.int .i64) .lss (cell x1 0) (I 0)) fun v0 =>
 Prg.ite (asBool v0) (
 ret (B false)) (
 tv (pbin (.int .i64) .gtr (cell x1 0) (I 8)) fun v1 =>
 Prg.ite (asBool v1) (
 ret (B false)) (
 tv (pbin (.int .i64) .lss (cell x1 1) (cell x1 0)) fun v2 =>
 Prg.ite (asBool v2) (
 ret (B false)) (
 tv (pbin (.int .i64) .gtr (cell x1 1) (I 256)) fun v3 =>
 Prg.ite (asBool v3) (
 ret (B false)) (
 tv (plen (.slice 46) (cell x1 2)) fun v4 =>
 tv (pbin (.int .i64) .lss v4 (I 1)) fun v5 =>
 Prg.ite (asBool v5) (
 ret (B false)) (
 tv (plen (.slice 46) (cell x1 2)) fun v6 =>
 tv (pbin (.int .i64) .gtr v6 (I 64)) fun v7 =>
 Prg.ite (asBool v7) (
 ret (B false)) (
 tvs (pidx 14 (cell x1 2) (I 0)) fun e8 =>
 chk (Nat.blt 0 (List.length e8)) (
 Prg.ite (asBool (nth hole e8 0)) (
 ret (B false)) (
 tv (plen (.slice 46) (cell x1 2)) fun v9 =>
 jmp [0,0,1,0,1,1,1,1] (f36_0_S (cell x1 2) v9 (I 0) (cell x0 0) (cell x1 0) (cell x1 1) (cell x1 2))))))))))))
def f36_0  (x0 x1 x2 y3 y4 y5 y6:TV):Prg TV :=
 tv (pbin (.int .i64) .lss x2 x1) fun v10 =>
 Prg.ite (asBool v10) (
 tvs (pidx 14 x0 x2) fun e11 =>
 chk (Nat.ble 14 (List.length e11)) (
 call 53 [agg [y3,y4,y5,y6],agg [nth hole e11 0,nth hole e11 1,nth hole e11 2,nth hole e11 3,nth hole e11 4,nth hole e11 5,nth hole e11 6,nth hole e11 7,nth hole e11 8,nth hole e11 9,nth hole e11 10,nth hole e11 11,nth hole e11 12,nth hole e11 13]] fun v12 =>
 chk (ab aK [v12] 0) (
 tv (pun .not v12) fun v13 =>
 Prg.ite (asBool v13) (
 ret (B false)) (
 tv (pbin (.int .i64) .add x2 (I 1)) fun v14 =>
 jmp [0,0,1,0,1,1,1,1] (f36_0_S x0 x1 v14 y3 y4 y5 y6))))) (
 ret (B true))
theorem f36_MR (x0 x1:TV):aJ prog 36 [x0,x1]=f36_M x0 x1:=by kernel_rfl
theorem f36_0_J  {x0 x1 x2 y3 y4 y5 y6:TV} {r:TV} (h:aa prog 36 (f36_0 x0 x1 x2 y3 y4 y5 y6) r):aa prog 36 (.jmp [0,0,1,0,1,1,1,1] (f36_0_S x0 x1 x2 y3 y4 y5 y6)) r:=aa.jmp (by kernel_rfl) h
def f37_M (x0:TV):Prg TV :=
 tv (pbin (.slice 48) .eql x0 (TV.lit aF)) fun v0 =>
 Prg.ite (asBool v0) (
 chk true (
 ret (TV.lit aF))) (
 tv (plen (.slice 48) x0) fun v1 =>
 nat (aj v1) fun n2 =>
 nat (aj v1) fun n3 =>
 chk (Bool.and (Nat.ble n2 n3) (Nat.ble n3 4294967296)) (
 rws (pelems 1 x0) fun r4 =>
 tv (pcopy 1 (TV.sl true 1 (List.replicate n2 [W 0])) r4) fun v5 =>
 nat (slLen (TV.sl true 1 (List.replicate n2 [W 0]))) fun n6 =>
 chk (bp v5) (
 ret v5)))
theorem f37_MR (x0:TV):aJ prog 37 [x0]=f37_M x0:=by kernel_rfl
def f38_M (x0:TV):Prg TV :=
 tv (pbin (.slice 50) .eql x0 (TV.lit aF)) fun v0 =>
 Prg.ite (asBool v0) (
 ret (TV.lit aF)) (
 tv (plen (.slice 50) x0) fun v1 =>
 nat (aj v1) fun n2 =>
 nat (aj v1) fun n3 =>
 chk (Bool.and (Nat.ble n2 n3) (Nat.ble n3 4294967296)) (
 rws (pelems 7 x0) fun r4 =>
 tv (pcopy 7 (TV.sl true 7 (List.replicate n2 [I 0,I 0,I 0,I 0,W 0,I 0,TV.lit aF])) r4) fun v5 =>
 nat (slLen (TV.sl true 7 (List.replicate n2 [I 0,I 0,I 0,I 0,W 0,I 0,TV.lit aF]))) fun n6 =>
 ret v5))
theorem f38_MR (x0:TV):aJ prog 38 [x0]=f38_M x0:=by kernel_rfl
def f39_M (x0:TV):Prg TV :=
 tv (pbin (.slice 3) .eql x0 (TV.lit aF)) fun v0 =>
 Prg.ite (asBool v0) (
 chk true (
 ret (TV.lit aF))) (
 tv (plen (.slice 3) x0) fun v1 =>
 nat (aj v1) fun n2 =>
 nat (aj v1) fun n3 =>
 chk (Bool.and (Nat.ble n2 n3) (Nat.ble n3 4294967296)) (
 rws (pelems 1 x0) fun r4 =>
 tv (pcopy 1 (TV.sl true 1 (List.replicate n2 [I 0])) r4) fun v5 =>
 nat (slLen (TV.sl true 1 (List.replicate n2 [I 0]))) fun n6 =>
 chk (bp v5) (
 ret v5)))
theorem f39_MR (x0:TV):aJ prog 39 [x0]=f39_M x0:=by kernel_rfl
def f41_M (c0 x0:TV):Prg TV :=
 chk (Nat.blt 0 (List.length [c0])) (
 tvs (pidx 3 c0 x0) fun e0 =>
 chk (Nat.ble 3 (List.length e0)) (
 call 42 [agg [nth hole e0 0,nth hole e0 1,nth hole e0 2]] fun v1 =>
 chk (ab zSl [v1] 0) (
 chk (bp v1) (
 ret v1))))
theorem f41_MR (c0 x0:TV):aJ prog 41 [x0,agg [c0]]=f41_M c0 x0:=by kernel_rfl
def f42_0_S  (y0 y1 y2 w3:TV):ASt:=⟨[Jk,Pt 0,Jk,Pt 1] ++ Rj 11,[some (BC.cells [CA.t y0,CA.t y1,CA.t y2]),some (BC.cells [CA.sref 2 0 []]),Tr w3] ++ Rz 36,[]⟩
def f42_1_S  (x0 x1 y2 y3 y4 w5:TV):ASt:=⟨[AV.one (CA.yl 0),Pt 0] ++ Rj 6 ++ [AV.tv x0,AV.tv x1] ++ Rj 52,[some (BC.cells [CA.t y2,CA.t y3,CA.t y4]),some (BC.cells [CA.sref 2 0 []]),Tr w5] ++ Rz 98,([Jk,Jk,Jk,Pt 1,Jk,Jk,AV.clo 43 [CA.ptr 0 0]] ++ Rj 8)⟩
def f42_2_S  (e0:List TV) (x1 x2 x3 x4 y5 y6 y7 w8:TV):ASt:=⟨[AV.one (CA.yl 0),Pt 0,Jk,Jk,AV.one (CA.ref e0 0),Jk,Jk,Jk,AV.tv x1,AV.tv x2] ++ Rj 10 ++ [AV.tv x3,AV.tv x4] ++ Rj 40,[some (BC.cells [CA.t y5,CA.t y6,CA.t y7]),some (BC.cells [CA.sref 2 0 []]),Tr w8] ++ Rz 98,([Jk,Jk,Jk,Pt 1,Jk,Jk,AV.clo 43 [CA.ptr 0 0]] ++ Rj 8)⟩
def f42_3_S  (e0:List TV) (x1 x2 y3 y4 y5 w6:TV):ASt:=⟨[AV.one (CA.yl 0),Pt 0,Jk,Jk,AV.one (CA.ref e0 0),Jk,Jk,Jk,AV.tv x1,AV.tv x2] ++ Rj 52,[some (BC.cells [CA.t y3,CA.t y4,CA.t y5]),some (BC.cells [CA.sref 2 0 []]),Tr w6] ++ Rz 98,([Jk,Jk,Jk,Pt 1,Jk,Jk,AV.clo 43 [CA.ptr 0 0]] ++ Rj 8)⟩
def f42_M (x0:TV):Prg TV :=
 chk (TV.isAgg x0 3) (
 chk true (
 jmp [1,1] (f42_0_S (cell x0 0) (cell x0 1) (cell x0 2) (TV.lit aF))))
def f42_0  (y0 y1 y2 w3:TV):Prg TV :=
 tv (plen (.slice 46) y2) fun v0 =>
 jmp [0,0,1,43,0,1,0,1,1] (f42_1_S v0 (I 0) y0 y1 y2 w3)
def f42_1  (x0 x1 y2 y3 y4 w5:TV):Prg TV :=
 tv (pbin (.int .i64) .lss x1 x0) fun v1 =>
 Prg.ite (asBool v1) (
 tvs (pidx 14 y4 x1) fun e2 =>
 chk (Nat.blt 5 (List.length e2)) (
 tv (plen (.slice 50) (nth hole e2 5)) fun v3 =>
 jmp [0,0,1,0,1,1,0,0,1,1,0,0,1,43,0,1,0,1,1] (f42_2_S e2 x0 x1 v3 (I 0) y2 y3 y4 w5))) (
 chk (bp w5) (
 ret w5))
def f42_2  (e0:List TV) (x1 x2 x3 x4 y5 y6 y7 w8:TV):Prg TV :=
 tv (pbin (.int .i64) .lss x4 x3) fun v4 =>
 Prg.ite (asBool v4) (
 chk (Nat.blt 5 (List.length e0)) (
 tvs (pidx 7 (nth hole e0 5) x4) fun e5 =>
 chk (Nat.blt 0 (List.length e5)) (
 tv (pbin (.int .i64) .eql (nth hole e5 0) (I 11)) fun v6 =>
 Prg.ite (asBool v6) (
 chk (Nat.blt 5 (List.length e0)) (
 tvs (pidx 7 (nth hole e0 5) x4) fun e7 =>
 chk (Nat.blt 5 (List.length e7)) (
 rws (pelems 1 (TV.sl true 1 (chunks 1 1 [nth hole e7 5]))) fun r8 =>
 tv (papp 1 w8 (qk r8)) fun v9 =>
 tv (pbin (.int .i64) .add x4 (I 1)) fun v10 =>
 jmp [0,0,1,0,1,1,0,0,1,1,0,0,1,43,0,1,0,1,1] (f42_2_S e0 x1 x2 x3 v10 y5 y6 y7 v9)))) (
 tv (pbin (.int .i64) .add x4 (I 1)) fun v11 =>
 jmp [0,0,1,0,1,1,0,0,1,1,0,0,1,43,0,1,0,1,1] (f42_2_S e0 x1 x2 x3 v11 y5 y6 y7 w8))))) (
 jmp [1,1,1,0,0,1,1,0,0,1,43,0,1,0,1,1] (f42_3_S e0 x1 x2 y5 y6 y7 w8))
def f42_3  (e0:List TV) (x1 x2 y3 y4 y5 w6:TV):Prg TV :=
 chk (Nat.blt 6 (List.length e0)) (
 tv (pbin (.int .i64) .eql (nth hole e0 6) (I 4)) fun v12 =>
 Prg.ite (asBool v12) (
 chk (Nat.blt 9 (List.length e0)) (
 rws (pelems 1 (TV.sl true 1 (chunks 1 1 [nth hole e0 9]))) fun r13 =>
 tv (papp 1 w6 (qk r13)) fun v14 =>
 tv (pbin (.int .i64) .add x2 (I 1)) fun v15 =>
 jmp [0,0,1,43,0,1,0,1,1] (f42_1_S x1 v15 y3 y4 y5 v14))) (
 tv (pbin (.int .i64) .add x2 (I 1)) fun v16 =>
 jmp [0,0,1,43,0,1,0,1,1] (f42_1_S x1 v16 y3 y4 y5 w6)))
theorem f42_MR (x0:TV):aJ prog 42 [x0]=f42_M x0:=by kernel_rfl
theorem f42_0_J  {y0 y1 y2 w3:TV} {r:TV} (h:aa prog 42 (f42_0 y0 y1 y2 w3) r):aa prog 42 (.jmp [1,1] (f42_0_S y0 y1 y2 w3)) r:=aa.jmp (by kernel_rfl) h
theorem f42_1_J  {x0 x1 y2 y3 y4 w5:TV} {r:TV} (h:aa prog 42 (f42_1 x0 x1 y2 y3 y4 w5) r):aa prog 42 (.jmp [0,0,1,43,0,1,0,1,1] (f42_1_S x0 x1 y2 y3 y4 w5)) r:=aa.jmp (by kernel_rfl) h
theorem f42_2_J  {e0:List TV} {x1 x2 x3 x4 y5 y6 y7 w8:TV} {r:TV} (h:aa prog 42 (f42_2 e0 x1 x2 x3 x4 y5 y6 y7 w8) r):aa prog 42 (.jmp [0,0,1,0,1,1,0,0,1,1,0,0,1,43,0,1,0,1,1] (f42_2_S e0 x1 x2 x3 x4 y5 y6 y7 w8)) r:=aa.jmp (by kernel_rfl) h
theorem f42_3_J  {e0:List TV} {x1 x2 y3 y4 y5 w6:TV} {r:TV} (h:aa prog 42 (f42_3 e0 x1 x2 y3 y4 y5 w6) r):aa prog 42 (.jmp [1,1,1,0,0,1,1,0,0,1,43,0,1,0,1,1] (f42_3_S e0 x1 x2 y3 y4 y5 w6)) r:=aa.jmp (by kernel_rfl) h
def f44_0_S  (x0 x1 x2:TV):ASt:=⟨[AV.tv x0,AV.tv x1,Jk,Jk,Jk,AV.tv x2] ++ Rj 20,Rz 50,[]⟩
def f44_M (x0 x1:TV):Prg TV :=
 tv (plen (.slice 3) x0) fun v0 =>
 tv (plen (.slice 3) x1) fun v1 =>
 tv (pbin (.int .i64) .neq v0 v1) fun v2 =>
 Prg.ite (asBool v2) (
 ret (B false)) (
 jmp [0,0,1,0,1,1] (f44_0_S x0 x1 (I 0)))
def f44_0  (x0 x1 x2:TV):Prg TV :=
 tv (plen (.slice 3) x0) fun v3 =>
 tv (pbin (.int .i64) .lss x2 v3) fun v4 =>
 Prg.ite (asBool v4) (
 tvs (pidx 1 x0 x2) fun e5 =>
 chk (Nat.blt 0 (List.length e5)) (
 tvs (pidx 1 x1 x2) fun e6 =>
 chk (Nat.blt 0 (List.length e6)) (
 tv (pbin (.int .i64) .neq (nth hole e5 0) (nth hole e6 0)) fun v7 =>
 Prg.ite (asBool v7) (
 ret (B false)) (
 tv (pbin (.int .i64) .add x2 (I 1)) fun v8 =>
 jmp [0,0,1,0,1,1] (f44_0_S x0 x1 v8))))) (
 ret (B true))
theorem f44_MR (x0 x1:TV):aJ prog 44 [x0,x1]=f44_M x0 x1:=by kernel_rfl
theorem f44_0_J  {x0 x1 x2:TV} {r:TV} (h:aa prog 44 (f44_0 x0 x1 x2) r):aa prog 44 (.jmp [0,0,1,0,1,1] (f44_0_S x0 x1 x2)) r:=aa.jmp (by kernel_rfl) h
def f45_0_S  (w0 y1 y2 y3 w4 w5 w6:TV):ASt:=⟨[Jk,Sr 0] ++ Rj 5 ++ [Pt 1] ++ Rj 22,[Tr w0,some (BC.cells [CA.fn1 56 2,CA.sref 3 0 [],CA.sref 4 0 [],CA.sref 5 0 []]),some (BC.cells [CA.t y1,CA.t y2,CA.t y3]),Tr w4,Tr w5,Tr w6] ++ Rz 65,Rj 17⟩
def f45_1_S  (x0 x1 w2 y3 y4 y5 w6 w7 w8:TV):ASt:=⟨Rj 7 ++ [Pt 0] ++ Rj 6 ++ [Sr 1,AV.tv x0,AV.tv x1] ++ Rj 13,[some (BC.cells [CA.fn1 56 2,CA.sref 3 0 [],CA.sref 4 0 [],CA.sref 5 0 []]),Tr w2,some (BC.cells [CA.t y3,CA.t y4,CA.t y5]),Tr w6,Tr w7,Tr w8] ++ Rz 65,Rj 17⟩
def f45_2_S  (x0 x1 w2 y3 y4 y5 w6 w7 w8:TV):ASt:=⟨Rj 7 ++ [Pt 0] ++ Rj 6 ++ [Sr 1,AV.tv x0,AV.tv x1] ++ Rj 13,[some (BC.cells [CA.fn1 56 2,CA.sref 3 0 [],CA.sref 4 0 [],CA.sref 5 0 []]),Tr w2,some (BC.cells [CA.t y3,CA.t y4,CA.t y5]),Tr w6,Tr w7,Tr w8] ++ Rz 65,Rj 17⟩
def f45_3_S  (x0 x1 w2:TV):ASt:=⟨[Sr 0,Jk,AV.tv x0,AV.tv x1] ++ Rj 24,[Tr w2] ++ Rz 68,([Jk,Jk,Jk,Sr 0] ++ Rj 13)⟩
def f45_M (x0:TV):Prg TV :=
 chk (TV.isAgg x0 3) (
 tv (plen (.slice 46) (cell x0 2)) fun v0 =>
 tv (pbin (.int .i64) .eql v0 (I 0)) fun v1 =>
 Prg.ite (asBool v1) (
 chk true (
 ret (TV.lit aF))) (
 tv (plen (.slice 46) (cell x0 2)) fun v2 =>
 nat (aj v2) fun n3 =>
 nat (aj v2) fun n4 =>
 chk (Bool.and (Nat.ble n3 n4) (Nat.ble n4 4294967296)) (
 chk true (
 chk true (
 jmp [1,1,12,0,1,1] (f45_0_S (TV.sl true 1 (chunks 1 1 [I 0])) (cell x0 0) (cell x0 1) (cell x0 2) (TV.sl true 1 (List.replicate n3 [B false])) (TV.lit aF) (TV.lit aF)))))))
def f45_0  (w0 y1 y2 y3 w4 w5 w6:TV):Prg TV :=
 tv (plen (.slice 3) w0) fun v5 =>
 jmp [0,0,1,0,1,1,12,0,1,1] (f45_1_S v5 (I 0) w0 y1 y2 y3 w4 (bI w5) w6)
def f45_1  (x0 x1 w2 y3 y4 y5 w6 w7 w8:TV):Prg TV :=
 tv (pbin (.int .i64) .lss x1 x0) fun v6 =>
 Prg.ite (asBool v6) (
 nat (slLen w2) fun n7 =>
 nat (aj x1) fun n8 =>
 chk (Bool.and (slSize w2 1) (Nat.blt n8 n7)) (
 tvs (pel w2 n8) fun e9 =>
 chk (ab fZ e9 0) (
 nat (slLen w6) fun n10 =>
 nat (aj (nth hole e9 0)) fun n11 =>
 chk (Bool.and (slSize w6 1) (Nat.blt n11 n10)) (
 tvs (pel w6 n11) fun e12 =>
 chk (ab aK e12 0) (
 tv (pun .not (nth hole e12 0)) fun v13 =>
 Prg.ite (asBool v13) (
 nat (slLen w6) fun n14 =>
 nat (aj (nth hole e9 0)) fun n15 =>
 chk (Bool.and (slSize w6 1) (Nat.blt n15 n14)) (
 tvs (pel w6 n15) fun e16 =>
 chk (ab aK e16 0) (
 tv (eJ [] w6 n15 0 [B true]) fun v17 =>
 call 56 [qu (nth hole e9 0),agg [y3,y4,y5]] fun v18 =>
 chk (ab zSl [v18] 0) (
 rws (pelems 2 (TV.sl true 2 (chunks 2 1 [nth hole e9 0,v18]))) fun r19 =>
 tv (papp 2 w7 r19) fun v20 =>
 jmp [0,0,1,1,0,0,1,1,0,0,1,0,1,1,12,0,1,1] (f45_2_S x0 x1 w2 y3 y4 y5 v17 (bI v20) w8))))) (
 jmp [0,0,1,1,0,0,1,1,0,0,1,0,1,1,12,0,1,1] (f45_2_S x0 x1 w2 y3 y4 y5 w6 (bI w7) w8))))))) (
 tv (plen (.slice 3) w8) fun v21 =>
 tv (pbin (.int .i64) .sub v21 (I 1)) fun v22 =>
 jmp [0,0,1,4,0,1,1,1] (f45_3_S (I 0) v22 w8))
def f45_2  (x0 x1 w2 y3 y4 y5 w6 w7 w8:TV):Prg TV :=
 tv (plen (.slice 109) w7) fun v23 =>
 tv (pbin (.int .i64) .gtr v23 (I 0)) fun v24 =>
 Prg.ite (asBool v24) (
 tv (plen (.slice 109) w7) fun v25 =>
 tv (pbin (.int .i64) .sub v25 (I 1)) fun v26 =>
 nat (slLen w7) fun n27 =>
 nat (aj v26) fun n28 =>
 chk (Bool.and (slSize w7 2) (Nat.blt n28 n27)) (
 tvs (pel w7 n28) fun e29 =>
 chk (ab zSl e29 1) (
 tv (aN [(n28,1)] w7) fun v30 =>
 tv (plen (.slice 3) v30) fun v31 =>
 tv (pbin (.int .i64) .eql v31 (I 0)) fun v32 =>
 Prg.ite (asBool v32) (
 tv (plen (.slice 109) w7) fun v33 =>
 tv (pbin (.int .i64) .sub v33 (I 1)) fun v34 =>
 nat (slLen w7) fun n35 =>
 nat (aj v34) fun n36 =>
 chk (Bool.and (slSize w7 2) (Nat.blt n36 n35)) (
 tvs (pel w7 n36) fun e37 =>
 chk (ab fZ e37 0) (
 rws (pelems 1 (TV.sl true 1 (chunks 1 1 [nth hole e37 0]))) fun r38 =>
 tv (papp 1 w8 (qk r38)) fun v39 =>
 nat (slLen w7) fun n40 =>
 nat (aj v34) fun n41 =>
 chk (Bool.and (Bool.and (slSize w7 2) (Nat.ble 0 (Option.getD (some n41) n40))) (Nat.ble (Option.getD (some n41) n40) n40)) (
 tv (eY 0 ((Option.getD (some n41) n40) - 0) w7) fun v42 =>
 jmp [0,0,1,1,0,0,1,1,0,0,1,0,1,1,12,0,1,1] (f45_2_S x0 x1 w2 y3 y4 y5 w6 (bI v42) v39))))) (
 tvs (pel w7 n28) fun e43 =>
 chk (ab zSl e43 1) (
 tv (aN [(n28,1)] w7) fun v44 =>
 nat (slLen v44) fun n45 =>
 nat (aj (I 0)) fun n46 =>
 chk (Bool.and (slSize v44 1) (Nat.blt n46 n45)) (
 tv (aN [(n28,1)] w7) fun v47 =>
 tvs (pel v47 n46) fun e48 =>
 chk (ab fZ e48 0) (
 tvs (pel w7 n28) fun e49 =>
 chk (ab zSl e49 1) (
 tv (aN [(n28,1)] w7) fun v50 =>
 nat (slLen v50) fun n51 =>
 nat (aj (I 1)) fun n52 =>
 chk (Bool.and (Bool.and (slSize v50 1) (Nat.ble (Option.getD (some n52) 0) (Option.getD none n51))) (Nat.ble (Option.getD none n51) n51)) (
 tv (aN [(n28,1)] w7) fun v53 =>
 tv (eY (Option.getD (some n52) 0) ((Option.getD none n51) - (Option.getD (some n52) 0)) v53) fun v54 =>
 chk (TV.fH v54) (
 tvs (pel w7 n28) fun e55 =>
 chk (Bool.and (bS zSl e55 1) (ab zSl [v54] 0)) (
 tv (eJ [] w7 n28 1 [v54]) fun v56 =>
 nat (slLen w6) fun n57 =>
 nat (aj (nth hole e48 0)) fun n58 =>
 chk (Bool.and (slSize w6 1) (Nat.blt n58 n57)) (
 tvs (pel w6 n58) fun e59 =>
 chk (ab aK e59 0) (
 tv (pun .not (nth hole e59 0)) fun v60 =>
 Prg.ite (asBool v60) (
 nat (slLen w6) fun n61 =>
 nat (aj (nth hole e48 0)) fun n62 =>
 chk (Bool.and (slSize w6 1) (Nat.blt n62 n61)) (
 tvs (pel w6 n62) fun e63 =>
 chk (ab aK e63 0) (
 tv (eJ [] w6 n62 0 [B true]) fun v64 =>
 call 56 [qu (nth hole e48 0),agg [y3,y4,y5]] fun v65 =>
 chk (ab zSl [v65] 0) (
 rws (pelems 2 (TV.sl true 2 (chunks 2 1 [nth hole e48 0,v65]))) fun r66 =>
 tv (papp 2 v56 r66) fun v67 =>
 jmp [0,0,1,1,0,0,1,1,0,0,1,0,1,1,12,0,1,1] (f45_2_S x0 x1 w2 y3 y4 y5 v64 (bI v67) w8))))) (
 jmp [0,0,1,1,0,0,1,1,0,0,1,0,1,1,12,0,1,1] (f45_2_S x0 x1 w2 y3 y4 y5 w6 (bI v56) w8))))))))))))))) (
 tv (pbin (.int .i64) .add x1 (I 1)) fun v68 =>
 jmp [0,0,1,0,1,1,12,0,1,1] (f45_1_S x0 v68 w2 y3 y4 y5 w6 (bI w7) w8))
def f45_3  (x0 x1 w2:TV):Prg TV :=
 tv (pbin (.int .i64) .lss x0 x1) fun v69 =>
 Prg.ite (asBool v69) (
 nat (slLen w2) fun n70 =>
 nat (aj x1) fun n71 =>
 chk (Bool.and (slSize w2 1) (Nat.blt n71 n70)) (
 tvs (pel w2 n71) fun e72 =>
 chk (ab fZ e72 0) (
 nat (slLen w2) fun n73 =>
 nat (aj x0) fun n74 =>
 chk (Bool.and (slSize w2 1) (Nat.blt n74 n73)) (
 tvs (pel w2 n74) fun e75 =>
 chk (ab fZ e75 0) (
 nat (slLen w2) fun n76 =>
 nat (aj x0) fun n77 =>
 chk (Bool.and (slSize w2 1) (Nat.blt n77 n76)) (
 tvs (pel w2 n77) fun e78 =>
 chk (ab fZ e78 0) (
 tv (eJ [] w2 n77 0 [nth hole e72 0]) fun v79 =>
 nat (slLen v79) fun n80 =>
 nat (aj x1) fun n81 =>
 chk (Bool.and (slSize v79 1) (Nat.blt n81 n80)) (
 tvs (pel v79 n81) fun e82 =>
 chk (ab fZ e82 0) (
 tv (eJ [] v79 n81 0 [nth hole e75 0]) fun v83 =>
 tv (pbin (.int .i64) .add x0 (I 1)) fun v84 =>
 tv (pbin (.int .i64) .sub x1 (I 1)) fun v85 =>
 jmp [0,0,1,4,0,1,1,1] (f45_3_S v84 v85 v83)))))))))) (
 chk (bp w2) (
 ret w2))
theorem f45_MR (x0:TV):aJ prog 45 [x0]=f45_M x0:=by kernel_rfl
theorem f45_0_J  {w0 y1 y2 y3 w4 w5 w6:TV} {r:TV} (h:aa prog 45 (f45_0 w0 y1 y2 y3 w4 w5 w6) r):aa prog 45 (.jmp [1,1,12,0,1,1] (f45_0_S w0 y1 y2 y3 w4 w5 w6)) r:=aa.jmp (by kernel_rfl) h
theorem f45_1_J  {x0 x1 w2 y3 y4 y5 w6 w7 w8:TV} {r:TV} (h:aa prog 45 (f45_1 x0 x1 w2 y3 y4 y5 w6 w7 w8) r):aa prog 45 (.jmp [0,0,1,0,1,1,12,0,1,1] (f45_1_S x0 x1 w2 y3 y4 y5 w6 w7 w8)) r:=aa.jmp (by kernel_rfl) h
theorem f45_2_J  {x0 x1 w2 y3 y4 y5 w6 w7 w8:TV} {r:TV} (h:aa prog 45 (f45_2 x0 x1 w2 y3 y4 y5 w6 w7 w8) r):aa prog 45 (.jmp [0,0,1,1,0,0,1,1,0,0,1,0,1,1,12,0,1,1] (f45_2_S x0 x1 w2 y3 y4 y5 w6 w7 w8)) r:=aa.jmp (by kernel_rfl) h
theorem f45_3_J  {x0 x1 w2:TV} {r:TV} (h:aa prog 45 (f45_3 x0 x1 w2) r):aa prog 45 (.jmp [0,0,1,4,0,1,1,1] (f45_3_S x0 x1 w2)) r:=aa.jmp (by kernel_rfl) h
def f46_0_S  (x0 y1 y2 y3 y4 y5 y6 y7 y8 y9 y10 y11 y12 y13 y14 w15:TV):ASt:=⟨[Jk,Pt 0,Jk,Jk,Sr 1] ++ Rj 13 ++ [AV.tv x0] ++ Rj 7,[some (BC.cells [CA.t y1,CA.t y2,CA.t y3,CA.t y4,CA.t y5,CA.t y6,CA.t y7,CA.t y8,CA.t y9,CA.t y10,CA.t y11,CA.t y12,CA.t y13,CA.t y14]),Tr w15] ++ Rz 48,[]⟩
def f46_M (x0:TV):Prg TV :=
 chk (TV.isAgg x0 14) (
 call 58 [cell x0 6] fun v0 =>
 chk (ab fZ [v0] 0) (
 call 59 [v0,I 64] fun v1 =>
 chk (ab aK [v1] 0) (
 Prg.ite (asBool v1) (
 rws (pelems 1 (TV.sl true 1 (chunks 1 1 [cell x0 11]))) fun r2 =>
 tv (papp 1 (TV.lit aF) (qk r2)) fun v3 =>
 call 59 [v0,I 128] fun v4 =>
 chk (ab aK [v4] 0) (
 jmp [1,0,1,1,1,1] (f46_0_S v4 (cell x0 0) (cell x0 1) (cell x0 2) (cell x0 3) (cell x0 4) (cell x0 5) (cell x0 6) (cell x0 7) (cell x0 8) (cell x0 9) (cell x0 10) (cell x0 11) (cell x0 12) (cell x0 13) v3))) (
 call 59 [v0,I 128] fun v5 =>
 chk (ab aK [v5] 0) (
 chk true (
 jmp [1,0,1,1,1,1] (f46_0_S v5 (cell x0 0) (cell x0 1) (cell x0 2) (cell x0 3) (cell x0 4) (cell x0 5) (cell x0 6) (cell x0 7) (cell x0 8) (cell x0 9) (cell x0 10) (cell x0 11) (cell x0 12) (cell x0 13) (TV.lit aF))))))))
def f46_0  (x0 y1 y2 y3 y4 y5 y6 y7 y8 y9 y10 y11 y12 y13 y14 w15:TV):Prg TV :=
 Prg.ite (asBool x0) (
 rws (pelems 1 (TV.sl true 1 (chunks 1 1 [y13]))) fun r6 =>
 tv (papp 1 w15 (qk r6)) fun v7 =>
 chk (bp v7) (
 ret v7)) (
 chk (bp w15) (
 ret w15))
theorem f46_MR (x0:TV):aJ prog 46 [x0]=f46_M x0:=by kernel_rfl
theorem f46_0_J  {x0 y1 y2 y3 y4 y5 y6 y7 y8 y9 y10 y11 y12 y13 y14 w15:TV} {r:TV} (h:aa prog 46 (f46_0 x0 y1 y2 y3 y4 y5 y6 y7 y8 y9 y10 y11 y12 y13 y14 w15) r):aa prog 46 (.jmp [1,0,1,1,1,1] (f46_0_S x0 y1 y2 y3 y4 y5 y6 y7 y8 y9 y10 y11 y12 y13 y14 w15)) r:=aa.jmp (by kernel_rfl) h
def f47_0_S  (y0 y1 y2 w3:TV):ASt:=⟨[Jk,Jk,Pt 0,Jk,Jk,Jk,Sr 1] ++ Rj 24,[some (BC.cells [CA.t y0,CA.t y1,CA.t y2]),Tr w3] ++ Rz 53,[]⟩
def f47_1_S  (x0 x1 w2 y3 y4 y5:TV):ASt:=⟨[Sr 0,AV.clo 62 [CA.ptr 1 0]] ++ Rj 5 ++ [AV.tv x0,AV.tv x1] ++ Rj 10,[Tr w2,some (BC.cells [CA.t y3,CA.t y4,CA.t y5])] ++ Rz 114,(Rj 31 ++ [Sr 0,AV.clo 62 [CA.ptr 1 0]] ++ Rj 40)⟩
def f47_2_S  (x0 x1 w2 y3 y4 y5:TV):ASt:=⟨[Sr 0,AV.clo 62 [CA.ptr 1 0],Jk,Jk,Jk,AV.tv x0,AV.tv x1] ++ Rj 35,[Tr w2,some (BC.cells [CA.t y3,CA.t y4,CA.t y5])] ++ Rz 95,Rj 31⟩
def f47_3_S  (x0 w1:TV):ASt:=⟨[Sr 0] ++ Rj 4 ++ [AV.tv x0] ++ Rj 36,[Tr w1] ++ Rz 96,Rj 31⟩
def f47_M (x0 x1:TV):Prg TV :=
 chk (TV.isAgg x0 3) (
 call 60 [agg [cell x0 0,cell x0 1,cell x0 2],x1] fun v0 =>
 chk (ab aK [v0] 0) (
 tv (pun .not v0) fun v1 =>
 Prg.ite (asBool v1) (
 chk true (
 ret (TV.lit aF))) (
 tvs (pidx 14 (cell x0 2) x1) fun e2 =>
 chk (Nat.ble 14 (List.length e2)) (
 call 46 [agg [nth hole e2 0,nth hole e2 1,nth hole e2 2,nth hole e2 3,nth hole e2 4,nth hole e2 5,nth hole e2 6,nth hole e2 7,nth hole e2 8,nth hole e2 9,nth hole e2 10,nth hole e2 11,nth hole e2 12,nth hole e2 13]] fun v3 =>
 chk (ab zSl [v3] 0) (
 tv (pbin (.int .i64) .eql (nth hole e2 6) (I 4)) fun v4 =>
 Prg.ite (asBool v4) (
 rws (pelems 1 (TV.sl true 1 (chunks 1 1 [nth hole e2 13]))) fun r5 =>
 tv (papp 1 v3 (qk r5)) fun v6 =>
 jmp [1,1,1,1,1] (f47_0_S (cell x0 0) (cell x0 1) (cell x0 2) v6)) (
 jmp [1,1,1,1,1] (f47_0_S (cell x0 0) (cell x0 1) (cell x0 2) v3)))))))
def f47_0  (y0 y1 y2 w3:TV):Prg TV :=
 tv (plen (.slice 3) w3) fun v7 =>
 jmp [0,0,1,0,1,6,0,1,6,0,1,1,1,1,1] (f47_1_S v7 (I 0) w3 y0 y1 y2)
def f47_1  (x0 x1 w2 y3 y4 y5:TV):Prg TV :=
 tv (pbin (.int .i64) .lss x1 x0) fun v8 =>
 Prg.ite (asBool v8) (
 nat (slLen w2) fun n9 =>
 nat (aj x1) fun n10 =>
 chk (Bool.and (slSize w2 1) (Nat.blt n10 n9)) (
 tvs (pel w2 n10) fun e11 =>
 chk (ab fZ e11 0) (
 call 60 [agg [y3,y4,y5],nth hole e11 0] fun v12 =>
 chk (ab aK [v12] 0) (
 tv (pun .not v12) fun v13 =>
 Prg.ite (asBool v13) (
 tv (pbin (.int .i64) .eql x1 (TV.lit (Value.int IntKind.i64 (-1)))) fun v14 =>
 Prg.ite (asBool v14) (
 chk (bp w2) (
 ret w2)) (
 tv (pbin (.int .i64) .add x1 (I 1)) fun v15 =>
 jmp [0,0,1,0,1,1,1,6,0,1,1,1,1,1] (f47_2_S x1 v15 w2 y3 y4 y5))) (
 tv (pbin (.int .i64) .add x1 (I 1)) fun v16 =>
 jmp [0,0,1,0,1,6,0,1,6,0,1,1,1,1,1] (f47_1_S x0 v16 w2 y3 y4 y5)))))) (
 tv (pbin (.int .i64) .eql (TV.lit (Value.int IntKind.i64 (-1))) (TV.lit (Value.int IntKind.i64 (-1)))) fun v17 =>
 Prg.ite (asBool v17) (
 chk (bp w2) (
 ret w2)) (
 tv (pbin (.int .i64) .add (TV.lit (Value.int IntKind.i64 (-1))) (I 1)) fun v18 =>
 jmp [0,0,1,0,1,1,1,6,0,1,1,1,1,1] (f47_2_S (TV.lit (Value.int IntKind.i64 (-1))) v18 w2 y3 y4 y5)))
def f47_2  (x0 x1 w2 y3 y4 y5:TV):Prg TV :=
 tv (plen (.slice 3) w2) fun v19 =>
 tv (pbin (.int .i64) .lss x1 v19) fun v20 =>
 Prg.ite (asBool v20) (
 nat (slLen w2) fun n21 =>
 nat (aj x1) fun n22 =>
 chk (Bool.and (slSize w2 1) (Nat.blt n22 n21)) (
 tvs (pel w2 n22) fun e23 =>
 chk (ab fZ e23 0) (
 call 60 [agg [y3,y4,y5],nth hole e23 0] fun v24 =>
 chk (ab aK [v24] 0) (
 tv (pun .not v24) fun v25 =>
 tv (pun .not v25) fun v26 =>
 Prg.ite (asBool v26) (
 nat (slLen w2) fun n27 =>
 nat (aj x0) fun n28 =>
 chk (Bool.and (slSize w2 1) (Nat.blt n28 n27)) (
 tvs (pel w2 n28) fun e29 =>
 chk (ab fZ e29 0) (
 tv (eJ [] w2 n28 0 [nth hole e23 0]) fun v30 =>
 tv (pbin (.int .i64) .add x0 (I 1)) fun v31 =>
 tv (pbin (.int .i64) .add x1 (I 1)) fun v32 =>
 jmp [0,0,1,0,1,1,1,6,0,1,1,1,1,1] (f47_2_S v31 v32 v30 y3 y4 y5)))) (
 tv (pbin (.int .i64) .add x1 (I 1)) fun v33 =>
 jmp [0,0,1,0,1,1,1,6,0,1,1,1,1,1] (f47_2_S x0 v33 w2 y3 y4 y5)))))) (
 jmp [1,1,1,1,6,0,1,1,1,1,1] (f47_3_S x0 w2))
def f47_3  (x0 w1:TV):Prg TV :=
 nat (slLen w1) fun n34 =>
 nat (aj x0) fun n35 =>
 chk (Bool.and (Bool.and (slSize w1 1) (Nat.ble (Option.getD (some n35) 0) (Option.getD none n34))) (Nat.ble (Option.getD none n34) n34)) (
 tv (pclear 1 [I 0] (Option.getD (some n35) 0) ((Option.getD none n34) - (Option.getD (some n35) 0)) w1) fun v36 =>
 nat (slLen v36) fun n37 =>
 nat (aj x0) fun n38 =>
 chk (Bool.and (Bool.and (slSize v36 1) (Nat.ble 0 (Option.getD (some n38) n37))) (Nat.ble (Option.getD (some n38) n37) n37)) (
 tv (eY 0 ((Option.getD (some n38) n37) - 0) v36) fun v39 =>
 chk (bp v39) (
 ret v39)))
theorem f47_MR (x0 x1:TV):aJ prog 47 [x0,x1]=f47_M x0 x1:=by kernel_rfl
theorem f47_0_J  {y0 y1 y2 w3:TV} {r:TV} (h:aa prog 47 (f47_0 y0 y1 y2 w3) r):aa prog 47 (.jmp [1,1,1,1,1] (f47_0_S y0 y1 y2 w3)) r:=aa.jmp (by kernel_rfl) h
theorem f47_1_J  {x0 x1 w2 y3 y4 y5:TV} {r:TV} (h:aa prog 47 (f47_1 x0 x1 w2 y3 y4 y5) r):aa prog 47 (.jmp [0,0,1,0,1,6,0,1,6,0,1,1,1,1,1] (f47_1_S x0 x1 w2 y3 y4 y5)) r:=aa.jmp (by kernel_rfl) h
theorem f47_2_J  {x0 x1 w2 y3 y4 y5:TV} {r:TV} (h:aa prog 47 (f47_2 x0 x1 w2 y3 y4 y5) r):aa prog 47 (.jmp [0,0,1,0,1,1,1,6,0,1,1,1,1,1] (f47_2_S x0 x1 w2 y3 y4 y5)) r:=aa.jmp (by kernel_rfl) h
theorem f47_3_J  {x0 w1:TV} {r:TV} (h:aa prog 47 (f47_3 x0 w1) r):aa prog 47 (.jmp [1,1,1,1,6,0,1,1,1,1,1] (f47_3_S x0 w1)) r:=aa.jmp (by kernel_rfl) h
end Go.Ab.D13
end
section
set_option maxRecDepth 100000
namespace Go.Ab.D13
open Go Go.Ab Go.Proofs
open Go.Ab.TV (hole cell comp isSl isSc isTup cellsL tup agg)
open Go.Ab.Prg (tv tvs rws nat chk call jmp ret)
def f53_0_S  (x0 x1 x2 y3 y4 y5 y6 y7 y8 y9 y10 y11 y12 y13 y14 y15 y16 y17 y18 y19 y20:TV):ASt:=⟨[Jk,Jk,Pt 0,Pt 1] ++ Rj 17 ++ [AV.tv x0,AV.tv x1,AV.tv x2] ++ Rj 12,[some (BC.cells [CA.t y3,CA.t y4,CA.t y5,CA.t y6]),some (BC.cells [CA.t y7,CA.t y8,CA.t y9,CA.t y10,CA.t y11,CA.t y12,CA.t y13,CA.t y14,CA.t y15,CA.t y16,CA.t y17,CA.t y18,CA.t y19,CA.t y20])] ++ Rz 58,[]⟩
def f53_1_S  (y0 y1 y2 y3 y4 y5 y6 y7 y8 y9 y10 y11 y12 y13 y14 y15 y16 y17:TV):ASt:=⟨[Jk,Jk,Pt 0,Pt 1] ++ Rj 32,[some (BC.cells [CA.t y0,CA.t y1,CA.t y2,CA.t y3]),some (BC.cells [CA.t y4,CA.t y5,CA.t y6,CA.t y7,CA.t y8,CA.t y9,CA.t y10,CA.t y11,CA.t y12,CA.t y13,CA.t y14,CA.t y15,CA.t y16,CA.t y17])] ++ Rz 58,[]⟩
def f53_M (x0 x1:TV):Prg TV :=
 chk (TV.isAgg x0 4) (
 chk (TV.isAgg x1 14) (
 tv (plen (.slice 50) (cell x1 5)) fun v0 =>
 tv (pbin (.int .i64) .gtr v0 (I 64)) fun v1 =>
 Prg.ite (asBool v1) (
 ret (B false)) (
 call 68 [agg [cell x0 0,cell x0 1,cell x0 2,cell x0 3],cell x1 0,agg [cell x1 1,cell x1 2,cell x1 3,cell x1 4]] fun v2 =>
 chk (ab aK [v2] 0) (
 tv (pun .not v2) fun v3 =>
 Prg.ite (asBool v3) (
 ret (B false)) (
 tv (plen (.slice 50) (cell x1 5)) fun v4 =>
 jmp [0,0,1,0,1,1] (f53_0_S (cell x1 5) v4 (I 0) (cell x0 0) (cell x0 1) (cell x0 2) (cell x0 3) (cell x1 0) (cell x1 1) (cell x1 2) (cell x1 3) (cell x1 4) (cell x1 5) (cell x1 6) (cell x1 7) (cell x1 8) (cell x1 9) (cell x1 10) (cell x1 11) (cell x1 12) (cell x1 13)))))))
def f53_0  (x0 x1 x2 y3 y4 y5 y6 y7 y8 y9 y10 y11 y12 y13 y14 y15 y16 y17 y18 y19 y20:TV):Prg TV :=
 tv (pbin (.int .i64) .lss x2 x1) fun v5 =>
 Prg.ite (asBool v5) (
 tvs (pidx 7 x0 x2) fun e6 =>
 chk (Nat.ble 7 (List.length e6)) (
 call 69 [agg [y3,y4,y5,y6],agg [nth hole e6 0,nth hole e6 1,nth hole e6 2,nth hole e6 3,nth hole e6 4,nth hole e6 5,nth hole e6 6]] fun v7 =>
 chk (ab aK [v7] 0) (
 tv (pun .not v7) fun v8 =>
 Prg.ite (asBool v8) (
 ret (B false)) (
 tv (pbin (.int .i64) .add x2 (I 1)) fun v9 =>
 jmp [0,0,1,0,1,1] (f53_0_S x0 x1 v9 y3 y4 y5 y6 y7 y8 y9 y10 y11 y12 y13 y14 y15 y16 y17 y18 y19 y20))))) (
 jmp [1,1,1] (f53_1_S y3 y4 y5 y6 y7 y8 y9 y10 y11 y12 y13 y14 y15 y16 y17 y18 y19 y20))
def f53_1  (y0 y1 y2 y3 y4 y5 y6 y7 y8 y9 y10 y11 y12 y13 y14 y15 y16 y17:TV):Prg TV :=
 call 70 [agg [y0,y1,y2,y3],agg [y10,y11,y12,y13,y14,y15,y16,y17]] fun v10 =>
 chk (ab aK [v10] 0) (
 ret v10)
theorem f53_MR (x0 x1:TV):aJ prog 53 [x0,x1]=f53_M x0 x1:=by kernel_rfl
theorem f53_0_J  {x0 x1 x2 y3 y4 y5 y6 y7 y8 y9 y10 y11 y12 y13 y14 y15 y16 y17 y18 y19 y20:TV} {r:TV} (h:aa prog 53 (f53_0 x0 x1 x2 y3 y4 y5 y6 y7 y8 y9 y10 y11 y12 y13 y14 y15 y16 y17 y18 y19 y20) r):aa prog 53 (.jmp [0,0,1,0,1,1] (f53_0_S x0 x1 x2 y3 y4 y5 y6 y7 y8 y9 y10 y11 y12 y13 y14 y15 y16 y17 y18 y19 y20)) r:=aa.jmp (by kernel_rfl) h
theorem f53_1_J  {y0 y1 y2 y3 y4 y5 y6 y7 y8 y9 y10 y11 y12 y13 y14 y15 y16 y17:TV} {r:TV} (h:aa prog 53 (f53_1 y0 y1 y2 y3 y4 y5 y6 y7 y8 y9 y10 y11 y12 y13 y14 y15 y16 y17) r):aa prog 53 (.jmp [1,1,1] (f53_1_S y0 y1 y2 y3 y4 y5 y6 y7 y8 y9 y10 y11 y12 y13 y14 y15 y16 y17)) r:=aa.jmp (by kernel_rfl) h
def f56_M (c0 c1 c2 x0:TV):Prg TV :=
 chk (Nat.ble 3 (List.length [c0,c1,c2])) (
 call 47 [agg [c0,c1,c2],x0] fun v0 =>
 chk (ab zSl [v0] 0) (
 chk (bp v0) (
 ret v0)))
theorem f56_MR (c0 c1 c2 x0:TV):aJ prog 56 [x0,agg [c0,c1,c2]]=f56_M c0 c1 c2 x0:=by kernel_rfl
def f58_M (x0:TV):Prg TV :=
 tv (pbin (.int .i64) .eql x0 (I 1)) fun v0 =>
 Prg.ite (asBool v0) (
 Prg.ite (asBool v0) (
 ret (I 5)) (
 tv (pbin (.int .i64) .eql x0 (I 2)) fun v1 =>
 Prg.ite (asBool v1) (
 ret (I 65)) (
 tv (pbin (.int .i64) .eql x0 (I 3)) fun v2 =>
 Prg.ite (asBool v2) (
 ret (I 197)) (
 tv (pbin (.int .i64) .eql x0 (I 4)) fun v3 =>
 Prg.ite (asBool v3) (
 ret (I 355)) (
 tv (pbin (.int .i64) .eql x0 (I 6)) fun v4 =>
 Prg.ite (asBool v4) (
 ret (I 1)) (
 ret (I 0))))))) (
 tv (pbin (.int .i64) .eql x0 (I 5)) fun v5 =>
 Prg.ite (asBool v5) (
 ret (I 5)) (
 tv (pbin (.int .i64) .eql x0 (I 2)) fun v6 =>
 Prg.ite (asBool v6) (
 ret (I 65)) (
 tv (pbin (.int .i64) .eql x0 (I 3)) fun v7 =>
 Prg.ite (asBool v7) (
 ret (I 197)) (
 tv (pbin (.int .i64) .eql x0 (I 4)) fun v8 =>
 Prg.ite (asBool v8) (
 ret (I 355)) (
 tv (pbin (.int .i64) .eql x0 (I 6)) fun v9 =>
 Prg.ite (asBool v9) (
 ret (I 1)) (
 ret (I 0)))))))
theorem f58_MR (x0:TV):aJ prog 58 [x0]=f58_M x0:=by kernel_rfl
def f59_M (x0 x1:TV):Prg TV :=
 tv (pbin (.int .i64) .and x0 x1) fun v0 =>
 tv (pbin (.int .i64) .neq v0 (I 0)) fun v1 =>
 ret v1
theorem f59_MR (x0 x1:TV):aJ prog 59 [x0,x1]=f59_M x0 x1:=by kernel_rfl
def f60_M (x0 x1:TV):Prg TV :=
 chk (TV.isAgg x0 3) (
 tv (pbin (.int .i64) .leq (I 0) x1) fun v0 =>
 Prg.ite (asBool v0) (
 tv (plen (.slice 46) (cell x0 2)) fun v1 =>
 tv (pbin (.int .i64) .lss x1 v1) fun v2 =>
 ret v2) (
 ret (B false)))
theorem f60_MR (x0 x1:TV):aJ prog 60 [x0,x1]=f60_M x0 x1:=by kernel_rfl
def f68_M (x0 x1 x2:TV):Prg TV :=
 chk (TV.isAgg x0 4) (
 chk (TV.isAgg x2 4) (
 tv (pun .not x1) fun v0 =>
 Prg.ite (asBool v0) (
 tv (pbin (.int .i64) .eql (cell x2 0) (I 0)) fun v1 =>
 Prg.ite (asBool v1) (
 tv (plen (.slice 48) (cell x2 1)) fun v2 =>
 tv (pbin (.int .i64) .eql v2 (I 0)) fun v3 =>
 Prg.ite (asBool v3) (
 tv (pun .not (cell x2 2)) fun v4 =>
 Prg.ite (asBool v4) (
 tv (pun .not (cell x2 3)) fun v5 =>
 ret v5) (
 ret (B false))) (
 ret (B false))) (
 ret (B false))) (
 call 73 [agg [cell x0 0,cell x0 1,cell x0 2,cell x0 3],B true,cell x2 0] fun v6 =>
 chk (ab aK [v6] 0) (
 Prg.ite (asBool v6) (
 tv (plen (.slice 48) (cell x2 1)) fun v7 =>
 tv (pbin (.int .i64) .leq v7 (I 8)) fun v8 =>
 Prg.ite (asBool v8) (
 call 74 [cell x2 1] fun v9 =>
 chk (ab aK [v9] 0) (
 Prg.ite (asBool v9) (
 tv (plen (.slice 48) (cell x2 1)) fun v10 =>
 tv (pbin (.int .i64) .gtr v10 (I 0)) fun v11 =>
 Prg.ite (asBool v11) (
 ret (B true)) (
 Prg.ite (asBool (cell x2 2)) (
 ret (B true)) (
 ret (cell x2 3)))) (
 ret (B false)))) (
 ret (B false))) (
 ret (B false))))))
theorem f68_MR (x0 x1 x2:TV):aJ prog 68 [x0,x1,x2]=f68_M x0 x1 x2:=by kernel_rfl
def f69_M (x0 x1:TV):Prg TV :=
 chk (TV.isAgg x0 4) (
 chk (TV.isAgg x1 7) (
 call 75 [cell x1 0] fun v0 =>
 chk (ab fZ [v0] 0) (
 call 59 [v0,I 1] fun v1 =>
 chk (ab aK [v1] 0) (
 Prg.ite (asBool v1) (
 call 59 [v0,I 2] fun v2 =>
 chk (ab aK [v2] 0) (
 call 73 [agg [cell x0 0,cell x0 1,cell x0 2,cell x0 3],v2,cell x1 1] fun v3 =>
 chk (ab aK [v3] 0) (
 Prg.ite (asBool v3) (
 call 59 [v0,I 4] fun v4 =>
 chk (ab aK [v4] 0) (
 call 73 [agg [cell x0 0,cell x0 1,cell x0 2,cell x0 3],v4,cell x1 2] fun v5 =>
 chk (ab aK [v5] 0) (
 Prg.ite (asBool v5) (
 call 59 [v0,I 8] fun v6 =>
 chk (ab aK [v6] 0) (
 call 73 [agg [cell x0 0,cell x0 1,cell x0 2,cell x0 3],v6,cell x1 3] fun v7 =>
 chk (ab aK [v7] 0) (
 Prg.ite (asBool v7) (
 call 59 [v0,I 16] fun v8 =>
 chk (ab aK [v8] 0) (
 Prg.ite (asBool v8) (
 call 59 [v0,I 32] fun v9 =>
 chk (ab aK [v9] 0) (
 call 76 [agg [cell x0 0,cell x0 1,cell x0 2,cell x0 3],v9,cell x1 5,cell x1 6] fun v10 =>
 chk (ab aK [v10] 0) (
 ret v10))) (
 tv (pbin (.int .u16) .eql (cell x1 4) (W 0)) fun v11 =>
 Prg.ite (asBool v11) (
 call 59 [v0,I 32] fun v12 =>
 chk (ab aK [v12] 0) (
 call 76 [agg [cell x0 0,cell x0 1,cell x0 2,cell x0 3],v12,cell x1 5,cell x1 6] fun v13 =>
 chk (ab aK [v13] 0) (
 ret v13))) (
 ret (B false))))) (
 ret (B false))))) (
 ret (B false))))) (
 ret (B false))))) (
 ret (B false))))))
theorem f69_MR (x0 x1:TV):aJ prog 69 [x0,x1]=f69_M x0 x1:=by kernel_rfl
def f70_M (x0 x1:TV):Prg TV :=
 chk (TV.isAgg x0 4) (
 chk (TV.isAgg x1 8) (
 call 58 [cell x1 0] fun v0 =>
 chk (ab fZ [v0] 0) (
 call 59 [v0,I 1] fun v1 =>
 chk (ab aK [v1] 0) (
 Prg.ite (asBool v1) (
 call 59 [v0,I 4] fun v2 =>
 chk (ab aK [v2] 0) (
 call 73 [agg [cell x0 0,cell x0 1,cell x0 2,cell x0 3],v2,cell x1 1] fun v3 =>
 chk (ab aK [v3] 0) (
 Prg.ite (asBool v3) (
 call 59 [v0,I 2] fun v4 =>
 chk (ab aK [v4] 0) (
 call 73 [agg [cell x0 0,cell x0 1,cell x0 2,cell x0 3],v4,cell x1 2] fun v5 =>
 chk (ab aK [v5] 0) (
 Prg.ite (asBool v5) (
 call 59 [v0,I 32] fun v6 =>
 chk (ab aK [v6] 0) (
 call 76 [agg [cell x0 0,cell x0 1,cell x0 2,cell x0 3],v6,cell x1 3,cell x1 4] fun v7 =>
 chk (ab aK [v7] 0) (
 Prg.ite (asBool v7) (
 call 59 [v0,I 64] fun v8 =>
 chk (ab aK [v8] 0) (
 call 77 [agg [cell x0 0,cell x0 1,cell x0 2,cell x0 3],v8,cell x1 5,B false] fun v9 =>
 chk (ab aK [v9] 0) (
 Prg.ite (asBool v9) (
 call 59 [v0,I 128] fun v10 =>
 chk (ab aK [v10] 0) (
 call 77 [agg [cell x0 0,cell x0 1,cell x0 2,cell x0 3],v10,cell x1 6,B false] fun v11 =>
 chk (ab aK [v11] 0) (
 Prg.ite (asBool v11) (
 call 59 [v0,I 256] fun v12 =>
 chk (ab aK [v12] 0) (
 call 77 [agg [cell x0 0,cell x0 1,cell x0 2,cell x0 3],v12,cell x1 7,B true] fun v13 =>
 chk (ab aK [v13] 0) (
 ret v13))) (
 ret (B false))))) (
 ret (B false))))) (
 ret (B false))))) (
 ret (B false))))) (
 ret (B false))))) (
 ret (B false))))))
theorem f70_MR (x0 x1:TV):aJ prog 70 [x0,x1]=f70_M x0 x1:=by kernel_rfl
def f73_M (x0 x1 x2:TV):Prg TV :=
 chk (TV.isAgg x0 4) (
 tv (pun .not x1) fun v0 =>
 Prg.ite (asBool v0) (
 tv (pbin (.int .i64) .eql x2 (I 0)) fun v1 =>
 ret v1) (
 tv (pbin (.int .i64) .leq (I 0) x2) fun v2 =>
 Prg.ite (asBool v2) (
 tv (pbin (.int .i64) .lss x2 (cell x0 2)) fun v3 =>
 ret v3) (
 ret (B false))))
theorem f73_MR (x0 x1 x2:TV):aJ prog 73 [x0,x1,x2]=f73_M x0 x1 x2:=by kernel_rfl
def f74_0_S  (x0 x1 x2 x3:TV):ASt:=⟨[AV.tv x0] ++ Rj 4 ++ [AV.tv x1,AV.tv x2,AV.tv x3] ++ Rj 10,Rz 42,[]⟩
def f74_M (x0:TV):Prg TV :=
 tv (plen (.slice 48) x0) fun v0 =>
 jmp [0,0,1,0,1] (f74_0_S x0 x0 v0 (I 0))
def f74_0  (x0 x1 x2 x3:TV):Prg TV :=
 tv (pbin (.int .i64) .lss x3 x2) fun v1 =>
 Prg.ite (asBool v1) (
 tvs (pidx 1 x1 x3) fun e2 =>
 chk (Nat.blt 0 (List.length e2)) (
 nat (aj x3) fun n3 =>
 tv (pslice (.slice 48) 1 x0 none (some n3)) fun v4 =>
 call 78 [v4,nth hole e2 0] fun v5 =>
 chk (ab aK [v5] 0) (
 Prg.ite (asBool v5) (
 ret (B false)) (
 tv (pbin (.int .i64) .add x3 (I 1)) fun v6 =>
 jmp [0,0,1,0,1] (f74_0_S x0 x1 x2 v6))))) (
 ret (B true))
theorem f74_MR (x0:TV):aJ prog 74 [x0]=f74_M x0:=by kernel_rfl
theorem f74_0_J  {x0 x1 x2 x3:TV} {r:TV} (h:aa prog 74 (f74_0 x0 x1 x2 x3) r):aa prog 74 (.jmp [0,0,1,0,1] (f74_0_S x0 x1 x2 x3)) r:=aa.jmp (by kernel_rfl) h
def f75_M (x0:TV):Prg TV :=
 tv (pbin (.int .i64) .eql x0 (I 1)) fun v0 =>
 Prg.ite (asBool v0) (
 ret (I 19)) (
 tv (pbin (.int .i64) .eql x0 (I 2)) fun v1 =>
 Prg.ite (asBool v1) (
 Prg.ite (asBool v1) (
 ret (I 7)) (
 tv (pbin (.int .i64) .eql x0 (I 3)) fun v2 =>
 Prg.ite (asBool v2) (
 Prg.ite (asBool v2) (
 ret (I 15)) (
 tv (pbin (.int .i64) .eql x0 (I 10)) fun v3 =>
 Prg.ite (asBool v3) (
 ret (I 13)) (
 tv (pbin (.int .i64) .eql x0 (I 11)) fun v4 =>
 Prg.ite (asBool v4) (
 ret (I 35)) (
 tv (pbin (.int .i64) .eql x0 (I 12)) fun v5 =>
 Prg.ite (asBool v5) (
 ret (I 5)) (
 tv (pbin (.int .i64) .eql x0 (I 13)) fun v6 =>
 Prg.ite (asBool v6) (
 ret (I 3)) (
 ret (I 0))))))) (
 tv (pbin (.int .i64) .eql x0 (I 4)) fun v7 =>
 Prg.ite (asBool v7) (
 Prg.ite (asBool v7) (
 ret (I 15)) (
 tv (pbin (.int .i64) .eql x0 (I 10)) fun v8 =>
 Prg.ite (asBool v8) (
 ret (I 13)) (
 tv (pbin (.int .i64) .eql x0 (I 11)) fun v9 =>
 Prg.ite (asBool v9) (
 ret (I 35)) (
 tv (pbin (.int .i64) .eql x0 (I 12)) fun v10 =>
 Prg.ite (asBool v10) (
 ret (I 5)) (
 tv (pbin (.int .i64) .eql x0 (I 13)) fun v11 =>
 Prg.ite (asBool v11) (
 ret (I 3)) (
 ret (I 0))))))) (
 tv (pbin (.int .i64) .eql x0 (I 5)) fun v12 =>
 Prg.ite (asBool v12) (
 Prg.ite (asBool v12) (
 ret (I 15)) (
 tv (pbin (.int .i64) .eql x0 (I 10)) fun v13 =>
 Prg.ite (asBool v13) (
 ret (I 13)) (
 tv (pbin (.int .i64) .eql x0 (I 11)) fun v14 =>
 Prg.ite (asBool v14) (
 ret (I 35)) (
 tv (pbin (.int .i64) .eql x0 (I 12)) fun v15 =>
 Prg.ite (asBool v15) (
 ret (I 5)) (
 tv (pbin (.int .i64) .eql x0 (I 13)) fun v16 =>
 Prg.ite (asBool v16) (
 ret (I 3)) (
 ret (I 0))))))) (
 tv (pbin (.int .i64) .eql x0 (I 6)) fun v17 =>
 Prg.ite (asBool v17) (
 Prg.ite (asBool v17) (
 ret (I 15)) (
 tv (pbin (.int .i64) .eql x0 (I 10)) fun v18 =>
 Prg.ite (asBool v18) (
 ret (I 13)) (
 tv (pbin (.int .i64) .eql x0 (I 11)) fun v19 =>
 Prg.ite (asBool v19) (
 ret (I 35)) (
 tv (pbin (.int .i64) .eql x0 (I 12)) fun v20 =>
 Prg.ite (asBool v20) (
 ret (I 5)) (
 tv (pbin (.int .i64) .eql x0 (I 13)) fun v21 =>
 Prg.ite (asBool v21) (
 ret (I 3)) (
 ret (I 0))))))) (
 tv (pbin (.int .i64) .eql x0 (I 7)) fun v22 =>
 Prg.ite (asBool v22) (
 Prg.ite (asBool v22) (
 ret (I 15)) (
 tv (pbin (.int .i64) .eql x0 (I 10)) fun v23 =>
 Prg.ite (asBool v23) (
 ret (I 13)) (
 tv (pbin (.int .i64) .eql x0 (I 11)) fun v24 =>
 Prg.ite (asBool v24) (
 ret (I 35)) (
 tv (pbin (.int .i64) .eql x0 (I 12)) fun v25 =>
 Prg.ite (asBool v25) (
 ret (I 5)) (
 tv (pbin (.int .i64) .eql x0 (I 13)) fun v26 =>
 Prg.ite (asBool v26) (
 ret (I 3)) (
 ret (I 0))))))) (
 tv (pbin (.int .i64) .eql x0 (I 8)) fun v27 =>
 Prg.ite (asBool v27) (
 ret (I 15)) (
 tv (pbin (.int .i64) .eql x0 (I 10)) fun v28 =>
 Prg.ite (asBool v28) (
 ret (I 13)) (
 tv (pbin (.int .i64) .eql x0 (I 11)) fun v29 =>
 Prg.ite (asBool v29) (
 ret (I 35)) (
 tv (pbin (.int .i64) .eql x0 (I 12)) fun v30 =>
 Prg.ite (asBool v30) (
 ret (I 5)) (
 tv (pbin (.int .i64) .eql x0 (I 13)) fun v31 =>
 Prg.ite (asBool v31) (
 ret (I 3)) (
 ret (I 0))))))))))))) (
 tv (pbin (.int .i64) .eql x0 (I 9)) fun v32 =>
 Prg.ite (asBool v32) (
 ret (I 7)) (
 tv (pbin (.int .i64) .eql x0 (I 3)) fun v33 =>
 Prg.ite (asBool v33) (
 Prg.ite (asBool v33) (
 ret (I 15)) (
 tv (pbin (.int .i64) .eql x0 (I 10)) fun v34 =>
 Prg.ite (asBool v34) (
 ret (I 13)) (
 tv (pbin (.int .i64) .eql x0 (I 11)) fun v35 =>
 Prg.ite (asBool v35) (
 ret (I 35)) (
 tv (pbin (.int .i64) .eql x0 (I 12)) fun v36 =>
 Prg.ite (asBool v36) (
 ret (I 5)) (
 tv (pbin (.int .i64) .eql x0 (I 13)) fun v37 =>
 Prg.ite (asBool v37) (
 ret (I 3)) (
 ret (I 0))))))) (
 tv (pbin (.int .i64) .eql x0 (I 4)) fun v38 =>
 Prg.ite (asBool v38) (
 Prg.ite (asBool v38) (
 ret (I 15)) (
 tv (pbin (.int .i64) .eql x0 (I 10)) fun v39 =>
 Prg.ite (asBool v39) (
 ret (I 13)) (
 tv (pbin (.int .i64) .eql x0 (I 11)) fun v40 =>
 Prg.ite (asBool v40) (
 ret (I 35)) (
 tv (pbin (.int .i64) .eql x0 (I 12)) fun v41 =>
 Prg.ite (asBool v41) (
 ret (I 5)) (
 tv (pbin (.int .i64) .eql x0 (I 13)) fun v42 =>
 Prg.ite (asBool v42) (
 ret (I 3)) (
 ret (I 0))))))) (
 tv (pbin (.int .i64) .eql x0 (I 5)) fun v43 =>
 Prg.ite (asBool v43) (
 Prg.ite (asBool v43) (
 ret (I 15)) (
 tv (pbin (.int .i64) .eql x0 (I 10)) fun v44 =>
 Prg.ite (asBool v44) (
 ret (I 13)) (
 tv (pbin (.int .i64) .eql x0 (I 11)) fun v45 =>
 Prg.ite (asBool v45) (
 ret (I 35)) (
 tv (pbin (.int .i64) .eql x0 (I 12)) fun v46 =>
 Prg.ite (asBool v46) (
 ret (I 5)) (
 tv (pbin (.int .i64) .eql x0 (I 13)) fun v47 =>
 Prg.ite (asBool v47) (
 ret (I 3)) (
 ret (I 0))))))) (
 tv (pbin (.int .i64) .eql x0 (I 6)) fun v48 =>
 Prg.ite (asBool v48) (
 Prg.ite (asBool v48) (
 ret (I 15)) (
 tv (pbin (.int .i64) .eql x0 (I 10)) fun v49 =>
 Prg.ite (asBool v49) (
 ret (I 13)) (
 tv (pbin (.int .i64) .eql x0 (I 11)) fun v50 =>
 Prg.ite (asBool v50) (
 ret (I 35)) (
 tv (pbin (.int .i64) .eql x0 (I 12)) fun v51 =>
 Prg.ite (asBool v51) (
 ret (I 5)) (
 tv (pbin (.int .i64) .eql x0 (I 13)) fun v52 =>
 Prg.ite (asBool v52) (
 ret (I 3)) (
 ret (I 0))))))) (
 tv (pbin (.int .i64) .eql x0 (I 7)) fun v53 =>
 Prg.ite (asBool v53) (
 Prg.ite (asBool v53) (
 ret (I 15)) (
 tv (pbin (.int .i64) .eql x0 (I 10)) fun v54 =>
 Prg.ite (asBool v54) (
 ret (I 13)) (
 tv (pbin (.int .i64) .eql x0 (I 11)) fun v55 =>
 Prg.ite (asBool v55) (
 ret (I 35)) (
 tv (pbin (.int .i64) .eql x0 (I 12)) fun v56 =>
 Prg.ite (asBool v56) (
 ret (I 5)) (
 tv (pbin (.int .i64) .eql x0 (I 13)) fun v57 =>
 Prg.ite (asBool v57) (
 ret (I 3)) (
 ret (I 0))))))) (
 tv (pbin (.int .i64) .eql x0 (I 8)) fun v58 =>
 Prg.ite (asBool v58) (
 ret (I 15)) (
 tv (pbin (.int .i64) .eql x0 (I 10)) fun v59 =>
 Prg.ite (asBool v59) (
 ret (I 13)) (
 tv (pbin (.int .i64) .eql x0 (I 11)) fun v60 =>
 Prg.ite (asBool v60) (
 ret (I 35)) (
 tv (pbin (.int .i64) .eql x0 (I 12)) fun v61 =>
 Prg.ite (asBool v61) (
 ret (I 5)) (
 tv (pbin (.int .i64) .eql x0 (I 13)) fun v62 =>
 Prg.ite (asBool v62) (
 ret (I 3)) (
 ret (I 0))))))))))))))
theorem f75_MR (x0:TV):aJ prog 75 [x0]=f75_M x0:=by kernel_rfl
def f76_0_S  (x0 x1 x2 y3 y4 y5 y6:TV):ASt:=⟨Rj 4 ++ [Pt 0] ++ Rj 35 ++ [AV.tv x0,AV.tv x1,AV.tv x2] ++ Rj 8,[some (BC.cells [CA.t y3,CA.t y4,CA.t y5,CA.t y6])] ++ Rz 74,[]⟩
def f76_M (x0 x1 x2 x3:TV):Prg TV :=
 chk (TV.isAgg x0 4) (
 tv (pun .not x1) fun v0 =>
 Prg.ite (asBool v0) (
 tv (pbin (.int .i64) .eql x2 (I 0)) fun v1 =>
 Prg.ite (asBool v1) (
 tv (plen (.slice 3) x3) fun v2 =>
 tv (pbin (.int .i64) .eql v2 (I 0)) fun v3 =>
 ret v3) (
 ret (B false))) (
 tv (pbin (.int .i64) .lss x2 (I 0)) fun v4 =>
 Prg.ite (asBool v4) (
 ret (B false)) (
 tv (plen (.slice 27) (cell x0 0)) fun v5 =>
 tv (pbin (.int .i64) .geq x2 v5) fun v6 =>
 Prg.ite (asBool v6) (
 ret (B false)) (
 tv (plen (.slice 3) x3) fun v7 =>
 tvs (pidx 3 (cell x0 0) x2) fun e8 =>
 chk (Nat.blt 0 (List.length e8)) (
 tv (pbin (.int .i64) .neq v7 (nth hole e8 0)) fun v9 =>
 Prg.ite (asBool v9) (
 ret (B false)) (
 tv (plen (.slice 3) x3) fun v10 =>
 jmp [0,0,1,0,1,1,1] (f76_0_S x3 v10 (I 0) (cell x0 0) (cell x0 1) (cell x0 2) (cell x0 3))))))))
def f76_0  (x0 x1 x2 y3 y4 y5 y6:TV):Prg TV :=
 tv (pbin (.int .i64) .lss x2 x1) fun v11 =>
 Prg.ite (asBool v11) (
 tvs (pidx 1 x0 x2) fun e12 =>
 chk (Nat.blt 0 (List.length e12)) (
 call 73 [agg [y3,y4,y5,y6],B true,nth hole e12 0] fun v13 =>
 chk (ab aK [v13] 0) (
 tv (pun .not v13) fun v14 =>
 Prg.ite (asBool v14) (
 ret (B false)) (
 tv (pbin (.int .i64) .add x2 (I 1)) fun v15 =>
 jmp [0,0,1,0,1,1,1] (f76_0_S x0 x1 v15 y3 y4 y5 y6))))) (
 ret (B true))
theorem f76_MR (x0 x1 x2 x3:TV):aJ prog 76 [x0,x1,x2,x3]=f76_M x0 x1 x2 x3:=by kernel_rfl
theorem f76_0_J  {x0 x1 x2 y3 y4 y5 y6:TV} {r:TV} (h:aa prog 76 (f76_0 x0 x1 x2 y3 y4 y5 y6) r):aa prog 76 (.jmp [0,0,1,0,1,1,1] (f76_0_S x0 x1 x2 y3 y4 y5 y6)) r:=aa.jmp (by kernel_rfl) h
def f77_M (x0 x1 x2 x3:TV):Prg TV :=
 chk (TV.isAgg x0 4) (
 tv (pun .not x1) fun v0 =>
 Prg.ite (asBool v0) (
 tv (pbin (.int .i64) .eql x2 (I 0)) fun v1 =>
 ret v1) (
 tv (pbin (.int .i64) .leq (I 0) x2) fun v2 =>
 Prg.ite (asBool v2) (
 tv (plen (.slice 46) (cell x0 3)) fun v3 =>
 tv (pbin (.int .i64) .lss x2 v3) fun v4 =>
 Prg.ite (asBool v4) (
 tvs (pidx 14 (cell x0 3) x2) fun e5 =>
 chk (Nat.blt 0 (List.length e5)) (
 tv (pbin Kd.bool .eql (nth hole e5 0) x3) fun v6 =>
 ret v6)) (
 ret (B false))) (
 ret (B false))))
theorem f77_MR (x0 x1 x2 x3:TV):aJ prog 77 [x0,x1,x2,x3]=f77_M x0 x1 x2 x3:=by kernel_rfl
def f78_M (x0 x1:TV):Prg TV :=
 call 79 [x0,x1] fun v0 =>
 chk (ab fZ [v0] 0) (
 tv (pbin (.int .i64) .geq v0 (I 0)) fun v1 =>
 ret v1)
theorem f78_MR (x0 x1:TV):aJ prog 78 [x0,x1]=f78_M x0 x1:=by kernel_rfl
def f79_0_S  (x0 x1 x2 x3:TV):ASt:=⟨[AV.tv x0,AV.tv x1] ++ Rj 5 ++ [AV.tv x2,AV.tv x3] ++ Rj 10,Rz 43,[]⟩
def f79_M (x0 x1:TV):Prg TV :=
 tv (plen (.slice 48) x0) fun v0 =>
 jmp [0,0,1,0,1] (f79_0_S x0 x1 v0 (I 0))
def f79_0  (x0 x1 x2 x3:TV):Prg TV :=
 tv (pbin (.int .i64) .lss x3 x2) fun v1 =>
 Prg.ite (asBool v1) (
 tvs (pidx 1 x0 x3) fun e2 =>
 chk (Nat.blt 0 (List.length e2)) (
 tv (pbin (.int .u16) .eql x1 (nth hole e2 0)) fun v3 =>
 Prg.ite (asBool v3) (
 ret x3) (
 tv (pbin (.int .i64) .add x3 (I 1)) fun v4 =>
 jmp [0,0,1,0,1] (f79_0_S x0 x1 x2 v4)))) (
 ret (TV.lit (Value.int IntKind.i64 (-1))))
theorem f79_MR (x0 x1:TV):aJ prog 79 [x0,x1]=f79_M x0 x1:=by kernel_rfl
theorem f79_0_J  {x0 x1 x2 x3:TV} {r:TV} (h:aa prog 79 (f79_0 x0 x1 x2 x3) r):aa prog 79 (.jmp [0,0,1,0,1] (f79_0_S x0 x1 x2 x3)) r:=aa.jmp (by kernel_rfl) h
end Go.Ab.D13
end
section
set_option maxRecDepth 10000
namespace Go.Ab.D13
open Go Go.Ab Go.Proofs
theorem Dm {a b:DIns}:a=b ↔ a.op=b.op/\a.dst=b.dst/\a.a=b.a/\a.b=b.b/\a.k=b.k/\a.f=b.f/\a.args=b.args:=by
 cases a; cases b; simp
theorem DS {a b:DEnd}:a=b ↔ a.kind=b.kind/\a.a=b.a/\a.dst=b.dst/\a.f=b.f/\a.args=b.args/\a.to=b.to/\a.els=b.els/\a.pad=b.pad:=by
 cases a; cases b; simp
theorem sf {a b:DPad}:a=b ↔ a.dst=b.dst/\a.catches=b.catches/\a.all=b.all/\a.cleanup=b.cleanup:=by
 cases a; cases b; simp
theorem Dz {a b:DBlock}:a=b ↔ a.landing=b.landing/\a.pad=b.pad/\a.ins=b.ins/\a.fin=b.fin:=by
 cases a; cases b; simp
theorem ri {a b:DFunc}:a=b ↔ a.params=b.params/\a.regs=b.regs/\a.blocks=b.blocks:=by
 cases a; cases b; simp
theorem r14 {q q':Option Bool} {x y:TV} {l m:List Int} (hx:RInts q x l) (hy:RInts q' y m):aq prog 44 [x,y] (B (tt (l=m))):=by
 refine aq.of (f44_MR _ _) ?_
 unfold f44_M
 repeat' (first
  | refine aa.chk rfl ?_
  | refine aa.tv rfl ?_
  | refine aa.tv (RL.len (by assumption)) ?_
  | refine aa.nat rfl ?_
  | refine aa.ite rfl (fun _=>?_) (fun _=>?_)
  | refine aa.call (by assumption) ?_
  | refine aa.tvs (by assumption) ?_)
 ·rename_i h
  have h:¬ l=m:=by rintro rfl; simp at h
  exact bZ h
 ·rename_i h
  have hlen:l.length=m.length:=by simp at h; omega
  refine f44_0_J ?_
  rw [dD (gi hlen)]
  refine i5 (g:=fun k=>f44_0 x y (I k)) ?_ ?_
  ·unfold f44_0
   refine aa.tv hx.len (aa.tv rfl (aa.ite aQ nofun fun _=>aa.ret))
  ·intro k hk r h1 h2
   have hk':k < m.length:=by omega
   have ha:l[k]? = some l[k]:=FF hk
   have hb:m[k]? = some m[k]:=FF hk'
   obtain ⟨e,he,rfl,_⟩:=hx.idx (k:=.i64) ha
   obtain ⟨e',he',rfl,_⟩:=hy.idx (k:=.i64) hb
   unfold f44_0
   refine aa.tv hx.len (aa.tv rfl (aa.ite (aT hk) (fun _=>?_) nofun))
   refine aa.tvs he (aa.chk rfl (aa.tvs he' (aa.chk rfl (aa.tv rfl (aa.ite rfl (fun h=>?_) fun h=>?_)))))
   ·rw [h1 (by rw [ha,hb]; simpa using h)]; exact aa.ret
   ·refine aa.tv (inc hk hx.bnd) (f44_0_J (h2 ?_))
    rw [ha,hb]; simpa using h
theorem r46 {q q':Option Bool} {e e':List TV} {a b:DIns} (ha:RIns q e a) (hb:RIns q' e' b):aq prog 25 [.agg e,.agg e'] (B (tt (a=b))):=by
 obtain ⟨g,rfl,hg,_⟩:=ha
 obtain ⟨g',rfl,hg',_⟩:=hb
 have h14:=r14 hg hg'
 refine aq.of (f25_MR _ _) ?_
 unfold f25_M
 repeat' (first
  | refine aa.chk rfl ?_
  | refine aa.tv rfl ?_
  | refine aa.tv (RL.len (by assumption)) ?_
  | refine aa.nat rfl ?_
  | refine aa.ite rfl (fun _=>?_) (fun _=>?_)
  | refine aa.call (by assumption) ?_
  | refine aa.tvs (by assumption) ?_)
 ·apply gE; rw [Dm]; simp_all [tt]
 all_goals (apply bZ; rw [Dm]; simp_all [tt])
theorem r45 {q q':Option Bool} {e e':List TV} {a b:DEnd} (ha:REnd q e a) (hb:REnd q' e' b):aq prog 24 [.agg e,.agg e'] (B (tt (a=b))):=by
 obtain ⟨g,rfl,hg,_⟩:=ha
 obtain ⟨g',rfl,hg',_⟩:=hb
 have h14:=r14 hg hg'
 refine aq.of (f24_MR _ _) ?_
 unfold f24_M
 repeat' (first
  | refine aa.chk rfl ?_
  | refine aa.tv rfl ?_
  | refine aa.tv (RL.len (by assumption)) ?_
  | refine aa.nat rfl ?_
  | refine aa.ite rfl (fun _=>?_) (fun _=>?_)
  | refine aa.call (by assumption) ?_
  | refine aa.tvs (by assumption) ?_)
 ·apply gE; rw [DS]; simp_all [tt]
 all_goals (apply bZ; rw [DS]; simp_all [tt])
theorem r44 {q q':Option Bool} {e e':List TV} {a b:DPad} (ha:RPad q e a) (hb:RPad q' e' b):aq prog 23 [.agg e,.agg e'] (B (tt (a=b))):=by
 obtain ⟨x,rfl,hx,_⟩:=ha
 obtain ⟨y,rfl,hy,_⟩:=hb
 refine aq.of (f23_MR _ _) ?_
 unfold f23_M
 repeat' (first
  | refine aa.chk rfl ?_
  | refine aa.tv rfl ?_
  | refine aa.tv (RL.len (by assumption)) ?_
  | refine aa.nat rfl ?_
  | refine aa.ite rfl (fun _=>?_) (fun _=>?_)
  | refine aa.call (by assumption) ?_
  | refine aa.tvs (by assumption) ?_)
 ·apply bZ; rw [sf]; simp_all
 ·apply bZ; rw [sf]; simp_all
 ·apply bZ; rw [sf]; simp_all
 ·rename_i h
  apply bZ; rw [sf]
  intro h'
  rw [h'.2.1] at h
  simp at h
 ·rename_i h1 h2 h3 h
  have hlen:a.catches.length=b.catches.length:=by simp at h; omega
  refine f23_0_J ?_
  have hp:a=b ↔ ∀ i,i < a.catches.length->a.catches[i]? = b.catches[i]? := by
   rw [sf,gi hlen]
   simp at h1 h2 h3
   exact ⟨fun h=>h.2.1,fun h=>⟨h1,h,h2,h3⟩⟩
  rw [dD hp]
  refine i5 (g:=fun k=>f23_0 (I k) (I a.dst) x (B a.all) (B a.cleanup) (I b.dst) y (B b.all) (B b.cleanup)) ?_ ?_
  ·unfold f23_0
   refine aa.tv hx.len (aa.tv rfl (aa.ite aQ nofun fun _=>aa.ret))
  ·intro k hk r h1 h2
   have hk':k < b.catches.length:=by omega
   have ha:a.catches[k]? = some a.catches[k]:=FF hk
   have hb:b.catches[k]? = some b.catches[k]:=FF hk'
   obtain ⟨e,he,rfl,_⟩:=hx.idx (k:=.i64) ha
   obtain ⟨e',he',rfl,_⟩:=hy.idx (k:=.i64) hb
   unfold f23_0
   refine aa.tv hx.len (aa.tv rfl (aa.ite (aT hk) (fun _=>?_) nofun))
   refine aa.tvs he (aa.chk rfl (aa.tvs he' (aa.chk rfl (aa.tv rfl (aa.ite rfl (fun h=>?_) fun h=>?_)))))
   ·rw [h1 (by rw [ha,hb]; simpa using h)]; exact aa.ret
   ·refine aa.tv (inc hk hx.bnd) (f23_0_J (h2 ?_))
    rw [ha,hb]; simpa using h
theorem r31 {q q' : Option Bool} {e e' : List TV} {a b : DFunc} (ha : RFunc q e a) (hb : RFunc q' e' b) : aq prog 10 [.agg e, .agg e'] (B (tt (a = b))) := by
 obtain ⟨x,rfl,hx,_⟩:=ha
 obtain ⟨y,rfl,hy,_⟩:=hb
 refine aq.of (f10_MR _ _) ?_
 unfold f10_M
 repeat' (first
  | refine aa.chk rfl ?_
  | refine aa.tv rfl ?_
  | refine aa.tv (RL.len (by assumption)) ?_
  | refine aa.nat rfl ?_
  | refine aa.ite rfl (fun _=>?_) (fun _=>?_)
  | refine aa.call (by assumption) ?_
  | refine aa.tvs (by assumption) ?_)
 ·apply bZ; rw [ri]; simp_all
 ·apply bZ; rw [ri]; simp_all
 ·rename_i h
  apply bZ; rw [ri]
  intro h'
  rw [h'.2.2] at h
  simp at h
 ·rename_i h1 h2 h
  have hlen:a.blocks.length=b.blocks.length:=by simp at h; omega
  refine f10_0_J ?_
  have hp:a=b ↔ ∀ i,i < a.blocks.length->a.blocks[i]? = b.blocks[i]? := by
   rw [ri,gi hlen]
   simp at h1 h2
   exact ⟨fun h=>h.2.2,fun h=>⟨h1,h2,h⟩⟩
  rw [dD hp]
  refine i5 (g:=fun k=>f10_0 (I k) (I a.params) (I a.regs) x (I b.params) (I b.regs) y) ?_ ?_
  ·unfold f10_0
   refine aa.tv hx.len (aa.tv rfl (aa.ite aQ nofun fun _=>aa.ret))
  ·intro k hk r h1 h2
   have hk':k < b.blocks.length:=by omega
   have hak:a.blocks[k]? = some a.blocks[k]:=FF hk
   have hbk:b.blocks[k]? = some b.blocks[k]:=FF hk'
   obtain ⟨e,he,hea⟩:=hx.idx (k:=.i64) hak
   obtain ⟨e',he',heb⟩:=hy.idx (k:=.i64) hbk
   rw [hak,hbk,Option.some_inj,Dz] at h1 h2
   generalize a.blocks[k]=u at *
   generalize b.blocks[k]=v at *
   obtain ⟨c,i,g,rfl,hc,hd,hi,hg,ho⟩:=hea
   obtain ⟨c',i',g',rfl,hc',hd',hi',hg',ho'⟩:=heb
   have h44:=r44 (q:=q) (q':=q') (a:=u.pad) (b:=v.pad) ⟨c,rfl,hc,hd⟩ ⟨c',rfl,hc',hd'⟩
   have h45:=r45 (q:=q) (q':=q') (a:=u.fin) (b:=v.fin) ⟨g,rfl,hg,ho⟩ ⟨g',rfl,hg',ho'⟩
   unfold f10_0
   refine aa.tv hx.len (aa.tv rfl (aa.ite (aT hk) (fun _=>?_) nofun))
   refine aa.tvs he (aa.chk rfl (aa.tvs he' (aa.chk rfl (aa.tv rfl (aa.ite rfl (fun h=>?_) fun h3=>?_)))))
   ·rw [h1 (by simp at h; simp [h])]; exact aa.ret
   ·refine aa.call h44 (aa.chk rfl (aa.tv rfl (aa.ite rfl (fun h=>?_) fun h4=>?_)))
    ·rw [h1 (by simp [tt] at h; simp [h])]; exact aa.ret
    ·refine aa.call h45 (aa.chk rfl (aa.tv rfl (aa.ite rfl (fun h=>?_) fun h5=>?_)))
     ·rw [h1 (by simp [tt] at h; simp [h])]; exact aa.ret
     ·refine aa.tv hi.len (aa.tv hi'.len (aa.tv rfl (aa.ite rfl (fun h=>?_) fun h6=>?_)))
      ·rw [h1 (by intro h'; rw [h'.2.2.1] at h; simp at h)]; exact aa.ret
      ·refine f10_1_J ?_
       have hil:u.ins.length=v.ins.length:=by simp at h6; omega
       simp [tt] at h3 h4 h5
       refine C3 (n:=u.ins.length) (P:=fun j=>u.ins[j]? = v.ins[j]?) (g:=fun j=>f10_1 (I k) (I j) (I a.params) (I a.regs) x (I b.params) (I b.regs) y (B u.landing) (I u.pad.dst) c (B u.pad.all) (B u.pad.cleanup) i (I u.fin.kind) (I u.fin.a) (I u.fin.dst) (I u.fin.f) g (I u.fin.to) (I u.fin.els) (I u.fin.pad) (B v.landing) (I v.pad.dst) c' (B v.pad.all) (B v.pad.cleanup) i' (I v.fin.kind) (I v.fin.a) (I v.fin.dst) (I v.fin.f) g' (I v.fin.to) (I v.fin.els) (I v.fin.pad)) ?_ ?_ ?_
       ·intro hn; exact h1 fun h'=>hn ((gi hil).1 h'.2.2.1)
       ·intro hn
        unfold f10_1
        refine aa.tv hi.len (aa.tv rfl (aa.ite aQ nofun fun _=>?_))
        refine aa.tv (inc hk hx.bnd) (f10_0_J (h2 ?_))
        exact ⟨h3,h4,(gi hil).2 hn,h5⟩
       ·intro j hj r g1 g2
        have hj':j < v.ins.length:=by omega
        have hau:u.ins[j]? = some u.ins[j]:=FF hj
        have hbu:v.ins[j]? = some v.ins[j]:=FF hj'
        obtain ⟨e,he,hea⟩:=hi.idx (k:=.i64) hau
        obtain ⟨e',he',heb⟩:=hi'.idx (k:=.i64) hbu
        have h46:=r46 hea heb
        obtain ⟨_,rfl,_⟩:=hea
        obtain ⟨_,rfl,_⟩:=heb
        unfold f10_1
        refine aa.tv hi.len (aa.tv rfl (aa.ite (aT hj) (fun _=>?_) nofun))
        refine aa.tvs he (aa.chk rfl (aa.tvs he' (aa.chk rfl (aa.call h46 (aa.chk rfl (aa.tv rfl (aa.ite rfl (fun h=>?_) fun h=>?_)))))))
        ·rw [g1 (by rw [hau,hbu]; simpa [tt] using h)]; exact aa.ret
        ·refine aa.tv (inc hj hi.bnd) (f10_1_J (g2 ?_))
         rw [hau,hbu]; simpa [tt] using h
end Go.Ab.D13
end

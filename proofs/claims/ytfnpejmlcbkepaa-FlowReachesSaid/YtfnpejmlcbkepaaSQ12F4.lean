import Derived.Test.YtfnpejmlcbkepaaSQ12T
import Derived.Test.YtfnpejmlcbkepaaSQ12Xb
import Derived.Test.YtfnpejmlcbkepaaSQ12Xc
set_option linter.all false
section
set_option maxRecDepth 100000
namespace Go.Ab.Q12
open Go Go.Ab Go.Proofs
open Go.Ab.TV (hole cell comp isSl isSc isTup cellsL tup agg)
open Go.Ab.Prg (tv tvs rws nat chk call jmp ret)
def f62_M (x0:TV):Prg TV :=
 tv (pbin (.int .i64) .eql x0 (I 1)) fun v0 =>
 Prg.ite (asBool v0) (
 Prg.ite (asBool v0) (
 ret (I 5)) (
 tv (pbin (.int .i64) .eql x0 (I 2)) fun v1 =>
 Prg.ite (asBool v1) (
 ret (I 65)) (
 tv (pbin (.int .i64) .eql x0 (I 3)) fun v2 =>
 Prg.ite (asBool v2) (
 ret (I 197)) (
 tv (pbin (.int .i64) .eql x0 (I 4)) fun v3 =>
 Prg.ite (asBool v3) (
 ret (I 355)) (
 tv (pbin (.int .i64) .eql x0 (I 6)) fun v4 =>
 Prg.ite (asBool v4) (
 ret (I 1)) (
 ret (I 0))))))) (
 tv (pbin (.int .i64) .eql x0 (I 5)) fun v5 =>
 Prg.ite (asBool v5) (
 ret (I 5)) (
 tv (pbin (.int .i64) .eql x0 (I 2)) fun v6 =>
 Prg.ite (asBool v6) (
 ret (I 65)) (
 tv (pbin (.int .i64) .eql x0 (I 3)) fun v7 =>
 Prg.ite (asBool v7) (
 ret (I 197)) (
 tv (pbin (.int .i64) .eql x0 (I 4)) fun v8 =>
 Prg.ite (asBool v8) (
 ret (I 355)) (
 tv (pbin (.int .i64) .eql x0 (I 6)) fun v9 =>
 Prg.ite (asBool v9) (
 ret (I 1)) (
 ret (I 0)))))))
theorem f62_MR (x0:TV):aB prog 62 [x0]=f62_M x0:=by kernel_rfl
def f63_M (x0 x1:TV):Prg TV :=
 tv (pbin (.int .i64) .and x0 x1) fun v0 =>
 tv (pbin (.int .i64) .neq v0 (I 0)) fun v1 =>
 ret v1
theorem f63_MR (x0 x1:TV):aB prog 63 [x0,x1]=f63_M x0 x1:=by kernel_rfl
def f68_M (x0 x1 x2:TV):Prg TV :=
 chk (TV.isAgg x0 1) (
 call 81 [agg [cell x0 0]] fun v0 =>
 chk (ab au [v0] 0) (
 tv (pun .not v0) fun v1 =>
 Prg.ite (asBool v1) (
 chk true (
 ret (tup [agg [I 0,I 0,I 0,TV.lit aI,W 0],I 1]))) (
 tv (plen (.slice 24) (cell x0 0)) fun v2 =>
 call 82 [v2,x1] fun v3 =>
 chk (ab au [v3] 0) (
 tv (pun .not v3) fun v4 =>
 Prg.ite (asBool v4) (
 chk true (
 ret (tup [agg [I 0,I 0,I 0,TV.lit aI,W 0],I 1]))) (
 tv (plen (.slice 42) x2) fun v5 =>
 tvs (pidx 3 (cell x0 0) x1) fun e6 =>
 chk (Nat.blt 0 (List.length e6)) (
 tv (pbin (.int .i64) .neq v5 (nth hole e6 0)) fun v7 =>
 Prg.ite (asBool v7) (
 chk true (
 ret (tup [agg [I 0,I 0,I 0,TV.lit aI,W 0],I 1]))) (
 tvs (pidx 3 (cell x0 0) x1) fun e8 =>
 chk (Nat.blt 1 (List.length e8)) (
 nat (ak (nth hole e8 1)) fun n9 =>
 nat (ak (nth hole e8 1)) fun n10 =>
 chk (Bool.and (Nat.ble n9 n10) (Nat.ble n10 4294967296)) (
 rws (pelems 1 x2) fun r11 =>
 tv (pcopy 1 (TV.sl true 1 (List.replicate n9 [W 0])) r11) fun v12 =>
 nat (slLen (TV.sl true 1 (List.replicate n9 [W 0]))) fun n13 =>
 chk (TV.eh x1) (
 chk (bn [agg [x1,I 0,I 0,v12,W 0],I 0]) (
 ret (tup [agg [x1,I 0,I 0,v12,W 0],I 0]))))))))))))
theorem f68_MR (x0 x1 x2:TV):aB prog 68 [x0,x1,x2]=f68_M x0 x1 x2:=by kernel_rfl
def f69_M (x0:TV):Prg TV :=
 tv (pbin (.slice 42) .eql x0 (TV.lit aI)) fun v0 =>
 Prg.ite (asBool v0) (
 chk true (
 ret (TV.lit aI))) (
 tv (plen (.slice 42) x0) fun v1 =>
 nat (ak v1) fun n2 =>
 nat (ak v1) fun n3 =>
 chk (Bool.and (Nat.ble n2 n3) (Nat.ble n3 4294967296)) (
 rws (pelems 1 x0) fun r4 =>
 tv (pcopy 1 (TV.sl true 1 (List.replicate n2 [W 0])) r4) fun v5 =>
 nat (slLen (TV.sl true 1 (List.replicate n2 [W 0]))) fun n6 =>
 chk (isOwn v5) (
 ret v5)))
theorem f69_MR (x0:TV):aB prog 69 [x0]=f69_M x0:=by kernel_rfl
def f71_M (x0 x1:TV):Prg TV :=
 chk (TV.isAgg x1 5) (
 chk (Nat.blt 21 (List.length (List.cons hole (List.cons hole (List.cons hole (List.cons hole (List.cons hole (List.cons hole (List.cons hole (List.cons hole (List.cons hole (List.cons hole (List.cons hole (List.cons hole (List.cons hole (List.cons hole (List.cons hole (List.cons hole (List.cons hole (List.cons hole (List.cons hole (List.cons hole (List.cons hole (List.cons x0 (List.replicate 0 hole))))))))))))))))))))))))) (
 tvs (pidx 3 (nth hole (List.cons hole (List.cons hole (List.cons hole (List.cons hole (List.cons hole (List.cons hole (List.cons hole (List.cons hole (List.cons hole (List.cons hole (List.cons hole (List.cons hole (List.cons hole (List.cons hole (List.cons hole (List.cons hole (List.cons hole (List.cons hole (List.cons hole (List.cons hole (List.cons hole (List.cons x0 (List.replicate 0 hole))))))))))))))))))))))) 21) (cell x1 0)) fun e0 =>
 chk (Nat.blt 2 (List.length e0)) (
 tvs (pidx 14 (nth hole e0 2) (cell x1 1)) fun e1 =>
 chk (Nat.ble 14 (List.length e1)) (
 ret (agg [nth hole e1 0,nth hole e1 1,nth hole e1 2,nth hole e1 3,nth hole e1 4,nth hole e1 5,nth hole e1 6,nth hole e1 7,nth hole e1 8,nth hole e1 9,nth hole e1 10,nth hole e1 11,nth hole e1 12,nth hole e1 13])))))
theorem f71_MR (x0 x1:TV):aB prog 71 [x0,x1]=f71_M x0 x1:=by kernel_rfl
def f81_0_S  (x0 x1 x2 y3:TV):ASt:=⟨[Jk,Pt 0] ++ Rj 22 ++ [AV.tv x0,AV.tv x1,AV.tv x2] ++ Rj 8,[Ct y3] ++ Rz 58,[]⟩
def f81_M (x0:TV):Prg TV :=
 chk (TV.isAgg x0 1) (
 tv (plen (.slice 24) (cell x0 0)) fun v0 =>
 tv (pbin (.int .i64) .lss v0 (I 1)) fun v1 =>
 Prg.ite (asBool v1) (
 ret (B false)) (
 tv (plen (.slice 24) (cell x0 0)) fun v2 =>
 tv (pbin (.int .i64) .gtr v2 (I 16)) fun v3 =>
 Prg.ite (asBool v3) (
 ret (B false)) (
 tvs (pidx 3 (cell x0 0) (I 0)) fun e4 =>
 chk (Nat.blt 0 (List.length e4)) (
 tv (pbin (.int .i64) .neq (nth hole e4 0) (I 0)) fun v5 =>
 Prg.ite (asBool v5) (
 ret (B false)) (
 tv (plen (.slice 24) (cell x0 0)) fun v6 =>
 jmp [0,0,1,0,1,1] (f81_0_S (cell x0 0) v6 (I 0) (cell x0 0)))))))
def f81_0  (x0 x1 x2 y3:TV):Prg TV :=
 tv (pbin (.int .i64) .lss x2 x1) fun v7 =>
 Prg.ite (asBool v7) (
 tvs (pidx 3 x0 x2) fun e8 =>
 chk (Nat.ble 3 (List.length e8)) (
 call 95 [agg [y3],agg [nth hole e8 0,nth hole e8 1,nth hole e8 2]] fun v9 =>
 chk (ab au [v9] 0) (
 tv (pun .not v9) fun v10 =>
 Prg.ite (asBool v10) (
 ret (B false)) (
 tv (pbin (.int .i64) .add x2 (I 1)) fun v11 =>
 jmp [0,0,1,0,1,1] (f81_0_S x0 x1 v11 y3))))) (
 ret (B true))
theorem f81_MR (x0:TV):aB prog 81 [x0]=f81_M x0:=by kernel_rfl
theorem f81_0_J  {x0 x1 x2 y3:TV} {r:TV} (h:aa prog 81 (f81_0 x0 x1 x2 y3) r):aa prog 81 (.jmp [0,0,1,0,1,1] (f81_0_S x0 x1 x2 y3)) r:=aa.jmp (by kernel_rfl) h
def f82_M (x0 x1:TV):Prg TV :=
 tv (pbin (.int .i64) .leq (I 0) x1) fun v0 =>
 Prg.ite (asBool v0) (
 tv (pbin (.int .i64) .lss x1 x0) fun v1 =>
 ret v1) (
 ret (B false))
theorem f82_MR (x0 x1:TV):aB prog 82 [x0,x1]=f82_M x0 x1:=by kernel_rfl
def f89_M (x0 x1:TV):Prg TV :=
 chk (TV.isAgg x0 5) (
 call 100 [agg [cell x0 0,cell x0 1,cell x0 2,cell x0 3,cell x0 4]] fun v0 =>
 chk (Bool.and (TV.isAgg v0 5) (ab z50 (cellsL true v0) 0)) (
 chk (TV.eh x1) (
 chk (isOwn (agg [cell v0 0,x1,I 0,cell v0 3,cell v0 4])) (
 ret (agg [cell v0 0,x1,I 0,cell v0 3,cell v0 4])))))
theorem f89_MR (x0 x1:TV):aB prog 89 [x0,x1]=f89_M x0 x1:=by kernel_rfl
def f95_0_S  (x0 x1 x2 y3 y4 y5 y6:TV):ASt:=⟨Rj 5 ++ [Pt 0] ++ Rj 44 ++ [AV.tv x0,AV.tv x1,AV.tv x2] ++ Rj 8,[some (BC.cells [CA.t y3,CA.t y4,CA.t y5,CA.t y6])] ++ Rz 84,[]⟩
def f95_M (x0 x1:TV):Prg TV :=
 chk (TV.isAgg x0 1) (
 chk (TV.isAgg x1 3) (
 tv (pbin (.int .i64) .lss (cell x1 0) (I 0)) fun v0 =>
 Prg.ite (asBool v0) (
 ret (B false)) (
 tv (pbin (.int .i64) .gtr (cell x1 0) (I 8)) fun v1 =>
 Prg.ite (asBool v1) (
 ret (B false)) (
 tv (pbin (.int .i64) .lss (cell x1 1) (cell x1 0)) fun v2 =>
 Prg.ite (asBool v2) (
 ret (B false)) (
 tv (pbin (.int .i64) .gtr (cell x1 1) (I 256)) fun v3 =>
 Prg.ite (asBool v3) (
 ret (B false)) (
 tv (plen (.slice 59) (cell x1 2)) fun v4 =>
 tv (pbin (.int .i64) .lss v4 (I 1)) fun v5 =>
 Prg.ite (asBool v5) (
 ret (B false)) (
 tv (plen (.slice 59) (cell x1 2)) fun v6 =>
 tv (pbin (.int .i64) .gtr v6 (I 64)) fun v7 =>
 Prg.ite (asBool v7) (
 ret (B false)) (
 tvs (pidx 14 (cell x1 2) (I 0)) fun e8 =>
 chk (Nat.blt 0 (List.length e8)) (
 Prg.ite (asBool (nth hole e8 0)) (
 ret (B false)) (
 tv (plen (.slice 59) (cell x1 2)) fun v9 =>
 jmp [0,0,1,0,1,1,1,1] (f95_0_S (cell x1 2) v9 (I 0) (cell x0 0) (cell x1 0) (cell x1 1) (cell x1 2))))))))))))
def f95_0  (x0 x1 x2 y3 y4 y5 y6:TV):Prg TV :=
 tv (pbin (.int .i64) .lss x2 x1) fun v10 =>
 Prg.ite (asBool v10) (
 tvs (pidx 14 x0 x2) fun e11 =>
 chk (Nat.ble 14 (List.length e11)) (
 call 106 [agg [y3,y4,y5,y6],agg [nth hole e11 0,nth hole e11 1,nth hole e11 2,nth hole e11 3,nth hole e11 4,nth hole e11 5,nth hole e11 6,nth hole e11 7,nth hole e11 8,nth hole e11 9,nth hole e11 10,nth hole e11 11,nth hole e11 12,nth hole e11 13]] fun v12 =>
 chk (ab au [v12] 0) (
 tv (pun .not v12) fun v13 =>
 Prg.ite (asBool v13) (
 ret (B false)) (
 tv (pbin (.int .i64) .add x2 (I 1)) fun v14 =>
 jmp [0,0,1,0,1,1,1,1] (f95_0_S x0 x1 v14 y3 y4 y5 y6))))) (
 ret (B true))
theorem f95_MR (x0 x1:TV):aB prog 95 [x0,x1]=f95_M x0 x1:=by kernel_rfl
theorem f95_0_J  {x0 x1 x2 y3 y4 y5 y6:TV} {r:TV} (h:aa prog 95 (f95_0 x0 x1 x2 y3 y4 y5 y6) r):aa prog 95 (.jmp [0,0,1,0,1,1,1,1] (f95_0_S x0 x1 x2 y3 y4 y5 y6)) r:=aa.jmp (by kernel_rfl) h
def f98_M (x0 x1:TV):Prg TV :=
 chk (TV.isAgg x0 5) (
 chk (TV.isAgg x1 7) (
 call 100 [agg [cell x0 0,cell x0 1,cell x0 2,cell x0 3,cell x0 4]] fun v0 =>
 chk (Bool.and (TV.isAgg v0 5) (ab z50 (cellsL true v0) 0)) (
 call 107 [frz (cell v0 3),agg [cell x1 0,cell x1 1,cell x1 2,cell x1 3,cell x1 4,cell x1 5,cell x1 6]] fun v1 =>
 chk (isTup v1 2) (
 chk (ab cZ [comp v1 0] 0) (
 chk (ab au [comp v1 1] 0) (
 tv (pun .not (comp v1 1)) fun v2 =>
 Prg.ite (asBool v2) (
 chk (bn [agg [cell v0 0,cell v0 1,cell v0 2,cell v0 3,cell v0 4],B false]) (
 ret (tup [agg [cell v0 0,cell v0 1,cell v0 2,cell v0 3,cell v0 4],B false]))) (
 tv (plen (.slice 42) (cell v0 3)) fun v3 =>
 call 82 [v3,cell x1 1] fun v4 =>
 chk (ab au [v4] 0) (
 tv (pun .not v4) fun v5 =>
 Prg.ite (asBool v5) (
 chk (bn [agg [cell v0 0,cell v0 1,cell v0 2,cell v0 3,cell v0 4],B false]) (
 ret (tup [agg [cell v0 0,cell v0 1,cell v0 2,cell v0 3,cell v0 4],B false]))) (
 nat (slLen (cell v0 3)) fun n6 =>
 nat (ak (cell x1 1)) fun n7 =>
 chk (Bool.and (slSize (cell v0 3) 1) (Nat.blt n7 n6)) (
 tvs (pel (cell v0 3) n7) fun e8 =>
 chk (ab cZ e8 0) (
 tv (cj [] (cell v0 3) n7 0 [comp v1 0]) fun v9 =>
 tv (pbin (.int .i64) .add (cell v0 2) (I 1)) fun v10 =>
 chk (bn [agg [cell v0 0,cell v0 1,v10,v9,cell v0 4],B true]) (
 ret (tup [agg [cell v0 0,cell v0 1,v10,v9,cell v0 4],B true])))))))))))))
theorem f98_MR (x0 x1:TV):aB prog 98 [x0,x1]=f98_M x0 x1:=by kernel_rfl
def f100_M (x0:TV):Prg TV :=
 chk (TV.isAgg x0 5) (
 call 69 [cell x0 3] fun v0 =>
 chk (ab zSl [v0] 0) (
 chk (isOwn (agg [cell x0 0,cell x0 1,cell x0 2,v0,cell x0 4])) (
 ret (agg [cell x0 0,cell x0 1,cell x0 2,v0,cell x0 4]))))
theorem f100_MR (x0:TV):aB prog 100 [x0]=f100_M x0:=by kernel_rfl
def f103_M (x0 x1:TV):Prg TV :=
 chk (TV.isAgg x0 4) (
 Prg.ite (asBool (cell x0 2)) (
 ret (B true)) (
 call 108 [cell x0 1,x1] fun v0 =>
 chk (ab au [v0] 0) (
 ret v0)))
theorem f103_MR (x0 x1:TV):aB prog 103 [x0,x1]=f103_M x0 x1:=by kernel_rfl
def f106_0_S  (x0 x1 x2 y3 y4 y5 y6 y7 y8 y9 y10 y11 y12 y13 y14 y15 y16 y17 y18 y19 y20:TV):ASt:=⟨[Jk,Jk,Pt 0,Pt 1] ++ Rj 17 ++ [AV.tv x0,AV.tv x1,AV.tv x2] ++ Rj 12,[some (BC.cells [CA.t y3,CA.t y4,CA.t y5,CA.t y6]),some (BC.cells [CA.t y7,CA.t y8,CA.t y9,CA.t y10,CA.t y11,CA.t y12,CA.t y13,CA.t y14,CA.t y15,CA.t y16,CA.t y17,CA.t y18,CA.t y19,CA.t y20])] ++ Rz 58,[]⟩
def f106_1_S  (y0 y1 y2 y3 y4 y5 y6 y7 y8 y9 y10 y11 y12 y13 y14 y15 y16 y17:TV):ASt:=⟨[Jk,Jk,Pt 0,Pt 1] ++ Rj 32,[some (BC.cells [CA.t y0,CA.t y1,CA.t y2,CA.t y3]),some (BC.cells [CA.t y4,CA.t y5,CA.t y6,CA.t y7,CA.t y8,CA.t y9,CA.t y10,CA.t y11,CA.t y12,CA.t y13,CA.t y14,CA.t y15,CA.t y16,CA.t y17])] ++ Rz 58,[]⟩
def f106_M (x0 x1:TV):Prg TV :=
 chk (TV.isAgg x0 4) (
 chk (TV.isAgg x1 14) (
 tv (plen (.slice 108) (cell x1 5)) fun v0 =>
 tv (pbin (.int .i64) .gtr v0 (I 64)) fun v1 =>
 Prg.ite (asBool v1) (
 ret (B false)) (
 call 109 [agg [cell x0 0,cell x0 1,cell x0 2,cell x0 3],cell x1 0,agg [cell x1 1,cell x1 2,cell x1 3,cell x1 4]] fun v2 =>
 chk (ab au [v2] 0) (
 tv (pun .not v2) fun v3 =>
 Prg.ite (asBool v3) (
 ret (B false)) (
 tv (plen (.slice 108) (cell x1 5)) fun v4 =>
 jmp [0,0,1,0,1,1] (f106_0_S (cell x1 5) v4 (I 0) (cell x0 0) (cell x0 1) (cell x0 2) (cell x0 3) (cell x1 0) (cell x1 1) (cell x1 2) (cell x1 3) (cell x1 4) (cell x1 5) (cell x1 6) (cell x1 7) (cell x1 8) (cell x1 9) (cell x1 10) (cell x1 11) (cell x1 12) (cell x1 13)))))))
def f106_0  (x0 x1 x2 y3 y4 y5 y6 y7 y8 y9 y10 y11 y12 y13 y14 y15 y16 y17 y18 y19 y20:TV):Prg TV :=
 tv (pbin (.int .i64) .lss x2 x1) fun v5 =>
 Prg.ite (asBool v5) (
 tvs (pidx 7 x0 x2) fun e6 =>
 chk (Nat.ble 7 (List.length e6)) (
 call 110 [agg [y3,y4,y5,y6],agg [nth hole e6 0,nth hole e6 1,nth hole e6 2,nth hole e6 3,nth hole e6 4,nth hole e6 5,nth hole e6 6]] fun v7 =>
 chk (ab au [v7] 0) (
 tv (pun .not v7) fun v8 =>
 Prg.ite (asBool v8) (
 ret (B false)) (
 tv (pbin (.int .i64) .add x2 (I 1)) fun v9 =>
 jmp [0,0,1,0,1,1] (f106_0_S x0 x1 v9 y3 y4 y5 y6 y7 y8 y9 y10 y11 y12 y13 y14 y15 y16 y17 y18 y19 y20))))) (
 jmp [1,1,1] (f106_1_S y3 y4 y5 y6 y7 y8 y9 y10 y11 y12 y13 y14 y15 y16 y17 y18 y19 y20))
def f106_1  (y0 y1 y2 y3 y4 y5 y6 y7 y8 y9 y10 y11 y12 y13 y14 y15 y16 y17:TV):Prg TV :=
 call 111 [agg [y0,y1,y2,y3],agg [y10,y11,y12,y13,y14,y15,y16,y17]] fun v10 =>
 chk (ab au [v10] 0) (
 ret v10)
theorem f106_MR (x0 x1:TV):aB prog 106 [x0,x1]=f106_M x0 x1:=by kernel_rfl
theorem f106_0_J  {x0 x1 x2 y3 y4 y5 y6 y7 y8 y9 y10 y11 y12 y13 y14 y15 y16 y17 y18 y19 y20:TV} {r:TV} (h:aa prog 106 (f106_0 x0 x1 x2 y3 y4 y5 y6 y7 y8 y9 y10 y11 y12 y13 y14 y15 y16 y17 y18 y19 y20) r):aa prog 106 (.jmp [0,0,1,0,1,1] (f106_0_S x0 x1 x2 y3 y4 y5 y6 y7 y8 y9 y10 y11 y12 y13 y14 y15 y16 y17 y18 y19 y20)) r:=aa.jmp (by kernel_rfl) h
theorem f106_1_J  {y0 y1 y2 y3 y4 y5 y6 y7 y8 y9 y10 y11 y12 y13 y14 y15 y16 y17:TV} {r:TV} (h:aa prog 106 (f106_1 y0 y1 y2 y3 y4 y5 y6 y7 y8 y9 y10 y11 y12 y13 y14 y15 y16 y17) r):aa prog 106 (.jmp [1,1,1] (f106_1_S y0 y1 y2 y3 y4 y5 y6 y7 y8 y9 y10 y11 y12 y13 y14 y15 y16 y17)) r:=aa.jmp (by kernel_rfl) h
def f107_M (x0 x1:TV):Prg TV :=
 chk (TV.isAgg x1 7) (
 tv (pbin (.int .i64) .eql (cell x1 0) (I 1)) fun v0 =>
 Prg.ite (asBool v0) (
 ret (tup [cell x1 4,B true])) (
 tv (plen (.slice 42) x0) fun v1 =>
 call 82 [v1,cell x1 2] fun v2 =>
 chk (ab au [v2] 0) (
 tv (pun .not v2) fun v3 =>
 Prg.ite (asBool v3) (
 ret (tup [W 0,B false])) (
 tvs (pidx 1 x0 (cell x1 2)) fun e4 =>
 chk (Nat.blt 0 (List.length e4)) (
 call 112 [cell x1 0] fun v5 =>
 chk (ab au [v5] 0) (
 tv (pun .not v5) fun v6 =>
 Prg.ite (asBool v6) (
 call 113 [cell x1 0,nth hole e4 0,W 0] fun v7 =>
 chk (isTup v7 2) (
 chk (ab cZ [comp v7 0] 0) (
 chk (ab au [comp v7 1] 0) (
 ret (tup [comp v7 0,comp v7 1]))))) (
 tv (plen (.slice 42) x0) fun v8 =>
 call 82 [v8,cell x1 3] fun v9 =>
 chk (ab au [v9] 0) (
 tv (pun .not v9) fun v10 =>
 Prg.ite (asBool v10) (
 ret (tup [W 0,B false])) (
 tvs (pidx 1 x0 (cell x1 3)) fun e11 =>
 chk (Nat.blt 0 (List.length e11)) (
 call 113 [cell x1 0,nth hole e4 0,nth hole e11 0] fun v12 =>
 chk (isTup v12 2) (
 chk (ab cZ [comp v12 0] 0) (
 chk (ab au [comp v12 1] 0) (
 ret (tup [comp v12 0,comp v12 1]))))))))))))))
theorem f107_MR (x0 x1:TV):aB prog 107 [x0,x1]=f107_M x0 x1:=by kernel_rfl
def f108_M (x0 x1:TV):Prg TV :=
 call 114 [x0,x1] fun v0 =>
 chk (ab ei [v0] 0) (
 tv (pbin (.int .i64) .geq v0 (I 0)) fun v1 =>
 ret v1)
theorem f108_MR (x0 x1:TV):aB prog 108 [x0,x1]=f108_M x0 x1:=by kernel_rfl
def f109_M (x0 x1 x2:TV):Prg TV :=
 chk (TV.isAgg x0 4) (
 chk (TV.isAgg x2 4) (
 tv (pun .not x1) fun v0 =>
 Prg.ite (asBool v0) (
 tv (pbin (.int .i64) .eql (cell x2 0) (I 0)) fun v1 =>
 Prg.ite (asBool v1) (
 tv (plen (.slice 42) (cell x2 1)) fun v2 =>
 tv (pbin (.int .i64) .eql v2 (I 0)) fun v3 =>
 Prg.ite (asBool v3) (
 tv (pun .not (cell x2 2)) fun v4 =>
 Prg.ite (asBool v4) (
 tv (pun .not (cell x2 3)) fun v5 =>
 ret v5) (
 ret (B false))) (
 ret (B false))) (
 ret (B false))) (
 call 115 [agg [cell x0 0,cell x0 1,cell x0 2,cell x0 3],B true,cell x2 0] fun v6 =>
 chk (ab au [v6] 0) (
 Prg.ite (asBool v6) (
 tv (plen (.slice 42) (cell x2 1)) fun v7 =>
 tv (pbin (.int .i64) .leq v7 (I 8)) fun v8 =>
 Prg.ite (asBool v8) (
 call 116 [cell x2 1] fun v9 =>
 chk (ab au [v9] 0) (
 Prg.ite (asBool v9) (
 tv (plen (.slice 42) (cell x2 1)) fun v10 =>
 tv (pbin (.int .i64) .gtr v10 (I 0)) fun v11 =>
 Prg.ite (asBool v11) (
 ret (B true)) (
 Prg.ite (asBool (cell x2 2)) (
 ret (B true)) (
 ret (cell x2 3)))) (
 ret (B false)))) (
 ret (B false))) (
 ret (B false))))))
theorem f109_MR (x0 x1 x2:TV):aB prog 109 [x0,x1,x2]=f109_M x0 x1 x2:=by kernel_rfl
def f110_M (x0 x1:TV):Prg TV :=
 chk (TV.isAgg x0 4) (
 chk (TV.isAgg x1 7) (
 call 117 [cell x1 0] fun v0 =>
 chk (ab ei [v0] 0) (
 call 63 [v0,I 1] fun v1 =>
 chk (ab au [v1] 0) (
 Prg.ite (asBool v1) (
 call 63 [v0,I 2] fun v2 =>
 chk (ab au [v2] 0) (
 call 115 [agg [cell x0 0,cell x0 1,cell x0 2,cell x0 3],v2,cell x1 1] fun v3 =>
 chk (ab au [v3] 0) (
 Prg.ite (asBool v3) (
 call 63 [v0,I 4] fun v4 =>
 chk (ab au [v4] 0) (
 call 115 [agg [cell x0 0,cell x0 1,cell x0 2,cell x0 3],v4,cell x1 2] fun v5 =>
 chk (ab au [v5] 0) (
 Prg.ite (asBool v5) (
 call 63 [v0,I 8] fun v6 =>
 chk (ab au [v6] 0) (
 call 115 [agg [cell x0 0,cell x0 1,cell x0 2,cell x0 3],v6,cell x1 3] fun v7 =>
 chk (ab au [v7] 0) (
 Prg.ite (asBool v7) (
 call 63 [v0,I 16] fun v8 =>
 chk (ab au [v8] 0) (
 Prg.ite (asBool v8) (
 call 63 [v0,I 32] fun v9 =>
 chk (ab au [v9] 0) (
 call 118 [agg [cell x0 0,cell x0 1,cell x0 2,cell x0 3],v9,cell x1 5,cell x1 6] fun v10 =>
 chk (ab au [v10] 0) (
 ret v10))) (
 tv (pbin (.int .u16) .eql (cell x1 4) (W 0)) fun v11 =>
 Prg.ite (asBool v11) (
 call 63 [v0,I 32] fun v12 =>
 chk (ab au [v12] 0) (
 call 118 [agg [cell x0 0,cell x0 1,cell x0 2,cell x0 3],v12,cell x1 5,cell x1 6] fun v13 =>
 chk (ab au [v13] 0) (
 ret v13))) (
 ret (B false))))) (
 ret (B false))))) (
 ret (B false))))) (
 ret (B false))))) (
 ret (B false))))))
theorem f110_MR (x0 x1:TV):aB prog 110 [x0,x1]=f110_M x0 x1:=by kernel_rfl
def f111_M (x0 x1:TV):Prg TV :=
 chk (TV.isAgg x0 4) (
 chk (TV.isAgg x1 8) (
 call 62 [cell x1 0] fun v0 =>
 chk (ab ei [v0] 0) (
 call 63 [v0,I 1] fun v1 =>
 chk (ab au [v1] 0) (
 Prg.ite (asBool v1) (
 call 63 [v0,I 4] fun v2 =>
 chk (ab au [v2] 0) (
 call 115 [agg [cell x0 0,cell x0 1,cell x0 2,cell x0 3],v2,cell x1 1] fun v3 =>
 chk (ab au [v3] 0) (
 Prg.ite (asBool v3) (
 call 63 [v0,I 2] fun v4 =>
 chk (ab au [v4] 0) (
 call 115 [agg [cell x0 0,cell x0 1,cell x0 2,cell x0 3],v4,cell x1 2] fun v5 =>
 chk (ab au [v5] 0) (
 Prg.ite (asBool v5) (
 call 63 [v0,I 32] fun v6 =>
 chk (ab au [v6] 0) (
 call 118 [agg [cell x0 0,cell x0 1,cell x0 2,cell x0 3],v6,cell x1 3,cell x1 4] fun v7 =>
 chk (ab au [v7] 0) (
 Prg.ite (asBool v7) (
 call 63 [v0,I 64] fun v8 =>
 chk (ab au [v8] 0) (
 call 119 [agg [cell x0 0,cell x0 1,cell x0 2,cell x0 3],v8,cell x1 5,B false] fun v9 =>
 chk (ab au [v9] 0) (
 Prg.ite (asBool v9) (
 call 63 [v0,I 128] fun v10 =>
 chk (ab au [v10] 0) (
 call 119 [agg [cell x0 0,cell x0 1,cell x0 2,cell x0 3],v10,cell x1 6,B false] fun v11 =>
 chk (ab au [v11] 0) (
 Prg.ite (asBool v11) (
 call 63 [v0,I 256] fun v12 =>
 chk (ab au [v12] 0) (
 call 119 [agg [cell x0 0,cell x0 1,cell x0 2,cell x0 3],v12,cell x1 7,B true] fun v13 =>
 chk (ab au [v13] 0) (
 ret v13))) (
 ret (B false))))) (
 ret (B false))))) (
 ret (B false))))) (
 ret (B false))))) (
 ret (B false))))) (
 ret (B false))))))
theorem f111_MR (x0 x1:TV):aB prog 111 [x0,x1]=f111_M x0 x1:=by kernel_rfl
def f112_M (x0:TV):Prg TV :=
 call 120 [x0] fun v0 =>
 chk (ab au [v0] 0) (
 Prg.ite (asBool v0) (
 tv (pbin (.int .i64) .neq x0 (I 2)) fun v1 =>
 ret v1) (
 ret (B false)))
theorem f112_MR (x0:TV):aB prog 112 [x0]=f112_M x0:=by kernel_rfl
def f113_M (x0 x1 x2:TV):Prg TV :=
 tv (pbin (.int .i64) .eql x0 (I 2)) fun v0 =>
 Prg.ite (asBool v0) (
 ret (tup [x1,B true])) (
 tv (pbin (.int .i64) .eql x0 (I 3)) fun v1 =>
 Prg.ite (asBool v1) (
 tv (pbin (.int .u16) .add x1 x2) fun v2 =>
 ret (tup [v2,B true])) (
 tv (pbin (.int .i64) .eql x0 (I 4)) fun v3 =>
 Prg.ite (asBool v3) (
 tv (pbin (.int .u16) .sub x1 x2) fun v4 =>
 ret (tup [v4,B true])) (
 tv (pbin (.int .i64) .eql x0 (I 5)) fun v5 =>
 Prg.ite (asBool v5) (
 tv (pbin (.int .u16) .mul x1 x2) fun v6 =>
 ret (tup [v6,B true])) (
 tv (pbin (.int .i64) .eql x0 (I 6)) fun v7 =>
 Prg.ite (asBool v7) (
 call 121 [x1,x2] fun v8 =>
 chk (isTup v8 2) (
 chk (ab cZ [comp v8 0] 0) (
 chk (ab au [comp v8 1] 0) (
 ret (tup [comp v8 0,comp v8 1]))))) (
 tv (pbin (.int .i64) .eql x0 (I 7)) fun v9 =>
 Prg.ite (asBool v9) (
 tv (pbin (.int .u16) .eql x1 x2) fun v10 =>
 call 122 [v10] fun v11 =>
 chk (ab cZ [v11] 0) (
 ret (tup [v11,B true]))) (
 tv (pbin (.int .i64) .eql x0 (I 8)) fun v12 =>
 Prg.ite (asBool v12) (
 tv (pbin (.int .u16) .lss x1 x2) fun v13 =>
 call 122 [v13] fun v14 =>
 chk (ab cZ [v14] 0) (
 ret (tup [v14,B true]))) (
 ret (tup [W 0,B false]))))))))
theorem f113_MR (x0 x1 x2:TV):aB prog 113 [x0,x1,x2]=f113_M x0 x1 x2:=by kernel_rfl
def f114_0_S  (x0 x1 x2 x3:TV):ASt:=⟨[AV.tv x0,AV.tv x1] ++ Rj 5 ++ [AV.tv x2,AV.tv x3] ++ Rj 10,Rz 43,[]⟩
def f114_M (x0 x1:TV):Prg TV :=
 tv (plen (.slice 42) x0) fun v0 =>
 jmp [0,0,1,0,1] (f114_0_S x0 x1 v0 (I 0))
def f114_0  (x0 x1 x2 x3:TV):Prg TV :=
 tv (pbin (.int .i64) .lss x3 x2) fun v1 =>
 Prg.ite (asBool v1) (
 tvs (pidx 1 x0 x3) fun e2 =>
 chk (Nat.blt 0 (List.length e2)) (
 tv (pbin (.int .u16) .eql x1 (nth hole e2 0)) fun v3 =>
 Prg.ite (asBool v3) (
 ret x3) (
 tv (pbin (.int .i64) .add x3 (I 1)) fun v4 =>
 jmp [0,0,1,0,1] (f114_0_S x0 x1 x2 v4)))) (
 ret (TV.lit (Value.int IntKind.i64 (-1))))
theorem f114_MR (x0 x1:TV):aB prog 114 [x0,x1]=f114_M x0 x1:=by kernel_rfl
theorem f114_0_J  {x0 x1 x2 x3:TV} {r:TV} (h:aa prog 114 (f114_0 x0 x1 x2 x3) r):aa prog 114 (.jmp [0,0,1,0,1] (f114_0_S x0 x1 x2 x3)) r:=aa.jmp (by kernel_rfl) h
def f115_M (x0 x1 x2:TV):Prg TV :=
 chk (TV.isAgg x0 4) (
 tv (pun .not x1) fun v0 =>
 Prg.ite (asBool v0) (
 tv (pbin (.int .i64) .eql x2 (I 0)) fun v1 =>
 ret v1) (
 tv (pbin (.int .i64) .leq (I 0) x2) fun v2 =>
 Prg.ite (asBool v2) (
 tv (pbin (.int .i64) .lss x2 (cell x0 2)) fun v3 =>
 ret v3) (
 ret (B false))))
theorem f115_MR (x0 x1 x2:TV):aB prog 115 [x0,x1,x2]=f115_M x0 x1 x2:=by kernel_rfl
def f116_0_S  (x0 x1 x2 x3:TV):ASt:=⟨[AV.tv x0] ++ Rj 4 ++ [AV.tv x1,AV.tv x2,AV.tv x3] ++ Rj 10,Rz 42,[]⟩
def f116_M (x0:TV):Prg TV :=
 tv (plen (.slice 42) x0) fun v0 =>
 jmp [0,0,1,0,1] (f116_0_S x0 x0 v0 (I 0))
def f116_0  (x0 x1 x2 x3:TV):Prg TV :=
 tv (pbin (.int .i64) .lss x3 x2) fun v1 =>
 Prg.ite (asBool v1) (
 tvs (pidx 1 x1 x3) fun e2 =>
 chk (Nat.blt 0 (List.length e2)) (
 nat (ak x3) fun n3 =>
 tv (pslice (.slice 42) 1 x0 none (some n3)) fun v4 =>
 call 108 [v4,nth hole e2 0] fun v5 =>
 chk (ab au [v5] 0) (
 Prg.ite (asBool v5) (
 ret (B false)) (
 tv (pbin (.int .i64) .add x3 (I 1)) fun v6 =>
 jmp [0,0,1,0,1] (f116_0_S x0 x1 x2 v6))))) (
 ret (B true))
theorem f116_MR (x0:TV):aB prog 116 [x0]=f116_M x0:=by kernel_rfl
theorem f116_0_J  {x0 x1 x2 x3:TV} {r:TV} (h:aa prog 116 (f116_0 x0 x1 x2 x3) r):aa prog 116 (.jmp [0,0,1,0,1] (f116_0_S x0 x1 x2 x3)) r:=aa.jmp (by kernel_rfl) h
def f117_M (x0:TV):Prg TV :=
 tv (pbin (.int .i64) .eql x0 (I 1)) fun v0 =>
 Prg.ite (asBool v0) (
 ret (I 19)) (
 tv (pbin (.int .i64) .eql x0 (I 2)) fun v1 =>
 Prg.ite (asBool v1) (
 Prg.ite (asBool v1) (
 ret (I 7)) (
 tv (pbin (.int .i64) .eql x0 (I 3)) fun v2 =>
 Prg.ite (asBool v2) (
 Prg.ite (asBool v2) (
 ret (I 15)) (
 tv (pbin (.int .i64) .eql x0 (I 10)) fun v3 =>
 Prg.ite (asBool v3) (
 ret (I 13)) (
 tv (pbin (.int .i64) .eql x0 (I 11)) fun v4 =>
 Prg.ite (asBool v4) (
 ret (I 35)) (
 tv (pbin (.int .i64) .eql x0 (I 12)) fun v5 =>
 Prg.ite (asBool v5) (
 ret (I 5)) (
 tv (pbin (.int .i64) .eql x0 (I 13)) fun v6 =>
 Prg.ite (asBool v6) (
 ret (I 3)) (
 ret (I 0))))))) (
 tv (pbin (.int .i64) .eql x0 (I 4)) fun v7 =>
 Prg.ite (asBool v7) (
 Prg.ite (asBool v7) (
 ret (I 15)) (
 tv (pbin (.int .i64) .eql x0 (I 10)) fun v8 =>
 Prg.ite (asBool v8) (
 ret (I 13)) (
 tv (pbin (.int .i64) .eql x0 (I 11)) fun v9 =>
 Prg.ite (asBool v9) (
 ret (I 35)) (
 tv (pbin (.int .i64) .eql x0 (I 12)) fun v10 =>
 Prg.ite (asBool v10) (
 ret (I 5)) (
 tv (pbin (.int .i64) .eql x0 (I 13)) fun v11 =>
 Prg.ite (asBool v11) (
 ret (I 3)) (
 ret (I 0))))))) (
 tv (pbin (.int .i64) .eql x0 (I 5)) fun v12 =>
 Prg.ite (asBool v12) (
 Prg.ite (asBool v12) (
 ret (I 15)) (
 tv (pbin (.int .i64) .eql x0 (I 10)) fun v13 =>
 Prg.ite (asBool v13) (
 ret (I 13)) (
 tv (pbin (.int .i64) .eql x0 (I 11)) fun v14 =>
 Prg.ite (asBool v14) (
 ret (I 35)) (
 tv (pbin (.int .i64) .eql x0 (I 12)) fun v15 =>
 Prg.ite (asBool v15) (
 ret (I 5)) (
 tv (pbin (.int .i64) .eql x0 (I 13)) fun v16 =>
 Prg.ite (asBool v16) (
 ret (I 3)) (
 ret (I 0))))))) (
 tv (pbin (.int .i64) .eql x0 (I 6)) fun v17 =>
 Prg.ite (asBool v17) (
 Prg.ite (asBool v17) (
 ret (I 15)) (
 tv (pbin (.int .i64) .eql x0 (I 10)) fun v18 =>
 Prg.ite (asBool v18) (
 ret (I 13)) (
 tv (pbin (.int .i64) .eql x0 (I 11)) fun v19 =>
 Prg.ite (asBool v19) (
 ret (I 35)) (
 tv (pbin (.int .i64) .eql x0 (I 12)) fun v20 =>
 Prg.ite (asBool v20) (
 ret (I 5)) (
 tv (pbin (.int .i64) .eql x0 (I 13)) fun v21 =>
 Prg.ite (asBool v21) (
 ret (I 3)) (
 ret (I 0))))))) (
 tv (pbin (.int .i64) .eql x0 (I 7)) fun v22 =>
 Prg.ite (asBool v22) (
 Prg.ite (asBool v22) (
 ret (I 15)) (
 tv (pbin (.int .i64) .eql x0 (I 10)) fun v23 =>
 Prg.ite (asBool v23) (
 ret (I 13)) (
 tv (pbin (.int .i64) .eql x0 (I 11)) fun v24 =>
 Prg.ite (asBool v24) (
 ret (I 35)) (
 tv (pbin (.int .i64) .eql x0 (I 12)) fun v25 =>
 Prg.ite (asBool v25) (
 ret (I 5)) (
 tv (pbin (.int .i64) .eql x0 (I 13)) fun v26 =>
 Prg.ite (asBool v26) (
 ret (I 3)) (
 ret (I 0))))))) (
 tv (pbin (.int .i64) .eql x0 (I 8)) fun v27 =>
 Prg.ite (asBool v27) (
 ret (I 15)) (
 tv (pbin (.int .i64) .eql x0 (I 10)) fun v28 =>
 Prg.ite (asBool v28) (
 ret (I 13)) (
 tv (pbin (.int .i64) .eql x0 (I 11)) fun v29 =>
 Prg.ite (asBool v29) (
 ret (I 35)) (
 tv (pbin (.int .i64) .eql x0 (I 12)) fun v30 =>
 Prg.ite (asBool v30) (
 ret (I 5)) (
 tv (pbin (.int .i64) .eql x0 (I 13)) fun v31 =>
 Prg.ite (asBool v31) (
 ret (I 3)) (
 ret (I 0))))))))))))) (
 tv (pbin (.int .i64) .eql x0 (I 9)) fun v32 =>
 Prg.ite (asBool v32) (
 ret (I 7)) (
 tv (pbin (.int .i64) .eql x0 (I 3)) fun v33 =>
 Prg.ite (asBool v33) (
 Prg.ite (asBool v33) (
 ret (I 15)) (
 tv (pbin (.int .i64) .eql x0 (I 10)) fun v34 =>
 Prg.ite (asBool v34) (
 ret (I 13)) (
 tv (pbin (.int .i64) .eql x0 (I 11)) fun v35 =>
 Prg.ite (asBool v35) (
 ret (I 35)) (
 tv (pbin (.int .i64) .eql x0 (I 12)) fun v36 =>
 Prg.ite (asBool v36) (
 ret (I 5)) (
 tv (pbin (.int .i64) .eql x0 (I 13)) fun v37 =>
 Prg.ite (asBool v37) (
 ret (I 3)) (
 ret (I 0))))))) (
 tv (pbin (.int .i64) .eql x0 (I 4)) fun v38 =>
 Prg.ite (asBool v38) (
 Prg.ite (asBool v38) (
 ret (I 15)) (
 tv (pbin (.int .i64) .eql x0 (I 10)) fun v39 =>
 Prg.ite (asBool v39) (
 ret (I 13)) (
 tv (pbin (.int .i64) .eql x0 (I 11)) fun v40 =>
 Prg.ite (asBool v40) (
 ret (I 35)) (
 tv (pbin (.int .i64) .eql x0 (I 12)) fun v41 =>
 Prg.ite (asBool v41) (
 ret (I 5)) (
 tv (pbin (.int .i64) .eql x0 (I 13)) fun v42 =>
 Prg.ite (asBool v42) (
 ret (I 3)) (
 ret (I 0))))))) (
 tv (pbin (.int .i64) .eql x0 (I 5)) fun v43 =>
 Prg.ite (asBool v43) (
 Prg.ite (asBool v43) (
 ret (I 15)) (
 tv (pbin (.int .i64) .eql x0 (I 10)) fun v44 =>
 Prg.ite (asBool v44) (
 ret (I 13)) (
 tv (pbin (.int .i64) .eql x0 (I 11)) fun v45 =>
 Prg.ite (asBool v45) (
 ret (I 35)) (
 tv (pbin (.int .i64) .eql x0 (I 12)) fun v46 =>
 Prg.ite (asBool v46) (
 ret (I 5)) (
 tv (pbin (.int .i64) .eql x0 (I 13)) fun v47 =>
 Prg.ite (asBool v47) (
 ret (I 3)) (
 ret (I 0))))))) (
 tv (pbin (.int .i64) .eql x0 (I 6)) fun v48 =>
 Prg.ite (asBool v48) (
 Prg.ite (asBool v48) (
 ret (I 15)) (
 tv (pbin (.int .i64) .eql x0 (I 10)) fun v49 =>
 Prg.ite (asBool v49) (
 ret (I 13)) (
 tv (pbin (.int .i64) .eql x0 (I 11)) fun v50 =>
 Prg.ite (asBool v50) (
 ret (I 35)) (
 tv (pbin (.int .i64) .eql x0 (I 12)) fun v51 =>
 Prg.ite (asBool v51) (
 ret (I 5)) (
 tv (pbin (.int .i64) .eql x0 (I 13)) fun v52 =>
 Prg.ite (asBool v52) (
 ret (I 3)) (
 ret (I 0))))))) (
 tv (pbin (.int .i64) .eql x0 (I 7)) fun v53 =>
 Prg.ite (asBool v53) (
 Prg.ite (asBool v53) (
 ret (I 15)) (
 tv (pbin (.int .i64) .eql x0 (I 10)) fun v54 =>
 Prg.ite (asBool v54) (
 ret (I 13)) (
 tv (pbin (.int .i64) .eql x0 (I 11)) fun v55 =>
 Prg.ite (asBool v55) (
 ret (I 35)) (
 tv (pbin (.int .i64) .eql x0 (I 12)) fun v56 =>
 Prg.ite (asBool v56) (
 ret (I 5)) (
 tv (pbin (.int .i64) .eql x0 (I 13)) fun v57 =>
 Prg.ite (asBool v57) (
 ret (I 3)) (
 ret (I 0))))))) (
 tv (pbin (.int .i64) .eql x0 (I 8)) fun v58 =>
 Prg.ite (asBool v58) (
 ret (I 15)) (
 tv (pbin (.int .i64) .eql x0 (I 10)) fun v59 =>
 Prg.ite (asBool v59) (
 ret (I 13)) (
 tv (pbin (.int .i64) .eql x0 (I 11)) fun v60 =>
 Prg.ite (asBool v60) (
 ret (I 35)) (
 tv (pbin (.int .i64) .eql x0 (I 12)) fun v61 =>
 Prg.ite (asBool v61) (
 ret (I 5)) (
 tv (pbin (.int .i64) .eql x0 (I 13)) fun v62 =>
 Prg.ite (asBool v62) (
 ret (I 3)) (
 ret (I 0))))))))))))))
theorem f117_MR (x0:TV):aB prog 117 [x0]=f117_M x0:=by kernel_rfl
def f118_0_S  (x0 x1 x2 y3 y4 y5 y6:TV):ASt:=⟨Rj 4 ++ [Pt 0] ++ Rj 35 ++ [AV.tv x0,AV.tv x1,AV.tv x2] ++ Rj 8,[some (BC.cells [CA.t y3,CA.t y4,CA.t y5,CA.t y6])] ++ Rz 74,[]⟩
def f118_M (x0 x1 x2 x3:TV):Prg TV :=
 chk (TV.isAgg x0 4) (
 tv (pun .not x1) fun v0 =>
 Prg.ite (asBool v0) (
 tv (pbin (.int .i64) .eql x2 (I 0)) fun v1 =>
 Prg.ite (asBool v1) (
 tv (plen (.slice 3) x3) fun v2 =>
 tv (pbin (.int .i64) .eql v2 (I 0)) fun v3 =>
 ret v3) (
 ret (B false))) (
 tv (pbin (.int .i64) .lss x2 (I 0)) fun v4 =>
 Prg.ite (asBool v4) (
 ret (B false)) (
 tv (plen (.slice 24) (cell x0 0)) fun v5 =>
 tv (pbin (.int .i64) .geq x2 v5) fun v6 =>
 Prg.ite (asBool v6) (
 ret (B false)) (
 tv (plen (.slice 3) x3) fun v7 =>
 tvs (pidx 3 (cell x0 0) x2) fun e8 =>
 chk (Nat.blt 0 (List.length e8)) (
 tv (pbin (.int .i64) .neq v7 (nth hole e8 0)) fun v9 =>
 Prg.ite (asBool v9) (
 ret (B false)) (
 tv (plen (.slice 3) x3) fun v10 =>
 jmp [0,0,1,0,1,1,1] (f118_0_S x3 v10 (I 0) (cell x0 0) (cell x0 1) (cell x0 2) (cell x0 3))))))))
def f118_0  (x0 x1 x2 y3 y4 y5 y6:TV):Prg TV :=
 tv (pbin (.int .i64) .lss x2 x1) fun v11 =>
 Prg.ite (asBool v11) (
 tvs (pidx 1 x0 x2) fun e12 =>
 chk (Nat.blt 0 (List.length e12)) (
 call 115 [agg [y3,y4,y5,y6],B true,nth hole e12 0] fun v13 =>
 chk (ab au [v13] 0) (
 tv (pun .not v13) fun v14 =>
 Prg.ite (asBool v14) (
 ret (B false)) (
 tv (pbin (.int .i64) .add x2 (I 1)) fun v15 =>
 jmp [0,0,1,0,1,1,1] (f118_0_S x0 x1 v15 y3 y4 y5 y6))))) (
 ret (B true))
theorem f118_MR (x0 x1 x2 x3:TV):aB prog 118 [x0,x1,x2,x3]=f118_M x0 x1 x2 x3:=by kernel_rfl
theorem f118_0_J  {x0 x1 x2 y3 y4 y5 y6:TV} {r:TV} (h:aa prog 118 (f118_0 x0 x1 x2 y3 y4 y5 y6) r):aa prog 118 (.jmp [0,0,1,0,1,1,1] (f118_0_S x0 x1 x2 y3 y4 y5 y6)) r:=aa.jmp (by kernel_rfl) h
def f119_M (x0 x1 x2 x3:TV):Prg TV :=
 chk (TV.isAgg x0 4) (
 tv (pun .not x1) fun v0 =>
 Prg.ite (asBool v0) (
 tv (pbin (.int .i64) .eql x2 (I 0)) fun v1 =>
 ret v1) (
 tv (pbin (.int .i64) .leq (I 0) x2) fun v2 =>
 Prg.ite (asBool v2) (
 tv (plen (.slice 59) (cell x0 3)) fun v3 =>
 tv (pbin (.int .i64) .lss x2 v3) fun v4 =>
 Prg.ite (asBool v4) (
 tvs (pidx 14 (cell x0 3) x2) fun e5 =>
 chk (Nat.blt 0 (List.length e5)) (
 tv (pbin Kd.bool .eql (nth hole e5 0) x3) fun v6 =>
 ret v6)) (
 ret (B false))) (
 ret (B false))))
theorem f119_MR (x0 x1 x2 x3:TV):aB prog 119 [x0,x1,x2,x3]=f119_M x0 x1 x2 x3:=by kernel_rfl
def f120_M (x0:TV):Prg TV :=
 tv (pbin (.int .i64) .eql x0 (I 2)) fun v0 =>
 Prg.ite (asBool v0) (
 Prg.ite (asBool v0) (
 ret (B true)) (
 ret (B false))) (
 tv (pbin (.int .i64) .eql x0 (I 3)) fun v1 =>
 Prg.ite (asBool v1) (
 Prg.ite (asBool v1) (
 ret (B true)) (
 ret (B false))) (
 tv (pbin (.int .i64) .eql x0 (I 4)) fun v2 =>
 Prg.ite (asBool v2) (
 Prg.ite (asBool v2) (
 ret (B true)) (
 ret (B false))) (
 tv (pbin (.int .i64) .eql x0 (I 5)) fun v3 =>
 Prg.ite (asBool v3) (
 Prg.ite (asBool v3) (
 ret (B true)) (
 ret (B false))) (
 tv (pbin (.int .i64) .eql x0 (I 6)) fun v4 =>
 Prg.ite (asBool v4) (
 Prg.ite (asBool v4) (
 ret (B true)) (
 ret (B false))) (
 tv (pbin (.int .i64) .eql x0 (I 7)) fun v5 =>
 Prg.ite (asBool v5) (
 Prg.ite (asBool v5) (
 ret (B true)) (
 ret (B false))) (
 tv (pbin (.int .i64) .eql x0 (I 8)) fun v6 =>
 Prg.ite (asBool v6) (
 ret (B true)) (
 ret (B false))))))))
theorem f120_MR (x0:TV):aB prog 120 [x0]=f120_M x0:=by kernel_rfl
def f121_M (x0 x1:TV):Prg TV :=
 tv (pbin (.int .u16) .eql x1 (W 0)) fun v0 =>
 Prg.ite (asBool v0) (
 ret (tup [W 0,B false])) (
 tv (pbin (.int .u16) .quo x0 x1) fun v1 =>
 ret (tup [v1,B true]))
theorem f121_MR (x0 x1:TV):aB prog 121 [x0,x1]=f121_M x0 x1:=by kernel_rfl
def f122_M (x0:TV):Prg TV :=
 Prg.ite (asBool x0) (
 ret (W 1)) (
 ret (W 0))
theorem f122_MR (x0:TV):aB prog 122 [x0]=f122_M x0:=by kernel_rfl
end Go.Ab.Q12
end
section
set_option maxRecDepth 10000
namespace Go.Ab.Q12
open Go Go.Ab Go.Proofs
theorem r14 {q q':Option Bool} {x y:TV} {l m:List Int} (hx:RInts q x l) (hy:RInts q' y m):ao prog 16 [x,y] (B (tt (l=m))):=by
 refine ao.of (f16_MR _ _) ?_
 unfold f16_M
 repeat' (first
  | refine aa.chk rfl ?_
  | refine aa.tv rfl ?_
  | refine aa.tv (RL.len (by assumption)) ?_
  | refine aa.nat rfl ?_
  | refine aa.ite rfl (fun _=>?_) (fun _=>?_)
  | refine aa.call (by assumption) ?_
  | refine aa.tvs (by assumption) ?_)
 ·rename_i h
  have h:¬ l=m:=by rintro rfl; simp at h
  exact bz h
 ·rename_i h
  have hlen:l.length=m.length:=by simp at h; omega
  refine f16_0_J ?_
  rw [dk (ix hlen)]
  refine gJ (g:=fun k=>f16_0 x y (I k)) ?_ ?_
  ·unfold f16_0
   refine aa.tv hx.len (aa.tv rfl (aa.ite bL nofun fun _=>aa.ret))
  ·intro k hk r h1 h2
   have hk':k < m.length:=by omega
   have ha:l[k]? = some l[k]:=EK hk
   have hb:m[k]? = some m[k]:=EK hk'
   obtain ⟨e,he,rfl,_⟩:=hx.idx (k:=.i64) ha
   obtain ⟨e',he',rfl,_⟩:=hy.idx (k:=.i64) hb
   unfold f16_0
   refine aa.tv hx.len (aa.tv rfl (aa.ite (bv hk) (fun _=>?_) nofun))
   refine aa.tvs he (aa.chk rfl (aa.tvs he' (aa.chk rfl (aa.tv rfl (aa.ite rfl (fun h=>?_) fun h=>?_)))))
   ·rw [h1 (by rw [ha,hb]; simpa using h)]; exact aa.ret
   ·refine aa.tv (inc hk hx.bnd) (f16_0_J (h2 ?_))
    rw [ha,hb]; simpa using h
end Go.Ab.Q12
end
section
set_option maxRecDepth 10000
namespace Go.Ab
theorem RL.bW {α:Type} {q:Option Bool} {s:Nat} {R:List TV->α->Prop} {x:TV} {l:List α} (h:RL q s R x l) {k:IntKind} {n:Int} {a:α} (h0:0<=n) (hi:l[n.toNat]? = some a):∃ e,pidx s x (.lit (.int k n))=some e/\R e a:=by
 rcases h with ⟨rfl,rfl⟩ | ⟨o,xs,rfl,hq,h,_⟩
 ·simp at hi
 ·obtain ⟨e,he,hr⟩:=h.get hi
  exact ⟨e,by simp [pidx,he,h0],hr⟩
def within (n most:Int):Prop:=0<=n/\n < most
def ky (u:Bool) (regs n:Int):Prop:=(u=true->within n regs)/\(u=false->n=0)
def xb (fs:List DFunc) (regs n:Int) (l:List Int):Prop:=0<=n/\∃ g,fs[n.toNat]? = some g/\(l.length:Int)=g.params/\∀ i,i < l.length->∀ a,l[i]? = some a->within a regs
def ri (u:Bool) (fs:List DFunc) (regs n:Int) (l:List Int):Prop:=(u=true->xb fs regs n l)/\(u=false->n=0/\l=[])
def lA (bs:List DBlock) (n:Int) (landing:Bool):Prop:=0<=n/\∃ b,bs[n.toNat]? = some b/\b.landing=landing
def sX (u:Bool) (bs:List DBlock) (n:Int) (landing:Bool):Prop:=(u=true->lA bs n landing)/\(u=false->n=0)
theorem sg {regs n:Int}:ky true regs n ↔ within n regs:=⟨fun h=>h.1 rfl,fun h=>⟨fun _=>h,nofun⟩⟩
theorem db {p:Prop}:tt p=false ↔ ¬ p:=⟨fun h hp=>(by rw [gB hp] at h; exact Bool.noConfusion h),fun h=>eJ h⟩
end Go.Ab
namespace Go.Ab.Q12
open Go Go.Ab Go.Proofs
def li (op:Int):Int :=
 if op=1 then 19 else if op=2 then 7 else if op=9 then 7 else if op=3 then 15 else if op=4 then 15 else if op=5 then 15 else if op=6 then 15 else if op=7 then 15 else if op=8 then 15 else if op=10 then 13 else if op=11 then 35 else if op=12 then 5 else if op=13 then 3 else 0
def dR (k:Int):Int :=
 if k=1 then 5 else if k=5 then 5 else if k=2 then 65 else if k=3 then 197 else if k=4 then 355 else if k=6 then 1 else 0
def has (u f:Int):Bool:=decide (¬ IntKind.i64.wrap ((BitVec.ofInt 64 u &&& BitVec.ofInt 64 f).toNat:Int)=0)
theorem r25 (u f:Int):ao prog 63 [I u,I f] (B (has u f)):=by
 refine ao.of (f63_MR _ _) ?_
 unfold f63_M
 repeat' (first
  | refine aa.chk rfl ?_
  | refine aa.tv rfl ?_
  | refine aa.tv (RL.len (by assumption)) ?_
  | refine aa.nat rfl ?_
  | refine aa.ite rfl (fun _=>?_) (fun _=>?_)
  | refine aa.call (by assumption) ?_
  | refine aa.tvs (by assumption) ?_)
 refine dl.2 ?_
 simp [has]
 rfl
theorem r24 (k:Int):ao prog 62 [I k] (I (dR k)):=by
 refine ao.of (f62_MR _) ?_
 unfold f62_M
 repeat' (first
  | refine aa.chk rfl ?_
  | refine aa.tv rfl ?_
  | refine aa.tv (RL.len (by assumption)) ?_
  | refine aa.nat rfl ?_
  | refine aa.ite rfl (fun _=>?_) (fun _=>?_)
  | refine aa.call (by assumption) ?_
  | refine aa.tvs (by assumption) ?_)
 all_goals (refine dl.2 ?_; simp_all [dR])
theorem r49 (k:Int):ao prog 117 [I k] (I (li k)):=by
 refine ao.of (f117_MR _) ?_
 unfold f117_M
 repeat' (first
  | refine aa.chk rfl ?_
  | refine aa.tv rfl ?_
  | refine aa.tv (RL.len (by assumption)) ?_
  | refine aa.nat rfl ?_
  | refine aa.ite rfl (fun _=>?_) (fun _=>?_)
  | refine aa.call (by assumption) ?_
  | refine aa.tvs (by assumption) ?_)
 all_goals (refine dl.2 ?_; simp_all [li])
theorem r47 {fs bs:TV} {p regs n:Int} {u:Bool}:ao prog 115 [.agg [fs,I p,I regs,bs],B u,I n] (B (tt (ky u regs n))):=by
  cases u
  · refine ao.of (f115_MR _ _ _) ?_
    unfold f115_M
    repeat' (first
      | refine aa.chk rfl ?_
      | refine aa.tv rfl ?_
      | refine aa.tv (RL.len (by assumption)) ?_
      | refine aa.nat rfl ?_
      | refine aa.ite (v:=true) rfl (fun _=>?_) nofun
      | refine aa.ite (v:=false) rfl nofun (fun _=>?_)
      | refine aa.ite rfl (fun _=>?_) (fun _=>?_)
      | refine aa.call (by assumption) ?_
      | refine aa.tvs (by assumption) ?_
       )
    all_goals (apply fR; simp_all [ky])
  · refine ao.of (f115_MR _ _ _) ?_
    unfold f115_M
    repeat' (first
      | refine aa.chk rfl ?_
      | refine aa.tv rfl ?_
      | refine aa.tv (RL.len (by assumption)) ?_
      | refine aa.nat rfl ?_
      | refine aa.ite (v:=true) rfl (fun _=>?_) nofun
      | refine aa.ite (v:=false) rfl nofun (fun _=>?_)
      | refine aa.ite rfl (fun _=>?_) (fun _=>?_)
      | refine aa.call (by assumption) ?_
      | refine aa.tvs (by assumption) ?_
       )
    all_goals (apply fR; simp_all [ky,within] <;> omega)
theorem r50 {q q' : Option Bool} {x bs g : TV} {fs : List DFunc} {p regs n : Int} {u : Bool} {l : List Int} (hx : RL q 3 (RFunc q) x fs) (hg : RInts q' g l) : ao prog 118 [.agg [x, I p, I regs, bs], B u, I n, g] (B (tt (ri u fs regs n l))) := by
  cases u
  · refine ao.of (f118_MR _ _ _ _) ?_
    unfold f118_M
    repeat' (first
      | refine aa.chk rfl ?_
      | refine aa.tv rfl ?_
      | refine aa.tv (RL.len (by assumption)) ?_
      | refine aa.nat rfl ?_
      | refine aa.ite (v:=true) rfl (fun _=>?_) nofun
      | refine aa.ite (v:=false) rfl nofun (fun _=>?_)
      | refine aa.ite rfl (fun _=>?_) (fun _=>?_)
      | refine aa.call (by assumption) ?_
      | refine aa.tvs (by assumption) ?_
       )
    all_goals (apply fR; simp_all [ri])
  · rw [show tt (ri true fs regs n l) = tt (xb fs regs n l) from dk ⟨fun h => h.1 rfl, fun h => ⟨fun _ => h, fun h => nomatch h⟩⟩]
    refine ao.of (f118_MR _ _ _ _) ?_
    unfold f118_M
    refine aa.chk rfl (aa.tv rfl (aa.ite rfl nofun fun _=>aa.tv rfl (aa.ite rfl (fun h=>?_) fun h=>?_)))
    · simp at h
      exact bz fun h'=>by have:=h'.1; omega
    · have h0 : 0 ≤ n := by simpa using h
      refine aa.tv hx.len (aa.tv rfl (aa.ite rfl (fun h=>?_) fun h=>?_))
      · simp at h
        refine bz ?_
        rintro ⟨_,f,hf,_⟩
        have:=(EJ.1 hf).1
        omega
      · simp at h
        have hlt:n.toNat < fs.length:=by omega
        have hf:fs[n.toNat]? = some fs[n.toNat]:=EK hlt
        obtain ⟨e,he,hr⟩:=hx.bW (k:=.i64) h0 hf
        obtain ⟨b,rfl,_⟩:=hr
        refine aa.tv hg.len (aa.tvs he (aa.chk rfl (aa.tv rfl (aa.ite rfl (fun h=>?_) fun h=>?_))))
        · refine bz ?_
          rintro ⟨_,f,hf',hl,_⟩
          rw [hf] at hf'
          simp at hf' h
          subst hf'
          exact h hl
        · simp at h
          refine aa.tv hg.len (f118_0_J ?_)
          have hp:xb fs regs n l ↔ ∀ i,i < l.length->∀ a,l[i]? = some a->within a regs:=by
            refine ⟨fun ⟨_,f,hf',hl,ha⟩=>ha,fun ha=>⟨h0,_,hf,h,ha⟩⟩
          rw [dk hp]
          refine gJ (g:=fun k=>f118_0 g (I l.length) (I k) x (I p) (I regs) bs) ?_ ?_
          · unfold f118_0
            refine aa.tv rfl (aa.ite bL nofun fun _=>?_)
            exact aa.ret
          · intro k hk r h1 h2
            have ha:l[k]? = some l[k]:=EK hk
            obtain ⟨e,he,rfl,_⟩:=hg.idx (k:=.i64) ha
            unfold f118_0
            refine aa.tv rfl (aa.ite (bv hk) (fun _=>?_) nofun)
            refine aa.tvs he (aa.chk rfl (aa.call r47 (aa.chk rfl (aa.tv rfl (aa.ite rfl (fun h=>?_) fun h=>?_)))))
            · rw [h1 (by simp [ha]; simpa [cL,db,sg] using h)]; exact aa.ret
            · refine aa.tv (inc hk hg.bnd) (f118_0_J (h2 ?_))
              simp [ha]; simpa [cL,db,sg] using h
theorem r51 {q : Option Bool} {fs x : TV} {bs : List DBlock} {p regs n : Int} {u landing : Bool} (hx : RL q 14 (RBlock q) x bs) : ao prog 119 [.agg [fs, I p, I regs, x], B u, I n, B landing] (B (tt (sX u bs n landing))) := by
  cases u
  · refine ao.of (f119_MR _ _ _ _) ?_
    unfold f119_M
    repeat' (first
      | refine aa.chk rfl ?_
      | refine aa.tv rfl ?_
      | refine aa.tv (RL.len (by assumption)) ?_
      | refine aa.nat rfl ?_
      | refine aa.ite (v:=true) rfl (fun _=>?_) nofun
      | refine aa.ite (v:=false) rfl nofun (fun _=>?_)
      | refine aa.ite rfl (fun _=>?_) (fun _=>?_)
      | refine aa.call (by assumption) ?_
      | refine aa.tvs (by assumption) ?_
       )
    all_goals (apply fR; simp_all [sX])
  · rw [show tt (sX true bs n landing) = tt (lA bs n landing) from dk ⟨fun h => h.1 rfl, fun h => ⟨fun _ => h, fun h => nomatch h⟩⟩]
    refine ao.of (f119_MR _ _ _ _) ?_
    unfold f119_M
    refine aa.chk rfl (aa.tv rfl (aa.ite rfl nofun fun _=>aa.tv rfl (aa.ite rfl (fun h=>?_) fun h=>?_)))
    · have h0 : 0 ≤ n := by simpa using h
      refine aa.tv hx.len (aa.tv rfl (aa.ite rfl (fun h=>?_) fun h=>?_))
      · simp at h
        have hlt:n.toNat < bs.length:=by omega
        have hf:bs[n.toNat]? = some bs[n.toNat]:=EK hlt
        obtain ⟨e,he,hr⟩:=hx.bW (k:=.i64) h0 hf
        obtain ⟨c,i,g,rfl,_⟩:=hr
        refine aa.tvs he (aa.chk rfl (aa.tv rfl ?_))
        apply fR
        simp [lA,h0,hf]
      · simp at h
        refine bz ?_
        rintro ⟨_,f,hf,_⟩
        have:=(EJ.1 hf).1
        omega
    · simp at h
      exact bz fun h'=>by have:=h'.1; omega
def oc (fs:List DFunc) (regs:Int) (x:DIns):Prop :=
 has (li x.op) 1=true/\ky (has (li x.op) 2) regs x.dst/\ky (has (li x.op) 4) regs x.a/\ky (has (li x.op) 8) regs x.b/\(has (li x.op) 16=true\/x.k=0)/\ri (has (li x.op) 32) fs regs x.f x.args
theorem r33 {q q':Option Bool} {x bs:TV} {e:List TV} {fs:List DFunc} {p regs:Int} {a:DIns} (hx:RL q 3 (RFunc q) x fs) (he:RIns q' e a):ao prog 110 [.agg [x,I p,I regs,bs],.agg e] (B (tt (oc fs regs a))):=by
 obtain ⟨g,rfl,hg,_⟩:=he
 have h49:=r49 a.op
 have h50:∀ {u:Bool} {n:Int},ao prog 118 [.agg [x,I p,I regs,bs],B u,I n,g] (B (tt (ri u fs regs n a.args))):=r50 hx hg
 refine ao.of (f110_MR _ _) ?_
 unfold f110_M
 repeat' (first
  | refine aa.chk rfl ?_
  | refine aa.tv rfl ?_
  | refine aa.tv (RL.len (by assumption)) ?_
  | refine aa.nat rfl ?_
  | refine aa.ite (v:=true) rfl (fun _=>?_) nofun
  | refine aa.ite (v:=false) rfl nofun (fun _=>?_)
  | refine aa.ite rfl (fun _=>?_) (fun _=>?_)
  | refine aa.call (by assumption) ?_
  | refine aa.tvs (by assumption) ?_
  | refine aa.call (r25 _ _) ?_ | refine aa.call r47 ?_ | refine aa.call h50 ?_)
 all_goals (apply fR; simp_all [oc,cL,db])
def tM (fs:List DFunc) (regs:Int) (bs:List DBlock) (x:DEnd):Prop :=
 has (dR x.kind) 1=true/\ky (has (dR x.kind) 4) regs x.a/\ky (has (dR x.kind) 2) regs x.dst/\ri (has (dR x.kind) 32) fs regs x.f x.args /\
  sX (has (dR x.kind) 64) bs x.to false/\sX (has (dR x.kind) 128) bs x.els false/\sX (has (dR x.kind) 256) bs x.pad true
theorem r34 {q q' q2:Option Bool} {x y:TV} {e:List TV} {fs:List DFunc} {bs:List DBlock} {p regs:Int} {a:DEnd} (hx:RL q 3 (RFunc q) x fs) (hy:RL q2 14 (RBlock q2) y bs) (he:REnd q' e a):ao prog 111 [.agg [x,I p,I regs,y],.agg e] (B (tt (tM fs regs bs a))):=by
 obtain ⟨g,rfl,hg,_⟩:=he
 have h24:=r24 a.kind
 have h50:∀ {u:Bool} {n:Int},ao prog 118 [.agg [x,I p,I regs,y],B u,I n,g] (B (tt (ri u fs regs n a.args))):=r50 hx hg
 have h51:∀ {u landing:Bool} {n:Int},ao prog 119 [.agg [x,I p,I regs,y],B u,I n,B landing] (B (tt (sX u bs n landing))):=r51 hy
 refine ao.of (f111_MR _ _) ?_
 unfold f111_M
 repeat' (first
  | refine aa.chk rfl ?_
  | refine aa.tv rfl ?_
  | refine aa.tv (RL.len (by assumption)) ?_
  | refine aa.nat rfl ?_
  | refine aa.ite (v:=true) rfl (fun _=>?_) nofun
  | refine aa.ite (v:=false) rfl nofun (fun _=>?_)
  | refine aa.ite rfl (fun _=>?_) (fun _=>?_)
  | refine aa.call (by assumption) ?_
  | refine aa.tvs (by assumption) ?_
  | refine aa.call (r25 _ _) ?_ | refine aa.call r47 ?_ | refine aa.call h50 ?_ | refine aa.call h51 ?_)
 all_goals (apply fR; simp_all [tM,cL,db])
end Go.Ab.Q12
end

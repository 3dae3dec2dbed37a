import Derived.Test.YtjdjnejdjhfmcaaIA10T
set_option linter.all false
set_option maxRecDepth 100000
namespace Go.Ab.A10
open Go Go.Ab Go.Proofs
open Go.Ab.TV (hole cell comp isSl isSc isTup cellsL tup agg)
open Go.Ab.Prg (tv tvs rws nat chk call jmp ret)
def f18_M (x0:TV):Prg TV :=
 tv (pbin (.slice 38) .eql x0 (TV.lit aI)) fun v0 =>
 Prg.ite (asBool v0) (
 ret (TV.lit aI)) (
 tv (plen (.slice 38) x0) fun v1 =>
 nat (aj v1) fun n2 =>
 nat (aj v1) fun n3 =>
 chk (Bool.and (Nat.ble n2 n3) (Nat.ble n3 4294967296)) (
 rws (pelems 5 x0) fun r4 =>
 tv (pcopy 5 (TV.sl true 5 (List.replicate n2 [I 0,I 0,I 0,TV.lit aI,W 0])) r4) fun v5 =>
 nat (slLen (TV.sl true 5 (List.replicate n2 [I 0,I 0,I 0,TV.lit aI,W 0]))) fun n6 =>
 ret v5))
theorem f18_MR (x0:TV):aw prog 18 [x0]=f18_M x0:=by kernel_rfl
def f19_M (x0:TV):Prg TV :=
 tv (pbin (.slice 29) .eql x0 (TV.lit aI)) fun v0 =>
 Prg.ite (asBool v0) (
 chk true (
 ret (TV.lit aI))) (
 tv (plen (.slice 29) x0) fun v1 =>
 nat (aj v1) fun n2 =>
 nat (aj v1) fun n3 =>
 chk (Bool.and (Nat.ble n2 n3) (Nat.ble n3 4294967296)) (
 rws (pelems 1 x0) fun r4 =>
 tv (pcopy 1 (TV.sl true 1 (List.replicate n2 [W 0])) r4) fun v5 =>
 nat (slLen (TV.sl true 1 (List.replicate n2 [W 0]))) fun n6 =>
 chk (isOwn v5) (
 ret v5)))
theorem f19_MR (x0:TV):aw prog 19 [x0]=f19_M x0:=by kernel_rfl
def f20_M (x0:TV):Prg TV :=
 tv (pbin (.slice 3) .eql x0 (TV.lit aI)) fun v0 =>
 Prg.ite (asBool v0) (
 chk true (
 ret (TV.lit aI))) (
 tv (plen (.slice 3) x0) fun v1 =>
 nat (aj v1) fun n2 =>
 nat (aj v1) fun n3 =>
 chk (Bool.and (Nat.ble n2 n3) (Nat.ble n3 4294967296)) (
 rws (pelems 1 x0) fun r4 =>
 tv (pcopy 1 (TV.sl true 1 (List.replicate n2 [I 0])) r4) fun v5 =>
 nat (slLen (TV.sl true 1 (List.replicate n2 [I 0]))) fun n6 =>
 chk (isOwn v5) (
 ret v5)))
theorem f20_MR (x0:TV):aw prog 20 [x0]=f20_M x0:=by kernel_rfl
def f21_0_S  (y0 y1 y2 y3 y4 y5 y6 y7 y8 y9 y10 y11 y12 y13 y14 y15 y16 y17 y18 y19 y20 y21:TV):ASt:=⟨[AV.one CA.junk,AV.one CA.junk,AV.one (CA.ptr 0 0),AV.one (CA.ptr 1 0)] ++ List.replicate 61 (AV.one CA.junk),[some (BC.cells [CA.t y0]),some (BC.cells [CA.t y1,CA.t y2,CA.t y3,CA.t y4,CA.t y5,CA.t y6,CA.t y7,CA.t y8,CA.t y9,CA.t y10,CA.t y11,CA.t y12,CA.t y13,CA.t y14,CA.t y15,CA.t y16,CA.t y17,CA.t y18,CA.t y19,CA.t y20,CA.t y21])] ++ List.replicate 87 (none),[]⟩
def f21_1_S  (x0 x1 x2 y3 y4 y5 y6 y7 y8 y9 y10 y11 y12 y13 y14 y15 y16 y17 y18 y19 y20 y21 y22 y23 y24:TV):ASt:=⟨[AV.one CA.junk,AV.one CA.junk,AV.one (CA.ptr 0 0),AV.one (CA.ptr 1 0)] ++ List.replicate 32 (AV.one CA.junk) ++ [AV.tv x0,AV.tv x1,AV.tv x2] ++ List.replicate 26 (AV.one CA.junk),[some (BC.cells [CA.t y3]),some (BC.cells [CA.t y4,CA.t y5,CA.t y6,CA.t y7,CA.t y8,CA.t y9,CA.t y10,CA.t y11,CA.t y12,CA.t y13,CA.t y14,CA.t y15,CA.t y16,CA.t y17,CA.t y18,CA.t y19,CA.t y20,CA.t y21,CA.t y22,CA.t y23,CA.t y24])] ++ List.replicate 87 (none),[]⟩
def f21_M (x0 x1:TV):Prg TV :=
 chk (TV.isAgg x0 1) (
 chk (TV.isAgg x1 21) (
 call 31 [agg [cell x0 0]] fun v0 =>
 chk (ab au [v0] 0) (
 tv (pun .not v0) fun v1 =>
 Prg.ite (asBool v1) (
 ret (B false)) (
 tv (pbin (.int .i64) .lss (cell x1 19) (I 0)) fun v2 =>
 Prg.ite (asBool v2) (
 ret (B false)) (
 tv (pbin (.int .i64) .gtr (cell x1 19) (I 6)) fun v3 =>
 Prg.ite (asBool v3) (
 ret (B false)) (
 tv (plen (.slice 38) (cell x1 0)) fun v4 =>
 tv (pbin (.int .i64) .gtr v4 (I 32)) fun v5 =>
 Prg.ite (asBool v5) (
 ret (B false)) (
 tv (pbin (.int .i64) .eql (cell x1 19) (I 0)) fun v6 =>
 Prg.ite (asBool v6) (
 tv (plen (.slice 38) (cell x1 0)) fun v7 =>
 tv (pbin (.int .i64) .eql v7 (I 0)) fun v8 =>
 Prg.ite (asBool v8) (
 ret (B false)) (
 jmp [1,1,1] (f21_0_S (cell x0 0) (cell x1 0) (cell x1 1) (cell x1 2) (cell x1 3) (cell x1 4) (cell x1 5) (cell x1 6) (cell x1 7) (cell x1 8) (cell x1 9) (cell x1 10) (cell x1 11) (cell x1 12) (cell x1 13) (cell x1 14) (cell x1 15) (cell x1 16) (cell x1 17) (cell x1 18) (cell x1 19) (cell x1 20)))) (
 jmp [1,1,1] (f21_0_S (cell x0 0) (cell x1 0) (cell x1 1) (cell x1 2) (cell x1 3) (cell x1 4) (cell x1 5) (cell x1 6) (cell x1 7) (cell x1 8) (cell x1 9) (cell x1 10) (cell x1 11) (cell x1 12) (cell x1 13) (cell x1 14) (cell x1 15) (cell x1 16) (cell x1 17) (cell x1 18) (cell x1 19) (cell x1 20))))))))))
def f21_0  (y0 y1 y2 y3 y4 y5 y6 y7 y8 y9 y10 y11 y12 y13 y14 y15 y16 y17 y18 y19 y20 y21:TV):Prg TV :=
 tv (plen (.slice 38) y1) fun v9 =>
 jmp [0,0,1,0,1,1,1] (f21_1_S y1 v9 (I 0) y0 y1 y2 y3 y4 y5 y6 y7 y8 y9 y10 y11 y12 y13 y14 y15 y16 y17 y18 y19 y20 y21)
def f21_1  (x0 x1 x2 y3 y4 y5 y6 y7 y8 y9 y10 y11 y12 y13 y14 y15 y16 y17 y18 y19 y20 y21 y22 y23 y24:TV):Prg TV :=
 tv (pbin (.int .i64) .lss x2 x1) fun v10 =>
 Prg.ite (asBool v10) (
 tvs (pidx 5 x0 x2) fun e11 =>
 chk (Nat.ble 5 (List.length e11)) (
 call 32 [agg [y3],agg [nth hole e11 0,nth hole e11 1,nth hole e11 2,nth hole e11 3,nth hole e11 4]] fun v12 =>
 chk (ab au [v12] 0) (
 tv (pun .not v12) fun v13 =>
 Prg.ite (asBool v13) (
 ret (B false)) (
 tv (pbin (.int .i64) .gtr x2 (I 0)) fun v14 =>
 Prg.ite (asBool v14) (
 tv (pbin (.int .i64) .sub x2 (I 1)) fun v15 =>
 tvs (pidx 5 y4 v15) fun e16 =>
 chk (Nat.ble 5 (List.length e16)) (
 call 33 [agg [y3],agg [nth hole e16 0,nth hole e16 1,nth hole e16 2,nth hole e16 3,nth hole e16 4],nth hole e11 0] fun v17 =>
 chk (ab au [v17] 0) (
 tv (pun .not v17) fun v18 =>
 Prg.ite (asBool v18) (
 ret (B false)) (
 tv (pbin (.int .i64) .add x2 (I 1)) fun v19 =>
 jmp [0,0,1,0,1,1,1] (f21_1_S x0 x1 v19 y3 y4 y5 y6 y7 y8 y9 y10 y11 y12 y13 y14 y15 y16 y17 y18 y19 y20 y21 y22 y23 y24))))) (
 tv (pbin (.int .i64) .add x2 (I 1)) fun v20 =>
 jmp [0,0,1,0,1,1,1] (f21_1_S x0 x1 v20 y3 y4 y5 y6 y7 y8 y9 y10 y11 y12 y13 y14 y15 y16 y17 y18 y19 y20 y21 y22 y23 y24)))))) (
 ret (B true))
theorem f21_MR (x0 x1:TV):aw prog 21 [x0,x1]=f21_M x0 x1:=by kernel_rfl
theorem f21_0_J  {y0 y1 y2 y3 y4 y5 y6 y7 y8 y9 y10 y11 y12 y13 y14 y15 y16 y17 y18 y19 y20 y21:TV} {r:TV} (h:aa prog 21 (f21_0 y0 y1 y2 y3 y4 y5 y6 y7 y8 y9 y10 y11 y12 y13 y14 y15 y16 y17 y18 y19 y20 y21) r):aa prog 21 (.jmp [1,1,1] (f21_0_S y0 y1 y2 y3 y4 y5 y6 y7 y8 y9 y10 y11 y12 y13 y14 y15 y16 y17 y18 y19 y20 y21)) r:=aa.jmp (by kernel_rfl) h
theorem f21_1_J  {x0 x1 x2 y3 y4 y5 y6 y7 y8 y9 y10 y11 y12 y13 y14 y15 y16 y17 y18 y19 y20 y21 y22 y23 y24:TV} {r:TV} (h:aa prog 21 (f21_1 x0 x1 x2 y3 y4 y5 y6 y7 y8 y9 y10 y11 y12 y13 y14 y15 y16 y17 y18 y19 y20 y21 y22 y23 y24) r):aa prog 21 (.jmp [0,0,1,0,1,1,1] (f21_1_S x0 x1 x2 y3 y4 y5 y6 y7 y8 y9 y10 y11 y12 y13 y14 y15 y16 y17 y18 y19 y20 y21 y22 y23 y24)) r:=aa.jmp (by kernel_rfl) h
def f22_0_S  (x0 x1 x2:TV):ASt:=⟨[AV.tv x0,AV.tv x1,AV.one CA.junk,AV.one CA.junk,AV.one CA.junk,AV.tv x2] ++ List.replicate 20 (AV.one CA.junk),List.replicate 50 (none),[]⟩
def f22_M (x0 x1:TV):Prg TV :=
 tv (plen (.slice 3) x0) fun v0 =>
 tv (plen (.slice 3) x1) fun v1 =>
 tv (pbin (.int .i64) .neq v0 v1) fun v2 =>
 Prg.ite (asBool v2) (
 ret (B false)) (
 jmp [0,0,1,0,1,1] (f22_0_S x0 x1 (I 0)))
def f22_0  (x0 x1 x2:TV):Prg TV :=
 tv (plen (.slice 3) x0) fun v3 =>
 tv (pbin (.int .i64) .lss x2 v3) fun v4 =>
 Prg.ite (asBool v4) (
 tvs (pidx 1 x0 x2) fun e5 =>
 chk (Nat.blt 0 (List.length e5)) (
 tvs (pidx 1 x1 x2) fun e6 =>
 chk (Nat.blt 0 (List.length e6)) (
 tv (pbin (.int .i64) .neq (nth hole e5 0) (nth hole e6 0)) fun v7 =>
 Prg.ite (asBool v7) (
 ret (B false)) (
 tv (pbin (.int .i64) .add x2 (I 1)) fun v8 =>
 jmp [0,0,1,0,1,1] (f22_0_S x0 x1 v8))))) (
 ret (B true))
theorem f22_MR (x0 x1:TV):aw prog 22 [x0,x1]=f22_M x0 x1:=by kernel_rfl
theorem f22_0_J  {x0 x1 x2:TV} {r:TV} (h:aa prog 22 (f22_0 x0 x1 x2) r):aa prog 22 (.jmp [0,0,1,0,1,1] (f22_0_S x0 x1 x2)) r:=aa.jmp (by kernel_rfl) h
def f23_M (x0 x1 x2:TV):Prg TV :=
 chk (TV.isAgg x0 1) (
 call 31 [agg [cell x0 0]] fun v0 =>
 chk (ab au [v0] 0) (
 tv (pun .not v0) fun v1 =>
 Prg.ite (asBool v1) (
 chk true (
 ret (tup [agg [I 0,I 0,I 0,TV.lit aI,W 0],I 1]))) (
 tv (plen (.slice 43) (cell x0 0)) fun v2 =>
 call 34 [v2,x1] fun v3 =>
 chk (ab au [v3] 0) (
 tv (pun .not v3) fun v4 =>
 Prg.ite (asBool v4) (
 chk true (
 ret (tup [agg [I 0,I 0,I 0,TV.lit aI,W 0],I 1]))) (
 tv (plen (.slice 29) x2) fun v5 =>
 tvs (pidx 3 (cell x0 0) x1) fun e6 =>
 chk (Nat.blt 0 (List.length e6)) (
 tv (pbin (.int .i64) .neq v5 (nth hole e6 0)) fun v7 =>
 Prg.ite (asBool v7) (
 chk true (
 ret (tup [agg [I 0,I 0,I 0,TV.lit aI,W 0],I 1]))) (
 tvs (pidx 3 (cell x0 0) x1) fun e8 =>
 chk (Nat.blt 1 (List.length e8)) (
 nat (aj (nth hole e8 1)) fun n9 =>
 nat (aj (nth hole e8 1)) fun n10 =>
 chk (Bool.and (Nat.ble n9 n10) (Nat.ble n10 4294967296)) (
 rws (pelems 1 x2) fun r11 =>
 tv (pcopy 1 (TV.sl true 1 (List.replicate n9 [W 0])) r11) fun v12 =>
 nat (slLen (TV.sl true 1 (List.replicate n9 [W 0]))) fun n13 =>
 chk (TV.ej x1) (
 chk (aV [agg [x1,I 0,I 0,v12,W 0],I 0]) (
 ret (tup [agg [x1,I 0,I 0,v12,W 0],I 0]))))))))))))
theorem f23_MR (x0 x1 x2:TV):aw prog 23 [x0,x1,x2]=f23_M x0 x1 x2:=by kernel_rfl
def f25_M (x0 x1:TV):Prg TV :=
 chk (TV.isAgg x1 5) (
 chk (Nat.blt 21 (List.length (List.cons hole (List.cons hole (List.cons hole (List.cons hole (List.cons hole (List.cons hole (List.cons hole (List.cons hole (List.cons hole (List.cons hole (List.cons hole (List.cons hole (List.cons hole (List.cons hole (List.cons hole (List.cons hole (List.cons hole (List.cons hole (List.cons hole (List.cons hole (List.cons hole (List.cons x0 (List.replicate 0 hole))))))))))))))))))))))))) (
 tvs (pidx 3 (nth hole (List.cons hole (List.cons hole (List.cons hole (List.cons hole (List.cons hole (List.cons hole (List.cons hole (List.cons hole (List.cons hole (List.cons hole (List.cons hole (List.cons hole (List.cons hole (List.cons hole (List.cons hole (List.cons hole (List.cons hole (List.cons hole (List.cons hole (List.cons hole (List.cons hole (List.cons x0 (List.replicate 0 hole))))))))))))))))))))))) 21) (cell x1 0)) fun e0 =>
 chk (Nat.blt 2 (List.length e0)) (
 tvs (pidx 14 (nth hole e0 2) (cell x1 1)) fun e1 =>
 chk (Nat.ble 14 (List.length e1)) (
 ret (agg [nth hole e1 0,nth hole e1 1,nth hole e1 2,nth hole e1 3,nth hole e1 4,nth hole e1 5,nth hole e1 6,nth hole e1 7,nth hole e1 8,nth hole e1 9,nth hole e1 10,nth hole e1 11,nth hole e1 12,nth hole e1 13])))))
theorem f25_MR (x0 x1:TV):aw prog 25 [x0,x1]=f25_M x0 x1:=by kernel_rfl
def f28_0_S  (x0 x1 x2 y3 y4 y5 w6:TV):ASt:=⟨[AV.one CA.junk,AV.one (CA.ptr 0 0),AV.one CA.junk,AV.one (CA.sref 1 0 [])] ++ List.replicate 6 (AV.one CA.junk) ++ [AV.tv x0,AV.tv x1,AV.tv x2] ++ List.replicate 37 (AV.one CA.junk),[some (BC.cells [CA.t y3,CA.t y4,CA.t y5]),some (BC.tree [w6])] ++ List.replicate 72 (none),[]⟩
def f28_1_S  (x0 x1 x2 x3 x4 x5 y6 y7 y8 w9 y10 y11 y12 y13 y14 y15 y16 y17 y18 y19 y20 y21 y22 y23:TV):ASt:=⟨[AV.one CA.junk,AV.one (CA.ptr 0 0),AV.one CA.junk,AV.one (CA.sref 1 0 []),AV.one CA.junk,AV.one (CA.ptr 2 0)] ++ List.replicate 4 (AV.one CA.junk) ++ [AV.tv x0,AV.tv x1,AV.tv x2] ++ List.replicate 4 (AV.one CA.junk) ++ [AV.tv x3,AV.tv x4,AV.tv x5] ++ List.replicate 30 (AV.one CA.junk),[some (BC.cells [CA.t y6,CA.t y7,CA.t y8]),some (BC.tree [w9]),some (BC.cells [CA.t y10,CA.t y11,CA.t y12,CA.t y13,CA.t y14,CA.t y15,CA.t y16,CA.t y17,CA.t y18,CA.t y19,CA.t y20,CA.t y21,CA.t y22,CA.t y23])] ++ List.replicate 71 (none),[]⟩
def f28_2_S  (y0 y1 y2 w3:TV):ASt:=⟨[AV.one CA.junk,AV.one (CA.ptr 0 0),AV.one CA.junk,AV.one (CA.sref 1 0 [])] ++ List.replicate 46 (AV.one CA.junk),[some (BC.cells [CA.t y0,CA.t y1,CA.t y2]),some (BC.tree [w3])] ++ List.replicate 72 (none),[]⟩
def f28_3_S  (x0 x1 x2 y3 y4 y5 w6 y7 y8 y9 y10 y11 y12 y13 y14 y15 y16 y17 y18 y19 y20:TV):ASt:=⟨[AV.one CA.junk,AV.one (CA.ptr 0 0),AV.one CA.junk,AV.one (CA.sref 1 0 []),AV.one CA.junk,AV.one (CA.ptr 2 0)] ++ List.replicate 4 (AV.one CA.junk) ++ [AV.tv x0,AV.tv x1,AV.tv x2] ++ List.replicate 37 (AV.one CA.junk),[some (BC.cells [CA.t y3,CA.t y4,CA.t y5]),some (BC.tree [w6]),some (BC.cells [CA.t y7,CA.t y8,CA.t y9,CA.t y10,CA.t y11,CA.t y12,CA.t y13,CA.t y14,CA.t y15,CA.t y16,CA.t y17,CA.t y18,CA.t y19,CA.t y20])] ++ List.replicate 71 (none),[]⟩
def f28_M (x0:TV):Prg TV :=
 chk (TV.isAgg x0 3) (
 nat (aj (I 16)) fun n0 =>
 nat (aj (I 16)) fun n1 =>
 chk (Bool.and (Nat.ble n0 n1) (Nat.ble n1 4294967296)) (
 tv (plen (.slice 55) (cell x0 2)) fun v2 =>
 jmp [0,0,1,0,1,1] (f28_0_S (cell x0 2) v2 (I 0) (cell x0 0) (cell x0 1) (cell x0 2) (TV.sl true 3 (List.replicate n0 [I 0,I 0,TV.lit aI])))))
def f28_0  (x0 x1 x2 y3 y4 y5 w6:TV):Prg TV :=
 tv (pbin (.int .i64) .lss x2 x1) fun v3 =>
 Prg.ite (asBool v3) (
 tvs (pidx 14 x0 x2) fun e4 =>
 chk (Nat.ble 14 (List.length e4)) (
 tv (plen (.slice 58) (nth hole e4 5)) fun v5 =>
 jmp [0,0,1,0,1,0,0,1,1,0,0,1,0,1,1] (f28_1_S x0 x1 x2 (nth hole e4 5) v5 (I 0) y3 y4 y5 w6 (nth hole e4 0) (nth hole e4 1) (nth hole e4 2) (nth hole e4 3) (nth hole e4 4) (nth hole e4 5) (nth hole e4 6) (nth hole e4 7) (nth hole e4 8) (nth hole e4 9) (nth hole e4 10) (nth hole e4 11) (nth hole e4 12) (nth hole e4 13)))) (
 jmp [1,1,1] (f28_2_S y3 y4 y5 w6))
def f28_1  (x0 x1 x2 x3 x4 x5 y6 y7 y8 w9 y10 y11 y12 y13 y14 y15 y16 y17 y18 y19 y20 y21 y22 y23:TV):Prg TV :=
 tv (pbin (.int .i64) .lss x5 x4) fun v6 =>
 Prg.ite (asBool v6) (
 tvs (pidx 7 x3 x5) fun e7 =>
 chk (Nat.ble 7 (List.length e7)) (
 tv (pbin (.int .i64) .eql (nth hole e7 0) (I 11)) fun v8 =>
 Prg.ite (asBool v8) (
 tv (pbin (.int .i64) .leq (I 0) (nth hole e7 5)) fun v9 =>
 Prg.ite (asBool v9) (
 tv (plen (.slice 43) w9) fun v10 =>
 tv (pbin (.int .i64) .lss (nth hole e7 5) v10) fun v11 =>
 Prg.ite (asBool v11) (
 tv (plen (.slice 3) (nth hole e7 6)) fun v12 =>
 tv (pmin false v12 (I 8)) fun v13 =>
 nat (slLen w9) fun n14 =>
 nat (aj (nth hole e7 5)) fun n15 =>
 chk (Bool.and (slSize w9 3) (Nat.blt n15 n14)) (
 tvs (pel w9 n15) fun e16 =>
 chk (ab fo e16 0) (
 tv (bI [] w9 n15 0 [v13]) fun v17 =>
 tv (pbin (.int .i64) .add x5 (I 1)) fun v18 =>
 jmp [0,0,1,0,1,0,0,1,1,0,0,1,0,1,1] (f28_1_S x0 x1 x2 x3 x4 v18 y6 y7 y8 v17 y10 y11 y12 y13 y14 y15 y16 y17 y18 y19 y20 y21 y22 y23)))) (
 tv (pbin (.int .i64) .add x5 (I 1)) fun v19 =>
 jmp [0,0,1,0,1,0,0,1,1,0,0,1,0,1,1] (f28_1_S x0 x1 x2 x3 x4 v19 y6 y7 y8 w9 y10 y11 y12 y13 y14 y15 y16 y17 y18 y19 y20 y21 y22 y23))) (
 tv (pbin (.int .i64) .add x5 (I 1)) fun v20 =>
 jmp [0,0,1,0,1,0,0,1,1,0,0,1,0,1,1] (f28_1_S x0 x1 x2 x3 x4 v20 y6 y7 y8 w9 y10 y11 y12 y13 y14 y15 y16 y17 y18 y19 y20 y21 y22 y23))) (
 tv (pbin (.int .i64) .add x5 (I 1)) fun v21 =>
 jmp [0,0,1,0,1,0,0,1,1,0,0,1,0,1,1] (f28_1_S x0 x1 x2 x3 x4 v21 y6 y7 y8 w9 y10 y11 y12 y13 y14 y15 y16 y17 y18 y19 y20 y21 y22 y23)))) (
 jmp [1,1,0,0,1,1,0,0,1,0,1,1] (f28_3_S x0 x1 x2 y6 y7 y8 w9 y10 y11 y12 y13 y14 y15 y16 y17 y18 y19 y20 y21 y22 y23))
def f28_2  (y0 y1 y2 w3:TV):Prg TV :=
 call 44 [agg [frz w3],agg [y0,y1,y2]] fun v22 =>
 chk (ab au [v22] 0) (
 ret v22)
def f28_3  (x0 x1 x2 y3 y4 y5 w6 y7 y8 y9 y10 y11 y12 y13 y14 y15 y16 y17 y18 y19 y20:TV):Prg TV :=
 tv (pbin (.int .i64) .eql y13 (I 4)) fun v23 =>
 Prg.ite (asBool v23) (
 tv (pbin (.int .i64) .leq (I 0) y16) fun v24 =>
 Prg.ite (asBool v24) (
 tv (plen (.slice 43) w6) fun v25 =>
 tv (pbin (.int .i64) .lss y16 v25) fun v26 =>
 Prg.ite (asBool v26) (
 tv (plen (.slice 3) y17) fun v27 =>
 tv (pmin false v27 (I 8)) fun v28 =>
 nat (slLen w6) fun n29 =>
 nat (aj y16) fun n30 =>
 chk (Bool.and (slSize w6 3) (Nat.blt n30 n29)) (
 tvs (pel w6 n30) fun e31 =>
 chk (ab fo e31 0) (
 tv (bI [] w6 n30 0 [v28]) fun v32 =>
 tv (pbin (.int .i64) .add x2 (I 1)) fun v33 =>
 jmp [0,0,1,0,1,1] (f28_0_S x0 x1 v33 y3 y4 y5 v32)))) (
 tv (pbin (.int .i64) .add x2 (I 1)) fun v34 =>
 jmp [0,0,1,0,1,1] (f28_0_S x0 x1 v34 y3 y4 y5 w6))) (
 tv (pbin (.int .i64) .add x2 (I 1)) fun v35 =>
 jmp [0,0,1,0,1,1] (f28_0_S x0 x1 v35 y3 y4 y5 w6))) (
 tv (pbin (.int .i64) .add x2 (I 1)) fun v36 =>
 jmp [0,0,1,0,1,1] (f28_0_S x0 x1 v36 y3 y4 y5 w6))
theorem f28_MR (x0:TV):aw prog 28 [x0]=f28_M x0:=by kernel_rfl
theorem f28_0_J  {x0 x1 x2 y3 y4 y5 w6:TV} {r:TV} (h:aa prog 28 (f28_0 x0 x1 x2 y3 y4 y5 w6) r):aa prog 28 (.jmp [0,0,1,0,1,1] (f28_0_S x0 x1 x2 y3 y4 y5 w6)) r:=aa.jmp (by kernel_rfl) h
theorem f28_1_J  {x0 x1 x2 x3 x4 x5 y6 y7 y8 w9 y10 y11 y12 y13 y14 y15 y16 y17 y18 y19 y20 y21 y22 y23:TV} {r:TV} (h:aa prog 28 (f28_1 x0 x1 x2 x3 x4 x5 y6 y7 y8 w9 y10 y11 y12 y13 y14 y15 y16 y17 y18 y19 y20 y21 y22 y23) r):aa prog 28 (.jmp [0,0,1,0,1,0,0,1,1,0,0,1,0,1,1] (f28_1_S x0 x1 x2 x3 x4 x5 y6 y7 y8 w9 y10 y11 y12 y13 y14 y15 y16 y17 y18 y19 y20 y21 y22 y23)) r:=aa.jmp (by kernel_rfl) h
theorem f28_2_J  {y0 y1 y2 w3:TV} {r:TV} (h:aa prog 28 (f28_2 y0 y1 y2 w3) r):aa prog 28 (.jmp [1,1,1] (f28_2_S y0 y1 y2 w3)) r:=aa.jmp (by kernel_rfl) h
theorem f28_3_J  {x0 x1 x2 y3 y4 y5 w6 y7 y8 y9 y10 y11 y12 y13 y14 y15 y16 y17 y18 y19 y20:TV} {r:TV} (h:aa prog 28 (f28_3 x0 x1 x2 y3 y4 y5 w6 y7 y8 y9 y10 y11 y12 y13 y14 y15 y16 y17 y18 y19 y20) r):aa prog 28 (.jmp [1,1,0,0,1,1,0,0,1,0,1,1] (f28_3_S x0 x1 x2 y3 y4 y5 w6 y7 y8 y9 y10 y11 y12 y13 y14 y15 y16 y17 y18 y19 y20)) r:=aa.jmp (by kernel_rfl) h
def f31_0_S  (x0 x1 x2 y3:TV):ASt:=⟨[AV.one CA.junk,AV.one (CA.ptr 0 0)] ++ List.replicate 22 (AV.one CA.junk) ++ [AV.tv x0,AV.tv x1,AV.tv x2] ++ List.replicate 8 (AV.one CA.junk),[some (BC.cells [CA.t y3])] ++ List.replicate 58 (none),[]⟩
def f31_M (x0:TV):Prg TV :=
 chk (TV.isAgg x0 1) (
 tv (plen (.slice 43) (cell x0 0)) fun v0 =>
 tv (pbin (.int .i64) .lss v0 (I 1)) fun v1 =>
 Prg.ite (asBool v1) (
 ret (B false)) (
 tv (plen (.slice 43) (cell x0 0)) fun v2 =>
 tv (pbin (.int .i64) .gtr v2 (I 16)) fun v3 =>
 Prg.ite (asBool v3) (
 ret (B false)) (
 tvs (pidx 3 (cell x0 0) (I 0)) fun e4 =>
 chk (Nat.blt 0 (List.length e4)) (
 tv (pbin (.int .i64) .neq (nth hole e4 0) (I 0)) fun v5 =>
 Prg.ite (asBool v5) (
 ret (B false)) (
 tv (plen (.slice 43) (cell x0 0)) fun v6 =>
 jmp [0,0,1,0,1,1] (f31_0_S (cell x0 0) v6 (I 0) (cell x0 0)))))))
def f31_0  (x0 x1 x2 y3:TV):Prg TV :=
 tv (pbin (.int .i64) .lss x2 x1) fun v7 =>
 Prg.ite (asBool v7) (
 tvs (pidx 3 x0 x2) fun e8 =>
 chk (Nat.ble 3 (List.length e8)) (
 call 44 [agg [y3],agg [nth hole e8 0,nth hole e8 1,nth hole e8 2]] fun v9 =>
 chk (ab au [v9] 0) (
 tv (pun .not v9) fun v10 =>
 Prg.ite (asBool v10) (
 ret (B false)) (
 tv (pbin (.int .i64) .add x2 (I 1)) fun v11 =>
 jmp [0,0,1,0,1,1] (f31_0_S x0 x1 v11 y3))))) (
 ret (B true))
theorem f31_MR (x0:TV):aw prog 31 [x0]=f31_M x0:=by kernel_rfl
theorem f31_0_J  {x0 x1 x2 y3:TV} {r:TV} (h:aa prog 31 (f31_0 x0 x1 x2 y3) r):aa prog 31 (.jmp [0,0,1,0,1,1] (f31_0_S x0 x1 x2 y3)) r:=aa.jmp (by kernel_rfl) h
def f32_M (x0 x1:TV):Prg TV :=
 chk (TV.isAgg x0 1) (
 chk (TV.isAgg x1 5) (
 call 31 [agg [cell x0 0]] fun v0 =>
 chk (ab au [v0] 0) (
 tv (pun .not v0) fun v1 =>
 Prg.ite (asBool v1) (
 ret (B false)) (
 tv (plen (.slice 43) (cell x0 0)) fun v2 =>
 call 34 [v2,cell x1 0] fun v3 =>
 chk (ab au [v3] 0) (
 tv (pun .not v3) fun v4 =>
 Prg.ite (asBool v4) (
 ret (B false)) (
 tvs (pidx 3 (cell x0 0) (cell x1 0)) fun e5 =>
 chk (Nat.ble 3 (List.length e5)) (
 tv (plen (.slice 29) (cell x1 3)) fun v6 =>
 tv (pbin (.int .i64) .neq v6 (nth hole e5 1)) fun v7 =>
 Prg.ite (asBool v7) (
 ret (B false)) (
 tv (plen (.slice 55) (nth hole e5 2)) fun v8 =>
 call 34 [v8,cell x1 1] fun v9 =>
 chk (ab au [v9] 0) (
 tv (pun .not v9) fun v10 =>
 Prg.ite (asBool v10) (
 ret (B false)) (
 tv (pbin (.int .i64) .leq (I 0) (cell x1 2)) fun v11 =>
 Prg.ite (asBool v11) (
 tvs (pidx 14 (nth hole e5 2) (cell x1 1)) fun e12 =>
 chk (Nat.blt 5 (List.length e12)) (
 tv (plen (.slice 58) (nth hole e12 5)) fun v13 =>
 tv (pbin (.int .i64) .leq (cell x1 2) v13) fun v14 =>
 ret v14)) (
 ret (B false))))))))))))
theorem f32_MR (x0 x1:TV):aw prog 32 [x0,x1]=f32_M x0 x1:=by kernel_rfl
def f33_M (x0 x1 x2:TV):Prg TV :=
 chk (TV.isAgg x0 1) (
 chk (TV.isAgg x1 5) (
 tvs (pidx 3 (cell x0 0) (cell x1 0)) fun e0 =>
 chk (Nat.blt 2 (List.length e0)) (
 tvs (pidx 14 (nth hole e0 2) (cell x1 1)) fun e1 =>
 chk (Nat.ble 14 (List.length e1)) (
 tv (plen (.slice 58) (nth hole e1 5)) fun v2 =>
 tv (pbin (.int .i64) .lss (cell x1 2) v2) fun v3 =>
 Prg.ite (asBool v3) (
 tvs (pidx 7 (nth hole e1 5) (cell x1 2)) fun e4 =>
 chk (Nat.ble 7 (List.length e4)) (
 tv (pbin (.int .i64) .eql (nth hole e4 0) (I 11)) fun v5 =>
 Prg.ite (asBool v5) (
 tv (pbin (.int .i64) .eql (nth hole e4 5) x2) fun v6 =>
 ret v6) (
 ret (B false)))) (
 tv (pbin (.int .i64) .eql (nth hole e1 6) (I 4)) fun v7 =>
 Prg.ite (asBool v7) (
 tv (pbin (.int .i64) .eql (nth hole e1 9) x2) fun v8 =>
 ret v8) (
 ret (B false)))))))
theorem f33_MR (x0 x1 x2:TV):aw prog 33 [x0,x1,x2]=f33_M x0 x1 x2:=by kernel_rfl
def f34_M (x0 x1:TV):Prg TV :=
 tv (pbin (.int .i64) .leq (I 0) x1) fun v0 =>
 Prg.ite (asBool v0) (
 tv (pbin (.int .i64) .lss x1 x0) fun v1 =>
 ret v1) (
 ret (B false))
theorem f34_MR (x0 x1:TV):aw prog 34 [x0,x1]=f34_M x0 x1:=by kernel_rfl
def f41_M (x0 x1:TV):Prg TV :=
 chk (TV.isAgg x0 5) (
 call 53 [agg [cell x0 0,cell x0 1,cell x0 2,cell x0 3,cell x0 4]] fun v0 =>
 chk (Bool.and (TV.isAgg v0 5) (ab z37 (cellsL true v0) 0)) (
 chk (TV.ej x1) (
 chk (isOwn (agg [cell v0 0,x1,I 0,cell v0 3,cell v0 4])) (
 ret (agg [cell v0 0,x1,I 0,cell v0 3,cell v0 4])))))
theorem f41_MR (x0 x1:TV):aw prog 41 [x0,x1]=f41_M x0 x1:=by kernel_rfl
def f44_0_S  (x0 x1 x2 y3 y4 y5 y6:TV):ASt:=⟨List.replicate 5 (AV.one CA.junk) ++ [AV.one (CA.ptr 0 0)] ++ List.replicate 44 (AV.one CA.junk) ++ [AV.tv x0,AV.tv x1,AV.tv x2] ++ List.replicate 8 (AV.one CA.junk),[some (BC.cells [CA.t y3,CA.t y4,CA.t y5,CA.t y6])] ++ List.replicate 84 (none),[]⟩
def f44_M (x0 x1:TV):Prg TV :=
 chk (TV.isAgg x0 1) (
 chk (TV.isAgg x1 3) (
 tv (pbin (.int .i64) .lss (cell x1 0) (I 0)) fun v0 =>
 Prg.ite (asBool v0) (
 ret (B false)) (
 tv (pbin (.int .i64) .gtr (cell x1 0) (I 8)) fun v1 =>
 Prg.ite (asBool v1) (
 ret (B false)) (
 tv (pbin (.int .i64) .lss (cell x1 1) (cell x1 0)) fun v2 =>
 Prg.ite (asBool v2) (
 ret (B false)) (
 tv (pbin (.int .i64) .gtr (cell x1 1) (I 256)) fun v3 =>
 Prg.ite (asBool v3) (
 ret (B false)) (
 tv (plen (.slice 55) (cell x1 2)) fun v4 =>
 tv (pbin (.int .i64) .lss v4 (I 1)) fun v5 =>
 Prg.ite (asBool v5) (
 ret (B false)) (
 tv (plen (.slice 55) (cell x1 2)) fun v6 =>
 tv (pbin (.int .i64) .gtr v6 (I 64)) fun v7 =>
 Prg.ite (asBool v7) (
 ret (B false)) (
 tvs (pidx 14 (cell x1 2) (I 0)) fun e8 =>
 chk (Nat.blt 0 (List.length e8)) (
 Prg.ite (asBool (nth hole e8 0)) (
 ret (B false)) (
 tv (plen (.slice 55) (cell x1 2)) fun v9 =>
 jmp [0,0,1,0,1,1,1,1] (f44_0_S (cell x1 2) v9 (I 0) (cell x0 0) (cell x1 0) (cell x1 1) (cell x1 2))))))))))))
def f44_0  (x0 x1 x2 y3 y4 y5 y6:TV):Prg TV :=
 tv (pbin (.int .i64) .lss x2 x1) fun v10 =>
 Prg.ite (asBool v10) (
 tvs (pidx 14 x0 x2) fun e11 =>
 chk (Nat.ble 14 (List.length e11)) (
 call 58 [agg [y3,y4,y5,y6],agg [nth hole e11 0,nth hole e11 1,nth hole e11 2,nth hole e11 3,nth hole e11 4,nth hole e11 5,nth hole e11 6,nth hole e11 7,nth hole e11 8,nth hole e11 9,nth hole e11 10,nth hole e11 11,nth hole e11 12,nth hole e11 13]] fun v12 =>
 chk (ab au [v12] 0) (
 tv (pun .not v12) fun v13 =>
 Prg.ite (asBool v13) (
 ret (B false)) (
 tv (pbin (.int .i64) .add x2 (I 1)) fun v14 =>
 jmp [0,0,1,0,1,1,1,1] (f44_0_S x0 x1 v14 y3 y4 y5 y6))))) (
 ret (B true))
theorem f44_MR (x0 x1:TV):aw prog 44 [x0,x1]=f44_M x0 x1:=by kernel_rfl
theorem f44_0_J  {x0 x1 x2 y3 y4 y5 y6:TV} {r:TV} (h:aa prog 44 (f44_0 x0 x1 x2 y3 y4 y5 y6) r):aa prog 44 (.jmp [0,0,1,0,1,1,1,1] (f44_0_S x0 x1 x2 y3 y4 y5 y6)) r:=aa.jmp (by kernel_rfl) h
def f45_0_S  (x0 x1 w2 w3 y4 y5 y6 y7 y8 y9 y10 y11 y12 y13 y14 y15 y16 y17:TV):ASt:=⟨[AV.one (CA.sref 0 0 [])] ++ List.replicate 5 (AV.one CA.junk) ++ [AV.one (CA.sref 1 0 []),AV.tv x0,AV.tv x1] ++ List.replicate 7 (AV.one CA.junk),[some (BC.tree [w2]),some (BC.tree [w3]),some (BC.cells [CA.t y4,CA.t y5,CA.t y6,CA.t y7,CA.t y8,CA.t y9,CA.t y10,CA.t y11,CA.t y12,CA.t y13,CA.t y14,CA.t y15,CA.t y16,CA.t y17]),some (BC.cells [CA.sref 0 0 []])] ++ List.replicate 72 (none),([AV.one CA.junk,AV.one CA.junk,AV.one (CA.ptr 2 0),AV.one CA.junk,AV.one CA.junk,AV.one (CA.ptr 3 0)] ++ List.replicate 30 (AV.one CA.junk))⟩
def f45_1_S  (x0 y1 w2:TV):ASt:=⟨[AV.one (CA.yl 0),AV.one (CA.ptr 0 0),AV.one CA.junk,AV.tv x0] ++ List.replicate 15 (AV.one CA.junk),[some (BC.cells [CA.t y1]),some (BC.cells [CA.sref 2 0 []]),some (BC.tree [w2])] ++ List.replicate 76 (none),(List.replicate 5 (AV.one CA.junk) ++ [AV.one (CA.ptr 1 0)] ++ List.replicate 13 (AV.one CA.junk) ++ [AV.clo 72 [CA.ptr 0 0]] ++ List.replicate 16 (AV.one CA.junk))⟩
def f45_2_S  (y0 y1 y2 y3 y4 y5 y6 y7 w8 x9:TV):ASt:=⟨List.replicate 5 (AV.one CA.junk) ++ [AV.one (CA.ptr 0 0),AV.one CA.junk,AV.one (CA.ptr 1 0)] ++ List.replicate 28 (AV.one CA.junk),[some (BC.cells [CA.sref 3 0 []]),some (BC.cells [CA.t y0,CA.t y1,CA.t y2,CA.t y3,CA.t y4,CA.t y5,CA.t y6]),some (BC.cells [CA.t y7]),some (BC.tree [w8])] ++ List.replicate 111 (none),(List.replicate 5 (AV.one CA.junk) ++ [AV.one (CA.ptr 0 0)] ++ List.replicate 13 (AV.one CA.junk) ++ [AV.clo 72 [CA.ptr 2 0]] ++ List.replicate 16 (AV.one CA.junk) ++ [AV.one (CA.yl 0),AV.one (CA.ptr 2 0),AV.one CA.junk,AV.tv x9] ++ List.replicate 15 (AV.one CA.junk))⟩
def f45_3_S  (x0 x1 w2 w3 y4 x5:TV):ASt:=⟨[AV.one (CA.sref 0 0 [])] ++ List.replicate 5 (AV.one CA.junk) ++ [AV.one (CA.sref 1 0 []),AV.tv x0,AV.tv x1] ++ List.replicate 7 (AV.one CA.junk),[some (BC.tree [w2]),some (BC.tree [w3]),some (BC.cells [CA.sref 0 0 []]),some (BC.cells [CA.t y4])] ++ List.replicate 127 (none),(List.replicate 5 (AV.one CA.junk) ++ [AV.one (CA.ptr 2 0)] ++ List.replicate 13 (AV.one CA.junk) ++ [AV.clo 72 [CA.ptr 3 0]] ++ List.replicate 16 (AV.one CA.junk) ++ [AV.one (CA.yl 0),AV.one (CA.ptr 3 0),AV.one CA.junk,AV.tv x5] ++ List.replicate 51 (AV.one CA.junk))⟩
def f45_M (x0 x1:TV):Prg TV :=
 chk (TV.isAgg x0 14) (
 call 59 [x1] fun v0 =>
 chk (ab zSl [v0] 0) (
 call 61 [agg [cell x0 6,cell x0 7,cell x0 8,cell x0 9,cell x0 10,cell x0 11,cell x0 12,cell x0 13]] fun v1 =>
 chk (ab zSl [v1] 0) (
 tv (plen (.slice 3) v1) fun v2 =>
 jmp [0,0,1,10,0,1,1] (f45_0_S v2 (I 0) v0 v1 (cell x0 0) (cell x0 1) (cell x0 2) (cell x0 3) (cell x0 4) (cell x0 5) (cell x0 6) (cell x0 7) (cell x0 8) (cell x0 9) (cell x0 10) (cell x0 11) (cell x0 12) (cell x0 13)))))
def f45_0  (x0 x1 w2 w3 y4 y5 y6 y7 y8 y9 y10 y11 y12 y13 y14 y15 y16 y17:TV):Prg TV :=
 tv (pbin (.int .i64) .lss x1 x0) fun v3 =>
 Prg.ite (asBool v3) (
 nat (slLen w3) fun n4 =>
 nat (aj x1) fun n5 =>
 chk (Bool.and (slSize w3 1) (Nat.blt n5 n4)) (
 tvs (pel w3 n5) fun e6 =>
 chk (ab fo e6 0) (
 nat (slLen w2) fun n7 =>
 nat (aj (nth hole e6 0)) fun n8 =>
 chk (Bool.and (slSize w2 1) (Nat.blt n8 n7)) (
 tvs (pel w2 n8) fun e9 =>
 chk (ab au e9 0) (
 tv (bI [] w2 n8 0 [B true]) fun v10 =>
 tv (pbin (.int .i64) .add x1 (I 1)) fun v11 =>
 jmp [0,0,1,10,0,1,1] (f45_0_S x0 v11 v10 w3 y4 y5 y6 y7 y8 y9 y10 y11 y12 y13 y14 y15 y16 y17)))))) (
 tv (plen (.slice 58) y9) fun v12 =>
 tv (pbin (.int .i64) .sub v12 (I 1)) fun v13 =>
 jmp [0,0,1,72,0,1,0,1,1,1] (f45_1_S v13 y9 w2))
def f45_1  (x0 y1 w2:TV):Prg TV :=
 tv (pbin (.int .i64) .geq x0 (I 0)) fun v14 =>
 Prg.ite (asBool v14) (
 tvs (pidx 7 y1 x0) fun e15 =>
 chk (Nat.ble 7 (List.length e15)) (
 call 63 [agg [nth hole e15 0,nth hole e15 1,nth hole e15 2,nth hole e15 3,nth hole e15 4,nth hole e15 5,nth hole e15 6]] fun v16 =>
 chk (isTup v16 2) (
 chk (ab fo [comp v16 0] 0) (
 chk (ab au [comp v16 1] 0) (
 Prg.ite (asBool (comp v16 1)) (
 nat (slLen w2) fun n17 =>
 nat (aj (comp v16 0)) fun n18 =>
 chk (Bool.and (slSize w2 1) (Nat.blt n18 n17)) (
 tvs (pel w2 n18) fun e19 =>
 chk (ab au e19 0) (
 tv (bI [] w2 n18 0 [B false]) fun v20 =>
 jmp [1,0,2015,0,0,0,1,0,0,1,72,0,1,0,1,1,1] (f45_2_S (nth hole e15 0) (nth hole e15 1) (nth hole e15 2) (nth hole e15 3) (nth hole e15 4) (nth hole e15 5) (nth hole e15 6) y1 v20 x0)))) (
 jmp [1,0,2015,0,0,0,1,0,0,1,72,0,1,0,1,1,1] (f45_2_S (nth hole e15 0) (nth hole e15 1) (nth hole e15 2) (nth hole e15 3) (nth hole e15 4) (nth hole e15 5) (nth hole e15 6) y1 w2 x0))))))) (
 chk (isOwn w2) (
 ret w2))
def f45_2  (y0 y1 y2 y3 y4 y5 y6 y7 w8 x9:TV):Prg TV :=
 call 13 [agg [y0,y1,y2,y3,y4,y5,y6]] fun v21 =>
 chk (ab zSl [v21] 0) (
 tv (plen (.slice 3) v21) fun v22 =>
 jmp [0,0,1,8,1,0,2015,0,0,0,1,0,0,1,72,0,1,0,1,1,1] (f45_3_S v22 (I 0) w8 v21 y7 x9))
def f45_3  (x0 x1 w2 w3 y4 x5:TV):Prg TV :=
 tv (pbin (.int .i64) .lss x1 x0) fun v23 =>
 Prg.ite (asBool v23) (
 nat (slLen w3) fun n24 =>
 nat (aj x1) fun n25 =>
 chk (Bool.and (slSize w3 1) (Nat.blt n25 n24)) (
 tvs (pel w3 n25) fun e26 =>
 chk (ab fo e26 0) (
 nat (slLen w2) fun n27 =>
 nat (aj (nth hole e26 0)) fun n28 =>
 chk (Bool.and (slSize w2 1) (Nat.blt n28 n27)) (
 tvs (pel w2 n28) fun e29 =>
 chk (ab au e29 0) (
 tv (bI [] w2 n28 0 [B true]) fun v30 =>
 tv (pbin (.int .i64) .add x1 (I 1)) fun v31 =>
 jmp [0,0,1,8,1,0,2015,0,0,0,1,0,0,1,72,0,1,0,1,1,1] (f45_3_S x0 v31 v30 w3 y4 x5)))))) (
 tv (pbin (.int .i64) .sub x5 (I 1)) fun v32 =>
 jmp [0,0,1,72,0,1,0,1,1,1] (f45_1_S v32 y4 w2))
theorem f45_MR (x0 x1:TV):aw prog 45 [x0,x1]=f45_M x0 x1:=by kernel_rfl
theorem f45_0_J  {x0 x1 w2 w3 y4 y5 y6 y7 y8 y9 y10 y11 y12 y13 y14 y15 y16 y17:TV} {r:TV} (h:aa prog 45 (f45_0 x0 x1 w2 w3 y4 y5 y6 y7 y8 y9 y10 y11 y12 y13 y14 y15 y16 y17) r):aa prog 45 (.jmp [0,0,1,10,0,1,1] (f45_0_S x0 x1 w2 w3 y4 y5 y6 y7 y8 y9 y10 y11 y12 y13 y14 y15 y16 y17)) r:=aa.jmp (by kernel_rfl) h
theorem f45_1_J  {x0 y1 w2:TV} {r:TV} (h:aa prog 45 (f45_1 x0 y1 w2) r):aa prog 45 (.jmp [0,0,1,72,0,1,0,1,1,1] (f45_1_S x0 y1 w2)) r:=aa.jmp (by kernel_rfl) h
theorem f45_2_J  {y0 y1 y2 y3 y4 y5 y6 y7 w8 x9:TV} {r:TV} (h:aa prog 45 (f45_2 y0 y1 y2 y3 y4 y5 y6 y7 w8 x9) r):aa prog 45 (.jmp [1,0,2015,0,0,0,1,0,0,1,72,0,1,0,1,1,1] (f45_2_S y0 y1 y2 y3 y4 y5 y6 y7 w8 x9)) r:=aa.jmp (by kernel_rfl) h
theorem f45_3_J  {x0 x1 w2 w3 y4 x5:TV} {r:TV} (h:aa prog 45 (f45_3 x0 x1 w2 w3 y4 x5) r):aa prog 45 (.jmp [0,0,1,8,1,0,2015,0,0,0,1,0,0,1,72,0,1,0,1,1,1] (f45_3_S x0 x1 w2 w3 y4 x5)) r:=aa.jmp (by kernel_rfl) h
def f47_0_S  (x0 x1 x2 x3 w4 y5 y6 y7 y8 y9 y10 y11 y12 y13 y14 y15 y16 y17 y18 y19 y20 y21 y22 y23:TV):ASt:=⟨[AV.one CA.junk,AV.one (CA.sref 0 0 []),AV.one CA.junk,AV.tv x0] ++ List.replicate 10 (AV.one CA.junk) ++ [AV.tv x1,AV.tv x2,AV.tv x3] ++ List.replicate 14 (AV.one CA.junk),[some (BC.tree [w4]),some (BC.cells [CA.t y5,CA.t y6,CA.t y7,CA.t y8,CA.t y9]),some (BC.cells [CA.t y10,CA.t y11,CA.t y12,CA.t y13,CA.t y14,CA.t y15,CA.t y16,CA.t y17,CA.t y18,CA.t y19,CA.t y20,CA.t y21,CA.t y22,CA.t y23])] ++ List.replicate 107 (none),([AV.one CA.junk,AV.one CA.junk,AV.one (CA.ptr 1 0),AV.one (CA.ptr 2 0),AV.one CA.junk,AV.one (CA.sref 0 0 [])] ++ List.replicate 49 (AV.one CA.junk))⟩
def f47_1_S  (x0 x1 y2 y3 y4 y5 y6 w7 w8:TV):ASt:=⟨[AV.one CA.junk,AV.one CA.junk,AV.one (CA.ptr 0 0),AV.one CA.junk,AV.one CA.junk,AV.one (CA.sref 1 0 [])] ++ List.replicate 37 (AV.one CA.junk) ++ [AV.one (CA.sref 2 0 []),AV.tv x0,AV.tv x1] ++ List.replicate 9 (AV.one CA.junk),[some (BC.cells [CA.t y2,CA.t y3,CA.t y4,CA.t y5,CA.t y6]),some (BC.tree [w7]),some (BC.tree [w8])] ++ List.replicate 76 (none),[]⟩
def f47_2_S  (x0 x1 x2 x3 w4:TV):ASt:=⟨[AV.one CA.junk,AV.one (CA.sref 0 0 []),AV.one CA.junk,AV.tv x0] ++ List.replicate 10 (AV.one CA.junk) ++ [AV.tv x1,AV.tv x2,AV.tv x3] ++ List.replicate 14 (AV.one CA.junk),[some (BC.tree [w4])] ++ List.replicate 109 (none),(List.replicate 5 (AV.one CA.junk) ++ [AV.one (CA.sref 0 0 [])] ++ List.replicate 49 (AV.one CA.junk))⟩
def f47_3_S  (x0 x1 x2 x3 w4 y5 y6 y7 y8 y9 w10 x11 x12:TV):ASt:=⟨[AV.one CA.junk,AV.one (CA.sref 0 0 []),AV.one CA.junk,AV.tv x0] ++ List.replicate 10 (AV.one CA.junk) ++ [AV.tv x1,AV.tv x2,AV.tv x3] ++ List.replicate 14 (AV.one CA.junk),[some (BC.tree [w4]),some (BC.cells [CA.t y5,CA.t y6,CA.t y7,CA.t y8,CA.t y9]),some (BC.tree [w10])] ++ List.replicate 107 (none),([AV.one CA.junk,AV.one CA.junk,AV.one (CA.ptr 1 0),AV.one CA.junk,AV.one CA.junk,AV.one (CA.sref 0 0 [])] ++ List.replicate 37 (AV.one CA.junk) ++ [AV.one (CA.sref 2 0 []),AV.tv x11,AV.tv x12] ++ List.replicate 9 (AV.one CA.junk))⟩
def f47_M (x0 x1:TV):Prg TV :=
 chk (TV.isAgg x0 5) (
 chk (TV.isAgg x1 14) (
 nat (aj (cell x0 1)) fun n0 =>
 nat (aj (cell x0 1)) fun n1 =>
 chk (Bool.and (Nat.ble n0 n1) (Nat.ble n1 4294967296)) (
 tv (pbin (.int .i64) .eql (cell x1 6) (I 4)) fun v2 =>
 Prg.ite (asBool v2) (
 tvs (pidx 1 (cell x0 3) (cell x1 11)) fun e3 =>
 chk (Nat.blt 0 (List.length e3)) (
 tv (plen (.slice 4) (nth hole e3 0)) fun v4 =>
 jmp [0,0,1,1,18,0,0,1,0,1,1] (f47_0_S (cell x1 8) (nth hole e3 0) v4 (I 0) (TV.sl true 1 (List.replicate n0 [B false])) (cell x0 0) (cell x0 1) (cell x0 2) (cell x0 3) (cell x0 4) (cell x1 0) (cell x1 1) (cell x1 2) (cell x1 3) (cell x1 4) (cell x1 5) (cell x1 6) (cell x1 7) (cell x1 8) (cell x1 9) (cell x1 10) (cell x1 11) (cell x1 12) (cell x1 13)))) (
 call 66 [agg [cell x1 0,cell x1 1,cell x1 2,cell x1 3,cell x1 4,cell x1 5,cell x1 6,cell x1 7,cell x1 8,cell x1 9,cell x1 10,cell x1 11,cell x1 12,cell x1 13]] fun v5 =>
 chk (ab zSl [v5] 0) (
 tv (plen (.slice 3) v5) fun v6 =>
 jmp [0,0,1,0,1,1,1] (f47_1_S v6 (I 0) (cell x0 0) (cell x0 1) (cell x0 2) (cell x0 3) (cell x0 4) (TV.sl true 1 (List.replicate n0 [B false])) v5))))))
def f47_0  (x0 x1 x2 x3 w4 y5 y6 y7 y8 y9 y10 y11 y12 y13 y14 y15 y16 y17 y18 y19 y20 y21 y22 y23:TV):Prg TV :=
 tv (pbin (.int .i64) .lss x3 x2) fun v7 =>
 Prg.ite (asBool v7) (
 tvs (pidx 1 x1 x3) fun e8 =>
 chk (Nat.blt 0 (List.length e8)) (
 Prg.ite (asBool (nth hole e8 0)) (
 tv (pbin (.int .i64) .neq x3 x0) fun v9 =>
 Prg.ite (asBool v9) (
 nat (slLen w4) fun n10 =>
 nat (aj x3) fun n11 =>
 chk (Bool.and (slSize w4 1) (Nat.blt n11 n10)) (
 tvs (pel w4 n11) fun e12 =>
 chk (ab au e12 0) (
 tv (bI [] w4 n11 0 [B true]) fun v13 =>
 tv (pbin (.int .i64) .add x3 (I 1)) fun v14 =>
 jmp [0,0,1,1,18,0,0,1,0,1,1] (f47_0_S x0 x1 x2 v14 v13 y5 y6 y7 y8 y9 y10 y11 y12 y13 y14 y15 y16 y17 y18 y19 y20 y21 y22 y23)))) (
 tv (pbin (.int .i64) .add x3 (I 1)) fun v15 =>
 jmp [0,0,1,1,18,0,0,1,0,1,1] (f47_0_S x0 x1 x2 v15 w4 y5 y6 y7 y8 y9 y10 y11 y12 y13 y14 y15 y16 y17 y18 y19 y20 y21 y22 y23))) (
 tv (pbin (.int .i64) .add x3 (I 1)) fun v16 =>
 jmp [0,0,1,1,18,0,0,1,0,1,1] (f47_0_S x0 x1 x2 v16 w4 y5 y6 y7 y8 y9 y10 y11 y12 y13 y14 y15 y16 y17 y18 y19 y20 y21 y22 y23)))) (
 tvs (pidx 14 y7 y23) fun e17 =>
 chk (Nat.blt 1 (List.length e17)) (
 tvs (pidx 1 y8 y23) fun e18 =>
 chk (Nat.blt 0 (List.length e18)) (
 tv (plen (.slice 4) (nth hole e18 0)) fun v19 =>
 jmp [0,0,1,1,32,0,1,0,1,0,1,1] (f47_2_S (nth hole e17 1) (nth hole e18 0) v19 (I 0) w4))))
def f47_1  (x0 x1 y2 y3 y4 y5 y6 w7 w8:TV):Prg TV :=
 tv (pbin (.int .i64) .lss x1 x0) fun v20 =>
 Prg.ite (asBool v20) (
 nat (slLen w8) fun n21 =>
 nat (aj x1) fun n22 =>
 chk (Bool.and (slSize w8 1) (Nat.blt n22 n21)) (
 tvs (pel w8 n22) fun e23 =>
 chk (ab fo e23 0) (
 tvs (pidx 1 y5 (nth hole e23 0)) fun e24 =>
 chk (Nat.blt 0 (List.length e24)) (
 tv (plen (.slice 4) (nth hole e24 0)) fun v25 =>
 jmp [0,0,1,1,8,1,0,0,1,1,0,0,1,0,1,1,1] (f47_3_S (TV.lit (Value.int IntKind.i64 (-1))) (nth hole e24 0) v25 (I 0) w7 y2 y3 y4 y5 y6 w8 x0 x1))))) (
 chk (isOwn w7) (
 ret w7))
def f47_2  (x0 x1 x2 x3 w4:TV):Prg TV :=
 tv (pbin (.int .i64) .lss x3 x2) fun v26 =>
 Prg.ite (asBool v26) (
 tvs (pidx 1 x1 x3) fun e27 =>
 chk (Nat.blt 0 (List.length e27)) (
 Prg.ite (asBool (nth hole e27 0)) (
 tv (pbin (.int .i64) .neq x3 x0) fun v28 =>
 Prg.ite (asBool v28) (
 nat (slLen w4) fun n29 =>
 nat (aj x3) fun n30 =>
 chk (Bool.and (slSize w4 1) (Nat.blt n30 n29)) (
 tvs (pel w4 n30) fun e31 =>
 chk (ab au e31 0) (
 tv (bI [] w4 n30 0 [B true]) fun v32 =>
 tv (pbin (.int .i64) .add x3 (I 1)) fun v33 =>
 jmp [0,0,1,1,32,0,1,0,1,0,1,1] (f47_2_S x0 x1 x2 v33 v32)))) (
 tv (pbin (.int .i64) .add x3 (I 1)) fun v34 =>
 jmp [0,0,1,1,32,0,1,0,1,0,1,1] (f47_2_S x0 x1 x2 v34 w4))) (
 tv (pbin (.int .i64) .add x3 (I 1)) fun v35 =>
 jmp [0,0,1,1,32,0,1,0,1,0,1,1] (f47_2_S x0 x1 x2 v35 w4)))) (
 chk (isOwn w4) (
 ret w4))
def f47_3  (x0 x1 x2 x3 w4 y5 y6 y7 y8 y9 w10 x11 x12:TV):Prg TV :=
 tv (pbin (.int .i64) .lss x3 x2) fun v36 =>
 Prg.ite (asBool v36) (
 tvs (pidx 1 x1 x3) fun e37 =>
 chk (Nat.blt 0 (List.length e37)) (
 Prg.ite (asBool (nth hole e37 0)) (
 tv (pbin (.int .i64) .neq x3 x0) fun v38 =>
 Prg.ite (asBool v38) (
 nat (slLen w4) fun n39 =>
 nat (aj x3) fun n40 =>
 chk (Bool.and (slSize w4 1) (Nat.blt n40 n39)) (
 tvs (pel w4 n40) fun e41 =>
 chk (ab au e41 0) (
 tv (bI [] w4 n40 0 [B true]) fun v42 =>
 tv (pbin (.int .i64) .add x3 (I 1)) fun v43 =>
 jmp [0,0,1,1,8,1,0,0,1,1,0,0,1,0,1,1,1] (f47_3_S x0 x1 x2 v43 v42 y5 y6 y7 y8 y9 w10 x11 x12)))) (
 tv (pbin (.int .i64) .add x3 (I 1)) fun v44 =>
 jmp [0,0,1,1,8,1,0,0,1,1,0,0,1,0,1,1,1] (f47_3_S x0 x1 x2 v44 w4 y5 y6 y7 y8 y9 w10 x11 x12))) (
 tv (pbin (.int .i64) .add x3 (I 1)) fun v45 =>
 jmp [0,0,1,1,8,1,0,0,1,1,0,0,1,0,1,1,1] (f47_3_S x0 x1 x2 v45 w4 y5 y6 y7 y8 y9 w10 x11 x12)))) (
 tv (pbin (.int .i64) .add x12 (I 1)) fun v46 =>
 jmp [0,0,1,0,1,1,1] (f47_1_S x11 v46 y5 y6 y7 y8 y9 w4 w10))
theorem f47_MR (x0 x1:TV):aw prog 47 [x0,x1]=f47_M x0 x1:=by kernel_rfl
theorem f47_0_J  {x0 x1 x2 x3 w4 y5 y6 y7 y8 y9 y10 y11 y12 y13 y14 y15 y16 y17 y18 y19 y20 y21 y22 y23:TV} {r:TV} (h:aa prog 47 (f47_0 x0 x1 x2 x3 w4 y5 y6 y7 y8 y9 y10 y11 y12 y13 y14 y15 y16 y17 y18 y19 y20 y21 y22 y23) r):aa prog 47 (.jmp [0,0,1,1,18,0,0,1,0,1,1] (f47_0_S x0 x1 x2 x3 w4 y5 y6 y7 y8 y9 y10 y11 y12 y13 y14 y15 y16 y17 y18 y19 y20 y21 y22 y23)) r:=aa.jmp (by kernel_rfl) h
theorem f47_1_J  {x0 x1 y2 y3 y4 y5 y6 w7 w8:TV} {r:TV} (h:aa prog 47 (f47_1 x0 x1 y2 y3 y4 y5 y6 w7 w8) r):aa prog 47 (.jmp [0,0,1,0,1,1,1] (f47_1_S x0 x1 y2 y3 y4 y5 y6 w7 w8)) r:=aa.jmp (by kernel_rfl) h
theorem f47_2_J  {x0 x1 x2 x3 w4:TV} {r:TV} (h:aa prog 47 (f47_2 x0 x1 x2 x3 w4) r):aa prog 47 (.jmp [0,0,1,1,32,0,1,0,1,0,1,1] (f47_2_S x0 x1 x2 x3 w4)) r:=aa.jmp (by kernel_rfl) h
theorem f47_3_J  {x0 x1 x2 x3 w4 y5 y6 y7 y8 y9 w10 x11 x12:TV} {r:TV} (h:aa prog 47 (f47_3 x0 x1 x2 x3 w4 y5 y6 y7 y8 y9 w10 x11 x12) r):aa prog 47 (.jmp [0,0,1,1,8,1,0,0,1,1,0,0,1,0,1,1,1] (f47_3_S x0 x1 x2 x3 w4 y5 y6 y7 y8 y9 w10 x11 x12)) r:=aa.jmp (by kernel_rfl) h
def f48_0_S  (x0 x1 x2 x3:TV):ASt:=⟨[AV.tv x0,AV.tv x1] ++ List.replicate 10 (AV.one CA.junk) ++ [AV.tv x2,AV.tv x3] ++ List.replicate 12 (AV.one CA.junk),List.replicate 50 (none),[]⟩
def f48_M (x0 x1:TV):Prg TV :=
 tv (plen (.slice 4) x0) fun v0 =>
 tv (plen (.slice 4) x1) fun v1 =>
 tv (pbin (.int .i64) .neq v0 v1) fun v2 =>
 Prg.ite (asBool v2) (
 ret (B false)) (
 tv (plen (.slice 4) x0) fun v3 =>
 jmp [0,0,1,0,1,1] (f48_0_S x0 x1 v3 (I 0)))
def f48_0  (x0 x1 x2 x3:TV):Prg TV :=
 tv (pbin (.int .i64) .lss x3 x2) fun v4 =>
 Prg.ite (asBool v4) (
 tvs (pidx 1 x0 x3) fun e5 =>
 chk (Nat.blt 0 (List.length e5)) (
 tvs (pidx 1 x1 x3) fun e6 =>
 chk (Nat.blt 0 (List.length e6)) (
 tv (pbin Kd.bool .neq (nth hole e5 0) (nth hole e6 0)) fun v7 =>
 Prg.ite (asBool v7) (
 ret (B false)) (
 tv (pbin (.int .i64) .add x3 (I 1)) fun v8 =>
 jmp [0,0,1,0,1,1] (f48_0_S x0 x1 x2 v8))))) (
 ret (B true))
theorem f48_MR (x0 x1:TV):aw prog 48 [x0,x1]=f48_M x0 x1:=by kernel_rfl
theorem f48_0_J  {x0 x1 x2 x3:TV} {r:TV} (h:aa prog 48 (f48_0 x0 x1 x2 x3) r):aa prog 48 (.jmp [0,0,1,0,1,1] (f48_0_S x0 x1 x2 x3)) r:=aa.jmp (by kernel_rfl) h
def f51_M (x0 x1:TV):Prg TV :=
 chk (TV.isAgg x0 5) (
 chk (TV.isAgg x1 7) (
 call 53 [agg [cell x0 0,cell x0 1,cell x0 2,cell x0 3,cell x0 4]] fun v0 =>
 chk (Bool.and (TV.isAgg v0 5) (ab z37 (cellsL true v0) 0)) (
 call 67 [frz (cell v0 3),agg [cell x1 0,cell x1 1,cell x1 2,cell x1 3,cell x1 4,cell x1 5,cell x1 6]] fun v1 =>
 chk (isTup v1 2) (
 chk (ab cU [comp v1 0] 0) (
 chk (ab au [comp v1 1] 0) (
 tv (pun .not (comp v1 1)) fun v2 =>
 Prg.ite (asBool v2) (
 chk (aV [agg [cell v0 0,cell v0 1,cell v0 2,cell v0 3,cell v0 4],B false]) (
 ret (tup [agg [cell v0 0,cell v0 1,cell v0 2,cell v0 3,cell v0 4],B false]))) (
 tv (plen (.slice 29) (cell v0 3)) fun v3 =>
 call 34 [v3,cell x1 1] fun v4 =>
 chk (ab au [v4] 0) (
 tv (pun .not v4) fun v5 =>
 Prg.ite (asBool v5) (
 chk (aV [agg [cell v0 0,cell v0 1,cell v0 2,cell v0 3,cell v0 4],B false]) (
 ret (tup [agg [cell v0 0,cell v0 1,cell v0 2,cell v0 3,cell v0 4],B false]))) (
 nat (slLen (cell v0 3)) fun n6 =>
 nat (aj (cell x1 1)) fun n7 =>
 chk (Bool.and (slSize (cell v0 3) 1) (Nat.blt n7 n6)) (
 tvs (pel (cell v0 3) n7) fun e8 =>
 chk (ab cU e8 0) (
 tv (bI [] (cell v0 3) n7 0 [comp v1 0]) fun v9 =>
 tv (pbin (.int .i64) .add (cell v0 2) (I 1)) fun v10 =>
 chk (aV [agg [cell v0 0,cell v0 1,v10,v9,cell v0 4],B true]) (
 ret (tup [agg [cell v0 0,cell v0 1,v10,v9,cell v0 4],B true])))))))))))))
theorem f51_MR (x0 x1:TV):aw prog 51 [x0,x1]=f51_M x0 x1:=by kernel_rfl
def f53_M (x0:TV):Prg TV :=
 chk (TV.isAgg x0 5) (
 call 19 [cell x0 3] fun v0 =>
 chk (ab zSl [v0] 0) (
 chk (isOwn (agg [cell x0 0,cell x0 1,cell x0 2,v0,cell x0 4])) (
 ret (agg [cell x0 0,cell x0 1,cell x0 2,v0,cell x0 4]))))
theorem f53_MR (x0:TV):aw prog 53 [x0]=f53_M x0:=by kernel_rfl
def f56_M (x0 x1:TV):Prg TV :=
 chk (TV.isAgg x0 4) (
 Prg.ite (asBool (cell x0 2)) (
 ret (B true)) (
 call 68 [cell x0 1,x1] fun v0 =>
 chk (ab au [v0] 0) (
 ret v0)))
theorem f56_MR (x0 x1:TV):aw prog 56 [x0,x1]=f56_M x0 x1:=by kernel_rfl
def f58_0_S  (x0 x1 x2 y3 y4 y5 y6 y7 y8 y9 y10 y11 y12 y13 y14 y15 y16 y17 y18 y19 y20:TV):ASt:=⟨[AV.one CA.junk,AV.one CA.junk,AV.one (CA.ptr 0 0),AV.one (CA.ptr 1 0)] ++ List.replicate 17 (AV.one CA.junk) ++ [AV.tv x0,AV.tv x1,AV.tv x2] ++ List.replicate 12 (AV.one CA.junk),[some (BC.cells [CA.t y3,CA.t y4,CA.t y5,CA.t y6]),some (BC.cells [CA.t y7,CA.t y8,CA.t y9,CA.t y10,CA.t y11,CA.t y12,CA.t y13,CA.t y14,CA.t y15,CA.t y16,CA.t y17,CA.t y18,CA.t y19,CA.t y20])] ++ List.replicate 58 (none),[]⟩
def f58_1_S  (y0 y1 y2 y3 y4 y5 y6 y7 y8 y9 y10 y11 y12 y13 y14 y15 y16 y17:TV):ASt:=⟨[AV.one CA.junk,AV.one CA.junk,AV.one (CA.ptr 0 0),AV.one (CA.ptr 1 0)] ++ List.replicate 32 (AV.one CA.junk),[some (BC.cells [CA.t y0,CA.t y1,CA.t y2,CA.t y3]),some (BC.cells [CA.t y4,CA.t y5,CA.t y6,CA.t y7,CA.t y8,CA.t y9,CA.t y10,CA.t y11,CA.t y12,CA.t y13,CA.t y14,CA.t y15,CA.t y16,CA.t y17])] ++ List.replicate 58 (none),[]⟩
def f58_M (x0 x1:TV):Prg TV :=
 chk (TV.isAgg x0 4) (
 chk (TV.isAgg x1 14) (
 tv (plen (.slice 58) (cell x1 5)) fun v0 =>
 tv (pbin (.int .i64) .gtr v0 (I 64)) fun v1 =>
 Prg.ite (asBool v1) (
 ret (B false)) (
 call 69 [agg [cell x0 0,cell x0 1,cell x0 2,cell x0 3],cell x1 0,agg [cell x1 1,cell x1 2,cell x1 3,cell x1 4]] fun v2 =>
 chk (ab au [v2] 0) (
 tv (pun .not v2) fun v3 =>
 Prg.ite (asBool v3) (
 ret (B false)) (
 tv (plen (.slice 58) (cell x1 5)) fun v4 =>
 jmp [0,0,1,0,1,1] (f58_0_S (cell x1 5) v4 (I 0) (cell x0 0) (cell x0 1) (cell x0 2) (cell x0 3) (cell x1 0) (cell x1 1) (cell x1 2) (cell x1 3) (cell x1 4) (cell x1 5) (cell x1 6) (cell x1 7) (cell x1 8) (cell x1 9) (cell x1 10) (cell x1 11) (cell x1 12) (cell x1 13)))))))
def f58_0  (x0 x1 x2 y3 y4 y5 y6 y7 y8 y9 y10 y11 y12 y13 y14 y15 y16 y17 y18 y19 y20:TV):Prg TV :=
 tv (pbin (.int .i64) .lss x2 x1) fun v5 =>
 Prg.ite (asBool v5) (
 tvs (pidx 7 x0 x2) fun e6 =>
 chk (Nat.ble 7 (List.length e6)) (
 call 70 [agg [y3,y4,y5,y6],agg [nth hole e6 0,nth hole e6 1,nth hole e6 2,nth hole e6 3,nth hole e6 4,nth hole e6 5,nth hole e6 6]] fun v7 =>
 chk (ab au [v7] 0) (
 tv (pun .not v7) fun v8 =>
 Prg.ite (asBool v8) (
 ret (B false)) (
 tv (pbin (.int .i64) .add x2 (I 1)) fun v9 =>
 jmp [0,0,1,0,1,1] (f58_0_S x0 x1 v9 y3 y4 y5 y6 y7 y8 y9 y10 y11 y12 y13 y14 y15 y16 y17 y18 y19 y20))))) (
 jmp [1,1,1] (f58_1_S y3 y4 y5 y6 y7 y8 y9 y10 y11 y12 y13 y14 y15 y16 y17 y18 y19 y20))
def f58_1  (y0 y1 y2 y3 y4 y5 y6 y7 y8 y9 y10 y11 y12 y13 y14 y15 y16 y17:TV):Prg TV :=
 call 71 [agg [y0,y1,y2,y3],agg [y10,y11,y12,y13,y14,y15,y16,y17]] fun v10 =>
 chk (ab au [v10] 0) (
 ret v10)
theorem f58_MR (x0 x1:TV):aw prog 58 [x0,x1]=f58_M x0 x1:=by kernel_rfl
theorem f58_0_J  {x0 x1 x2 y3 y4 y5 y6 y7 y8 y9 y10 y11 y12 y13 y14 y15 y16 y17 y18 y19 y20:TV} {r:TV} (h:aa prog 58 (f58_0 x0 x1 x2 y3 y4 y5 y6 y7 y8 y9 y10 y11 y12 y13 y14 y15 y16 y17 y18 y19 y20) r):aa prog 58 (.jmp [0,0,1,0,1,1] (f58_0_S x0 x1 x2 y3 y4 y5 y6 y7 y8 y9 y10 y11 y12 y13 y14 y15 y16 y17 y18 y19 y20)) r:=aa.jmp (by kernel_rfl) h
theorem f58_1_J  {y0 y1 y2 y3 y4 y5 y6 y7 y8 y9 y10 y11 y12 y13 y14 y15 y16 y17:TV} {r:TV} (h:aa prog 58 (f58_1 y0 y1 y2 y3 y4 y5 y6 y7 y8 y9 y10 y11 y12 y13 y14 y15 y16 y17) r):aa prog 58 (.jmp [1,1,1] (f58_1_S y0 y1 y2 y3 y4 y5 y6 y7 y8 y9 y10 y11 y12 y13 y14 y15 y16 y17)) r:=aa.jmp (by kernel_rfl) h
def f59_M (x0:TV):Prg TV :=
 tv (pbin (.slice 4) .eql x0 (TV.lit aI)) fun v0 =>
 Prg.ite (asBool v0) (
 chk true (
 ret (TV.lit aI))) (
 tv (plen (.slice 4) x0) fun v1 =>
 nat (aj v1) fun n2 =>
 nat (aj v1) fun n3 =>
 chk (Bool.and (Nat.ble n2 n3) (Nat.ble n3 4294967296)) (
 rws (pelems 1 x0) fun r4 =>
 tv (pcopy 1 (TV.sl true 1 (List.replicate n2 [B false])) r4) fun v5 =>
 nat (slLen (TV.sl true 1 (List.replicate n2 [B false]))) fun n6 =>
 chk (isOwn v5) (
 ret v5)))
theorem f59_MR (x0:TV):aw prog 59 [x0]=f59_M x0:=by kernel_rfl
def f61_0_S  (x0 x1 y2 y3 y4 y5 y6 y7 y8 y9:TV):ASt:=⟨[AV.one CA.junk,AV.one (CA.ptr 0 0),AV.one CA.junk,AV.one CA.junk,AV.tv x0,AV.tv x1] ++ List.replicate 11 (AV.one CA.junk),[some (BC.cells [CA.t y2,CA.t y3,CA.t y4,CA.t y5,CA.t y6,CA.t y7,CA.t y8,CA.t y9])] ++ List.replicate 40 (none),[]⟩
def f61_M (x0:TV):Prg TV :=
 chk (TV.isAgg x0 8) (
 tv (pbin (.int .i64) .eql (cell x0 0) (I 1)) fun v0 =>
 Prg.ite (asBool v0) (
 jmp [1,0,1,0,1] (f61_0_S (cell x0 0) v0 (cell x0 0) (cell x0 1) (cell x0 2) (cell x0 3) (cell x0 4) (cell x0 5) (cell x0 6) (cell x0 7))) (
 tv (pbin (.int .i64) .eql (cell x0 0) (I 3)) fun v1 =>
 Prg.ite (asBool v1) (
 jmp [1,0,1,0,1] (f61_0_S (cell x0 0) v1 (cell x0 0) (cell x0 1) (cell x0 2) (cell x0 3) (cell x0 4) (cell x0 5) (cell x0 6) (cell x0 7))) (
 tv (pbin (.int .i64) .eql (cell x0 0) (I 5)) fun v2 =>
 jmp [1,0,1,0,1] (f61_0_S (cell x0 0) v2 (cell x0 0) (cell x0 1) (cell x0 2) (cell x0 3) (cell x0 4) (cell x0 5) (cell x0 6) (cell x0 7)))))
def f61_0  (x0 x1 y2 y3 y4 y5 y6 y7 y8 y9:TV):Prg TV :=
 Prg.ite (asBool x1) (
 chk (isOwn (TV.sl true 1 (chunks 1 1 [y3]))) (
 ret (TV.sl true 1 (chunks 1 1 [y3])))) (
 tv (pbin (.int .i64) .eql x0 (I 4)) fun v3 =>
 Prg.ite (asBool v3) (
 call 20 [y6] fun v4 =>
 chk (ab zSl [v4] 0) (
 chk (isOwn v4) (
 ret v4))) (
 chk true (
 ret (TV.lit aI))))
theorem f61_MR (x0:TV):aw prog 61 [x0]=f61_M x0:=by kernel_rfl
theorem f61_0_J  {x0 x1 y2 y3 y4 y5 y6 y7 y8 y9:TV} {r:TV} (h:aa prog 61 (f61_0 x0 x1 y2 y3 y4 y5 y6 y7 y8 y9) r):aa prog 61 (.jmp [1,0,1,0,1] (f61_0_S x0 x1 y2 y3 y4 y5 y6 y7 y8 y9)) r:=aa.jmp (by kernel_rfl) h
def f63_0_S  (x0 y1 y2 y3 y4 y5 y6 y7:TV):ASt:=⟨[AV.one CA.junk,AV.one (CA.ptr 0 0)] ++ List.replicate 4 (AV.one CA.junk) ++ [AV.tv x0] ++ List.replicate 13 (AV.one CA.junk),[some (BC.cells [CA.t y1,CA.t y2,CA.t y3,CA.t y4,CA.t y5,CA.t y6,CA.t y7])] ++ List.replicate 43 (none),[]⟩
def f63_M (x0:TV):Prg TV :=
 chk (TV.isAgg x0 7) (
 tv (pbin (.int .i64) .eql (cell x0 0) (I 1)) fun v0 =>
 Prg.ite (asBool v0) (
 jmp [1,0,1,0,1] (f63_0_S v0 (cell x0 0) (cell x0 1) (cell x0 2) (cell x0 3) (cell x0 4) (cell x0 5) (cell x0 6))) (
 tv (pbin (.int .i64) .eql (cell x0 0) (I 2)) fun v1 =>
 Prg.ite (asBool v1) (
 jmp [1,0,1,0,1] (f63_0_S v1 (cell x0 0) (cell x0 1) (cell x0 2) (cell x0 3) (cell x0 4) (cell x0 5) (cell x0 6))) (
 tv (pbin (.int .i64) .eql (cell x0 0) (I 3)) fun v2 =>
 Prg.ite (asBool v2) (
 jmp [1,0,1,0,1] (f63_0_S v2 (cell x0 0) (cell x0 1) (cell x0 2) (cell x0 3) (cell x0 4) (cell x0 5) (cell x0 6))) (
 tv (pbin (.int .i64) .eql (cell x0 0) (I 4)) fun v3 =>
 Prg.ite (asBool v3) (
 jmp [1,0,1,0,1] (f63_0_S v3 (cell x0 0) (cell x0 1) (cell x0 2) (cell x0 3) (cell x0 4) (cell x0 5) (cell x0 6))) (
 tv (pbin (.int .i64) .eql (cell x0 0) (I 5)) fun v4 =>
 Prg.ite (asBool v4) (
 jmp [1,0,1,0,1] (f63_0_S v4 (cell x0 0) (cell x0 1) (cell x0 2) (cell x0 3) (cell x0 4) (cell x0 5) (cell x0 6))) (
 tv (pbin (.int .i64) .eql (cell x0 0) (I 6)) fun v5 =>
 Prg.ite (asBool v5) (
 jmp [1,0,1,0,1] (f63_0_S v5 (cell x0 0) (cell x0 1) (cell x0 2) (cell x0 3) (cell x0 4) (cell x0 5) (cell x0 6))) (
 tv (pbin (.int .i64) .eql (cell x0 0) (I 7)) fun v6 =>
 Prg.ite (asBool v6) (
 jmp [1,0,1,0,1] (f63_0_S v6 (cell x0 0) (cell x0 1) (cell x0 2) (cell x0 3) (cell x0 4) (cell x0 5) (cell x0 6))) (
 tv (pbin (.int .i64) .eql (cell x0 0) (I 8)) fun v7 =>
 Prg.ite (asBool v7) (
 jmp [1,0,1,0,1] (f63_0_S v7 (cell x0 0) (cell x0 1) (cell x0 2) (cell x0 3) (cell x0 4) (cell x0 5) (cell x0 6))) (
 tv (pbin (.int .i64) .eql (cell x0 0) (I 9)) fun v8 =>
 Prg.ite (asBool v8) (
 jmp [1,0,1,0,1] (f63_0_S v8 (cell x0 0) (cell x0 1) (cell x0 2) (cell x0 3) (cell x0 4) (cell x0 5) (cell x0 6))) (
 tv (pbin (.int .i64) .eql (cell x0 0) (I 11)) fun v9 =>
 Prg.ite (asBool v9) (
 jmp [1,0,1,0,1] (f63_0_S v9 (cell x0 0) (cell x0 1) (cell x0 2) (cell x0 3) (cell x0 4) (cell x0 5) (cell x0 6))) (
 tv (pbin (.int .i64) .eql (cell x0 0) (I 13)) fun v10 =>
 jmp [1,0,1,0,1] (f63_0_S v10 (cell x0 0) (cell x0 1) (cell x0 2) (cell x0 3) (cell x0 4) (cell x0 5) (cell x0 6)))))))))))))
def f63_0  (x0 y1 y2 y3 y4 y5 y6 y7:TV):Prg TV :=
 Prg.ite (asBool x0) (
 ret (tup [y2,B true])) (
 ret (tup [I 0,B false]))
theorem f63_MR (x0:TV):aw prog 63 [x0]=f63_M x0:=by kernel_rfl
theorem f63_0_J  {x0 y1 y2 y3 y4 y5 y6 y7:TV} {r:TV} (h:aa prog 63 (f63_0 x0 y1 y2 y3 y4 y5 y6 y7) r):aa prog 63 (.jmp [1,0,1,0,1] (f63_0_S x0 y1 y2 y3 y4 y5 y6 y7)) r:=aa.jmp (by kernel_rfl) h
def f66_0_S  (x0 y1 y2 y3 y4 y5 y6 y7 y8 y9 y10 y11 y12 y13 y14 w15:TV):ASt:=⟨[AV.one CA.junk,AV.one (CA.ptr 0 0),AV.one CA.junk,AV.one CA.junk,AV.one (CA.sref 1 0 [])] ++ List.replicate 13 (AV.one CA.junk) ++ [AV.tv x0] ++ List.replicate 7 (AV.one CA.junk),[some (BC.cells [CA.t y1,CA.t y2,CA.t y3,CA.t y4,CA.t y5,CA.t y6,CA.t y7,CA.t y8,CA.t y9,CA.t y10,CA.t y11,CA.t y12,CA.t y13,CA.t y14]),some (BC.tree [w15])] ++ List.replicate 48 (none),[]⟩
def f66_M (x0:TV):Prg TV :=
 chk (TV.isAgg x0 14) (
 call 73 [cell x0 6] fun v0 =>
 chk (ab fo [v0] 0) (
 call 74 [v0,I 64] fun v1 =>
 chk (ab au [v1] 0) (
 Prg.ite (asBool v1) (
 rws (pelems 1 (TV.sl true 1 (chunks 1 1 [cell x0 11]))) fun r2 =>
 tv (papp 1 (TV.lit aI) (vF r2)) fun v3 =>
 call 74 [v0,I 128] fun v4 =>
 chk (ab au [v4] 0) (
 jmp [1,0,1,1,1,1] (f66_0_S v4 (cell x0 0) (cell x0 1) (cell x0 2) (cell x0 3) (cell x0 4) (cell x0 5) (cell x0 6) (cell x0 7) (cell x0 8) (cell x0 9) (cell x0 10) (cell x0 11) (cell x0 12) (cell x0 13) v3))) (
 call 74 [v0,I 128] fun v5 =>
 chk (ab au [v5] 0) (
 chk true (
 jmp [1,0,1,1,1,1] (f66_0_S v5 (cell x0 0) (cell x0 1) (cell x0 2) (cell x0 3) (cell x0 4) (cell x0 5) (cell x0 6) (cell x0 7) (cell x0 8) (cell x0 9) (cell x0 10) (cell x0 11) (cell x0 12) (cell x0 13) (TV.lit aI))))))))
def f66_0  (x0 y1 y2 y3 y4 y5 y6 y7 y8 y9 y10 y11 y12 y13 y14 w15:TV):Prg TV :=
 Prg.ite (asBool x0) (
 rws (pelems 1 (TV.sl true 1 (chunks 1 1 [y13]))) fun r6 =>
 tv (papp 1 w15 (vF r6)) fun v7 =>
 chk (isOwn v7) (
 ret v7)) (
 chk (isOwn w15) (
 ret w15))
theorem f66_MR (x0:TV):aw prog 66 [x0]=f66_M x0:=by kernel_rfl
theorem f66_0_J  {x0 y1 y2 y3 y4 y5 y6 y7 y8 y9 y10 y11 y12 y13 y14 w15:TV} {r:TV} (h:aa prog 66 (f66_0 x0 y1 y2 y3 y4 y5 y6 y7 y8 y9 y10 y11 y12 y13 y14 w15) r):aa prog 66 (.jmp [1,0,1,1,1,1] (f66_0_S x0 y1 y2 y3 y4 y5 y6 y7 y8 y9 y10 y11 y12 y13 y14 w15)) r:=aa.jmp (by kernel_rfl) h
def f67_M (x0 x1:TV):Prg TV :=
 chk (TV.isAgg x1 7) (
 tv (pbin (.int .i64) .eql (cell x1 0) (I 1)) fun v0 =>
 Prg.ite (asBool v0) (
 ret (tup [cell x1 4,B true])) (
 tv (plen (.slice 29) x0) fun v1 =>
 call 34 [v1,cell x1 2] fun v2 =>
 chk (ab au [v2] 0) (
 tv (pun .not v2) fun v3 =>
 Prg.ite (asBool v3) (
 ret (tup [W 0,B false])) (
 tvs (pidx 1 x0 (cell x1 2)) fun e4 =>
 chk (Nat.blt 0 (List.length e4)) (
 call 75 [cell x1 0] fun v5 =>
 chk (ab au [v5] 0) (
 tv (pun .not v5) fun v6 =>
 Prg.ite (asBool v6) (
 call 76 [cell x1 0,nth hole e4 0,W 0] fun v7 =>
 chk (isTup v7 2) (
 chk (ab cU [comp v7 0] 0) (
 chk (ab au [comp v7 1] 0) (
 ret (tup [comp v7 0,comp v7 1]))))) (
 tv (plen (.slice 29) x0) fun v8 =>
 call 34 [v8,cell x1 3] fun v9 =>
 chk (ab au [v9] 0) (
 tv (pun .not v9) fun v10 =>
 Prg.ite (asBool v10) (
 ret (tup [W 0,B false])) (
 tvs (pidx 1 x0 (cell x1 3)) fun e11 =>
 chk (Nat.blt 0 (List.length e11)) (
 call 76 [cell x1 0,nth hole e4 0,nth hole e11 0] fun v12 =>
 chk (isTup v12 2) (
 chk (ab cU [comp v12 0] 0) (
 chk (ab au [comp v12 1] 0) (
 ret (tup [comp v12 0,comp v12 1]))))))))))))))
theorem f67_MR (x0 x1:TV):aw prog 67 [x0,x1]=f67_M x0 x1:=by kernel_rfl
def f68_M (x0 x1:TV):Prg TV :=
 call 77 [x0,x1] fun v0 =>
 chk (ab fo [v0] 0) (
 tv (pbin (.int .i64) .geq v0 (I 0)) fun v1 =>
 ret v1)
theorem f68_MR (x0 x1:TV):aw prog 68 [x0,x1]=f68_M x0 x1:=by kernel_rfl
def f69_M (x0 x1 x2:TV):Prg TV :=
 chk (TV.isAgg x0 4) (
 chk (TV.isAgg x2 4) (
 tv (pun .not x1) fun v0 =>
 Prg.ite (asBool v0) (
 tv (pbin (.int .i64) .eql (cell x2 0) (I 0)) fun v1 =>
 Prg.ite (asBool v1) (
 tv (plen (.slice 29) (cell x2 1)) fun v2 =>
 tv (pbin (.int .i64) .eql v2 (I 0)) fun v3 =>
 Prg.ite (asBool v3) (
 tv (pun .not (cell x2 2)) fun v4 =>
 Prg.ite (asBool v4) (
 tv (pun .not (cell x2 3)) fun v5 =>
 ret v5) (
 ret (B false))) (
 ret (B false))) (
 ret (B false))) (
 call 78 [agg [cell x0 0,cell x0 1,cell x0 2,cell x0 3],B true,cell x2 0] fun v6 =>
 chk (ab au [v6] 0) (
 Prg.ite (asBool v6) (
 tv (plen (.slice 29) (cell x2 1)) fun v7 =>
 tv (pbin (.int .i64) .leq v7 (I 8)) fun v8 =>
 Prg.ite (asBool v8) (
 call 79 [cell x2 1] fun v9 =>
 chk (ab au [v9] 0) (
 Prg.ite (asBool v9) (
 tv (plen (.slice 29) (cell x2 1)) fun v10 =>
 tv (pbin (.int .i64) .gtr v10 (I 0)) fun v11 =>
 Prg.ite (asBool v11) (
 ret (B true)) (
 Prg.ite (asBool (cell x2 2)) (
 ret (B true)) (
 ret (cell x2 3)))) (
 ret (B false)))) (
 ret (B false))) (
 ret (B false))))))
theorem f69_MR (x0 x1 x2:TV):aw prog 69 [x0,x1,x2]=f69_M x0 x1 x2:=by kernel_rfl
def f70_M (x0 x1:TV):Prg TV :=
 chk (TV.isAgg x0 4) (
 chk (TV.isAgg x1 7) (
 call 80 [cell x1 0] fun v0 =>
 chk (ab fo [v0] 0) (
 call 74 [v0,I 1] fun v1 =>
 chk (ab au [v1] 0) (
 Prg.ite (asBool v1) (
 call 74 [v0,I 2] fun v2 =>
 chk (ab au [v2] 0) (
 call 78 [agg [cell x0 0,cell x0 1,cell x0 2,cell x0 3],v2,cell x1 1] fun v3 =>
 chk (ab au [v3] 0) (
 Prg.ite (asBool v3) (
 call 74 [v0,I 4] fun v4 =>
 chk (ab au [v4] 0) (
 call 78 [agg [cell x0 0,cell x0 1,cell x0 2,cell x0 3],v4,cell x1 2] fun v5 =>
 chk (ab au [v5] 0) (
 Prg.ite (asBool v5) (
 call 74 [v0,I 8] fun v6 =>
 chk (ab au [v6] 0) (
 call 78 [agg [cell x0 0,cell x0 1,cell x0 2,cell x0 3],v6,cell x1 3] fun v7 =>
 chk (ab au [v7] 0) (
 Prg.ite (asBool v7) (
 call 74 [v0,I 16] fun v8 =>
 chk (ab au [v8] 0) (
 Prg.ite (asBool v8) (
 call 74 [v0,I 32] fun v9 =>
 chk (ab au [v9] 0) (
 call 81 [agg [cell x0 0,cell x0 1,cell x0 2,cell x0 3],v9,cell x1 5,cell x1 6] fun v10 =>
 chk (ab au [v10] 0) (
 ret v10))) (
 tv (pbin (.int .u16) .eql (cell x1 4) (W 0)) fun v11 =>
 Prg.ite (asBool v11) (
 call 74 [v0,I 32] fun v12 =>
 chk (ab au [v12] 0) (
 call 81 [agg [cell x0 0,cell x0 1,cell x0 2,cell x0 3],v12,cell x1 5,cell x1 6] fun v13 =>
 chk (ab au [v13] 0) (
 ret v13))) (
 ret (B false))))) (
 ret (B false))))) (
 ret (B false))))) (
 ret (B false))))) (
 ret (B false))))))
theorem f70_MR (x0 x1:TV):aw prog 70 [x0,x1]=f70_M x0 x1:=by kernel_rfl
end Go.Ab.A10

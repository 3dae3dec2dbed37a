import Derived.Test.YtdfmiamebejhoaaHT12T
set_option linter.all false
set_option maxRecDepth 100000
namespace Go.Ab.T12
open Go Go.Ab Go.Proofs
open Go.Ab.TV (hole cell comp isSl isSc isTup cellsL tup agg)
open Go.Ab.Prg (tv tvs rws nat chk call jmp ret)
def f10_0_S  (x0 y1 w2 w3:TV):ASt:=⟨[AV.one CA.junk,AV.one CA.junk,AV.one (CA.ptr 0 0),AV.one (CA.ptr 1 0),AV.one CA.junk,AV.one (CA.ptr 2 0),AV.tv x0] ++ List.replicate 34 (AV.one CA.junk),[some (BC.cells [CA.t y1]),some (BC.cells [CA.fn1 35 3]),some (BC.cells [CA.sref 4 0 []]),some (BC.cells [CA.sref 5 0 []]),some (BC.tree [w2]),some (BC.tree [w3])] ++ List.replicate 66 (none),List.replicate 7 (AV.one CA.junk)⟩
def f10_1_S  (x0 x1 x2 x3 y4 w5 w6:TV):ASt:=⟨[AV.one CA.junk,AV.one CA.junk,AV.one (CA.ptr 0 0),AV.one (CA.ptr 1 0),AV.one CA.junk,AV.one (CA.ptr 2 0),AV.tv x0] ++ List.replicate 11 (AV.one CA.junk) ++ [AV.tv x1,AV.tv x2,AV.tv x3] ++ List.replicate 20 (AV.one CA.junk),[some (BC.cells [CA.t y4]),some (BC.cells [CA.fn1 35 3]),some (BC.cells [CA.sref 4 0 []]),some (BC.cells [CA.sref 5 0 []]),some (BC.tree [w5]),some (BC.tree [w6])] ++ List.replicate 66 (none),List.replicate 7 (AV.one CA.junk)⟩
def f10_2_S  (x0 x1 x2 y3 y4 y5 y6 w7 w8 x9 x10 x11 x12 x13 x14:TV):ASt:=⟨[AV.tv x0,AV.clo 32 [CA.ptr 0 0,CA.ptr 1 0,CA.ptr 2 0]] ++ List.replicate 5 (AV.one CA.junk) ++ [AV.tv x1,AV.tv x2] ++ List.replicate 10 (AV.one CA.junk),[some (BC.cells [CA.fn1 35 4]),some (BC.cells [CA.t y3,CA.t y4,CA.t y5]),some (BC.cells [CA.sref 5 0 []]),some (BC.cells [CA.t y6]),some (BC.cells [CA.sref 6 0 []]),some (BC.tree [w7]),some (BC.tree [w8])] ++ List.replicate 93 (none),(List.replicate 9 (AV.one CA.junk) ++ [AV.one (CA.ptr 3 0),AV.one (CA.ptr 0 0),AV.one CA.junk,AV.one (CA.ptr 2 0),AV.tv x9,AV.tv x10] ++ List.replicate 10 (AV.one CA.junk) ++ [AV.tv x11,AV.tv x12,AV.tv x13] ++ List.replicate 9 (AV.one CA.junk) ++ [AV.tv x14] ++ List.replicate 19 (AV.one CA.junk))⟩
def f10_3_S  (x0 x1 x2 y3 y4 y5 y6 w7 y8 y9 y10 y11 y12 y13 y14 y15 y16 y17 y18 y19 y20 y21 w22 x23 x24 x25 x26 x27 x28 x29 x30 x31 x32:TV):ASt:=⟨[AV.tv x0,AV.clo 36 [CA.ptr 0 0]] ++ List.replicate 5 (AV.one CA.junk) ++ [AV.tv x1,AV.tv x2] ++ List.replicate 10 (AV.one CA.junk),[some (BC.cells [CA.sref 7 0 []]),some (BC.cells [CA.t y3]),some (BC.cells [CA.fn1 35 0]),some (BC.cells [CA.sref 5 0 []]),some (BC.cells [CA.t y4,CA.t y5,CA.t y6]),some (BC.tree [w7]),some (BC.cells [CA.t y8,CA.t y9,CA.t y10,CA.t y11,CA.t y12,CA.t y13,CA.t y14,CA.t y15,CA.t y16,CA.t y17,CA.t y18,CA.t y19,CA.t y20,CA.t y21]),some (BC.tree [w22])] ++ List.replicate 155 (none),(List.replicate 9 (AV.one CA.junk) ++ [AV.one (CA.ptr 1 0),AV.one (CA.ptr 2 0),AV.one CA.junk,AV.one (CA.ptr 3 0),AV.tv x23,AV.tv x24] ++ List.replicate 10 (AV.one CA.junk) ++ [AV.tv x25,AV.tv x26,AV.tv x27] ++ List.replicate 9 (AV.one CA.junk) ++ [AV.tv x28] ++ List.replicate 19 (AV.one CA.junk) ++ [AV.tv x29,AV.clo 32 [CA.ptr 2 0,CA.ptr 4 0,CA.ptr 3 0],AV.one CA.junk,AV.one CA.junk,AV.one CA.junk,AV.tv x30,AV.one CA.junk,AV.tv x31,AV.tv x32] ++ List.replicate 23 (AV.one CA.junk) ++ [AV.one (CA.sref 5 0 []),AV.one CA.junk,AV.one CA.junk,AV.one (CA.ptr 6 0)] ++ List.replicate 27 (AV.one CA.junk))⟩
noncomputable def f10_M (x0:TV):Prg TV :=
 chk (TV.isAgg x0 1) (
 chk (Bool.and (wN (cell x0 0) (cell x0 0)) true) (
 call 30 [agg [cell x0 0]] fun v0 =>
 chk (ac aj [v0] 0) (
 tv (pun .not v0) fun v1 =>
 Prg.ite (asBool v1) (
 chk true (
 ret (TV.lit bV))) (
 tv (plen (.slice 53) (cell x0 0)) fun v2 =>
 nat (aF v2) fun n3 =>
 nat (aF v2) fun n4 =>
 chk (Bool.and (Nat.ble n3 n4) (Nat.ble n4 4294967296)) (
 jmp [0,0,1,0,1,1,1,8,0,1] (f10_0_S (B true) (cell x0 0) (TV.sl true 1 (List.replicate n3 [B false])) (TV.sl true 1 (chunks 1 1 [I 10]))))))))
def f10_0  (x0 y1 w2 w3:TV):Prg TV :=
 Prg.ite (asBool x0) (
 tv (plen (.slice 53) y1) fun v5 =>
 jmp [0,0,1,1,0,1,0,0,1,0,1,1,1,8,0,1] (f10_1_S (B false) y1 v5 (I 0) y1 w2 w3)) (
 chk (dL w2) (
 ret w2))
def f10_1  (x0 x1 x2 x3 y4 w5 w6:TV):Prg TV :=
 tv (pbin (.int .i64) .lss x3 x2) fun v6 =>
 Prg.ite (asBool v6) (
 tvs (pidx 3 x1 x3) fun e7 =>
 chk (Nat.ble 3 (List.length e7)) (
 nat (slLen w5) fun n8 =>
 nat (aF x3) fun n9 =>
 chk (Bool.and (slSize w5 1) (Nat.blt n9 n8)) (
 tvs (pel w5 n9) fun e10 =>
 chk (ac aj e10 0) (
 tv (pun .not (nth hole e10 0)) fun v11 =>
 Prg.ite (asBool v11) (
 tv (plen (.slice 50) (nth hole e7 2)) fun v12 =>
 jmp [0,0,1,0,1,6,0,1,20,0,1,0,0,1,1,0,0,1,1,0,1,0,0,1,0,1,1,1,8,0,1] (f10_2_S (nth hole e7 2) v12 (I 0) (nth hole e7 0) (nth hole e7 1) (nth hole e7 2) y4 w5 w6 x0 x3 x1 x2 x3 (B true))) (
 tv (pbin (.int .i64) .add x3 (I 1)) fun v13 =>
 jmp [0,0,1,1,0,1,0,0,1,0,1,1,1,8,0,1] (f10_1_S x0 x1 x2 v13 y4 w5 w6)))))) (
 jmp [0,0,1,0,1,1,1,8,0,1] (f10_0_S x0 y4 w5 w6))
def f10_2  (x0 x1 x2 y3 y4 y5 y6 w7 w8 x9 x10 x11 x12 x13 x14:TV):Prg TV :=
 tv (pbin (.int .i64) .lss x2 x1) fun v14 =>
 Prg.ite (asBool v14) (
 tvs (pidx 14 x0 x2) fun e15 =>
 chk (Nat.ble 14 (List.length e15)) (
 tv (plen (.slice 57) (nth hole e15 5)) fun v16 =>
 jmp [0,0,1,0,1,6,0,1,8,0,1,72010,0,1,66012,0,1,0,0,1,1,0,0,1,0,1,6,0,1,20,0,1,0,0,1,1,0,0,1,1,0,1,0,0,1,0,1,1,1,8,0,1] (f10_3_S (nth hole e15 5) v16 (I 0) y6 y3 y4 y5 w7 (nth hole e15 0) (nth hole e15 1) (nth hole e15 2) (nth hole e15 3) (nth hole e15 4) (nth hole e15 5) (nth hole e15 6) (nth hole e15 7) (nth hole e15 8) (nth hole e15 9) (nth hole e15 10) (nth hole e15 11) (nth hole e15 12) (nth hole e15 13) w8 x9 x10 x11 x12 x13 x14 x0 x2 x1 x2))) (
 tv (pbin (.int .i64) .geq (TV.lit (Value.int IntKind.i64 (-1))) (I 0)) fun v17 =>
 Prg.ite (asBool x14) (
 Prg.ite (asBool v17) (
 nat (slLen w7) fun n18 =>
 nat (aF x10) fun n19 =>
 chk (Bool.and (slSize w7 1) (Nat.blt n19 n18)) (
 tvs (pel w7 n19) fun e20 =>
 chk (ac aj e20 0) (
 tv (eT [] w7 n19 0 [B true]) fun v21 =>
 tv (pbin (.int .i64) .add x13 (I 1)) fun v22 =>
 jmp [0,0,1,1,0,1,0,0,1,0,1,1,1,8,0,1] (f10_1_S (B true) x11 x12 v22 y6 v21 w8)))) (
 tv (pbin (.int .i64) .add x13 (I 1)) fun v23 =>
 jmp [0,0,1,1,0,1,0,0,1,0,1,1,1,8,0,1] (f10_1_S x9 x11 x12 v23 y6 w7 w8))) (
 tv (pbin (.int .i64) .add x13 (I 1)) fun v24 =>
 jmp [0,0,1,1,0,1,0,0,1,0,1,1,1,8,0,1] (f10_1_S x9 x11 x12 v24 y6 w7 w8)))
def f10_3  (x0 x1 x2 y3 y4 y5 y6 w7 y8 y9 y10 y11 y12 y13 y14 y15 y16 y17 y18 y19 y20 y21 w22 x23 x24 x25 x26 x27 x28 x29 x30 x31 x32:TV):Prg TV :=
 tv (pbin (.int .i64) .lss x2 x1) fun v25 =>
 Prg.ite (asBool v25) (
 tvs (pidx 7 x0 x2) fun e26 =>
 chk (Nat.ble 7 (List.length e26)) (
 call 37 [frz w22,nth hole e26 0] fun v27 =>
 chk (ac aj [v27] 0) (
 Prg.ite (asBool v27) (
 tv (pbin (.int .i64) .geq x2 (I 0)) fun v28 =>
 Prg.ite (asBool v28) (
 tv (pbin (.int .i64) .geq x30 (I 0)) fun v29 =>
 Prg.ite (asBool x28) (
 Prg.ite (asBool v29) (
 nat (slLen w7) fun n30 =>
 nat (aF x24) fun n31 =>
 chk (Bool.and (slSize w7 1) (Nat.blt n31 n30)) (
 tvs (pel w7 n31) fun e32 =>
 chk (ac aj e32 0) (
 tv (eT [] w7 n31 0 [B true]) fun v33 =>
 tv (pbin (.int .i64) .add x27 (I 1)) fun v34 =>
 jmp [0,0,1,1,0,1,0,0,1,0,1,1,1,8,0,1] (f10_1_S (B true) x25 x26 v34 y3 v33 w22)))) (
 tv (pbin (.int .i64) .add x27 (I 1)) fun v35 =>
 jmp [0,0,1,1,0,1,0,0,1,0,1,1,1,8,0,1] (f10_1_S x23 x25 x26 v35 y3 w7 w22))) (
 tv (pbin (.int .i64) .add x27 (I 1)) fun v36 =>
 jmp [0,0,1,1,0,1,0,0,1,0,1,1,1,8,0,1] (f10_1_S x23 x25 x26 v36 y3 w7 w22))) (
 call 20 [agg [y8,y9,y10,y11,y12,y13,y14,y15,y16,y17,y18,y19,y20,y21],frz w7] fun v37 =>
 chk (ac aj [v37] 0) (
 Prg.ite (asBool v37) (
 tv (pbin (.int .i64) .geq x30 (I 0)) fun v38 =>
 Prg.ite (asBool x28) (
 Prg.ite (asBool v38) (
 nat (slLen w7) fun n39 =>
 nat (aF x24) fun n40 =>
 chk (Bool.and (slSize w7 1) (Nat.blt n40 n39)) (
 tvs (pel w7 n40) fun e41 =>
 chk (ac aj e41 0) (
 tv (eT [] w7 n40 0 [B true]) fun v42 =>
 tv (pbin (.int .i64) .add x27 (I 1)) fun v43 =>
 jmp [0,0,1,1,0,1,0,0,1,0,1,1,1,8,0,1] (f10_1_S (B true) x25 x26 v43 y3 v42 w22)))) (
 tv (pbin (.int .i64) .add x27 (I 1)) fun v44 =>
 jmp [0,0,1,1,0,1,0,0,1,0,1,1,1,8,0,1] (f10_1_S x23 x25 x26 v44 y3 w7 w22))) (
 tv (pbin (.int .i64) .add x27 (I 1)) fun v45 =>
 jmp [0,0,1,1,0,1,0,0,1,0,1,1,1,8,0,1] (f10_1_S x23 x25 x26 v45 y3 w7 w22))) (
 call 21 [agg [y8,y9,y10,y11,y12,y13,y14,y15,y16,y17,y18,y19,y20,y21],frz w7] fun v46 =>
 chk (ac aj [v46] 0) (
 Prg.ite (asBool v46) (
 tv (pbin (.int .i64) .geq x30 (I 0)) fun v47 =>
 Prg.ite (asBool x28) (
 Prg.ite (asBool v47) (
 nat (slLen w7) fun n48 =>
 nat (aF x24) fun n49 =>
 chk (Bool.and (slSize w7 1) (Nat.blt n49 n48)) (
 tvs (pel w7 n49) fun e50 =>
 chk (ac aj e50 0) (
 tv (eT [] w7 n49 0 [B true]) fun v51 =>
 tv (pbin (.int .i64) .add x27 (I 1)) fun v52 =>
 jmp [0,0,1,1,0,1,0,0,1,0,1,1,1,8,0,1] (f10_1_S (B true) x25 x26 v52 y3 v51 w22)))) (
 tv (pbin (.int .i64) .add x27 (I 1)) fun v53 =>
 jmp [0,0,1,1,0,1,0,0,1,0,1,1,1,8,0,1] (f10_1_S x23 x25 x26 v53 y3 w7 w22))) (
 tv (pbin (.int .i64) .add x27 (I 1)) fun v54 =>
 jmp [0,0,1,1,0,1,0,0,1,0,1,1,1,8,0,1] (f10_1_S x23 x25 x26 v54 y3 w7 w22))) (
 tv (pbin (.int .i64) .add x32 (I 1)) fun v55 =>
 jmp [0,0,1,0,1,6,0,1,20,0,1,0,0,1,1,0,0,1,1,0,1,0,0,1,0,1,1,1,8,0,1] (f10_2_S x29 x31 v55 y4 y5 y6 y3 w7 w22 x23 x24 x25 x26 x27 x28))))))) (
 tv (pbin (.int .i64) .add x2 (I 1)) fun v56 =>
 jmp [0,0,1,0,1,6,0,1,8,0,1,72010,0,1,66012,0,1,0,0,1,1,0,0,1,0,1,6,0,1,20,0,1,0,0,1,1,0,0,1,1,0,1,0,0,1,0,1,1,1,8,0,1] (f10_3_S x0 x1 v56 y3 y4 y5 y6 w7 y8 y9 y10 y11 y12 y13 y14 y15 y16 y17 y18 y19 y20 y21 w22 x23 x24 x25 x26 x27 x28 x29 x30 x31 x32))))) (
 tv (pbin (.int .i64) .geq (TV.lit (Value.int IntKind.i64 (-1))) (I 0)) fun v57 =>
 Prg.ite (asBool v57) (
 tv (pbin (.int .i64) .geq x30 (I 0)) fun v58 =>
 Prg.ite (asBool x28) (
 Prg.ite (asBool v58) (
 nat (slLen w7) fun n59 =>
 nat (aF x24) fun n60 =>
 chk (Bool.and (slSize w7 1) (Nat.blt n60 n59)) (
 tvs (pel w7 n60) fun e61 =>
 chk (ac aj e61 0) (
 tv (eT [] w7 n60 0 [B true]) fun v62 =>
 tv (pbin (.int .i64) .add x27 (I 1)) fun v63 =>
 jmp [0,0,1,1,0,1,0,0,1,0,1,1,1,8,0,1] (f10_1_S (B true) x25 x26 v63 y3 v62 w22)))) (
 tv (pbin (.int .i64) .add x27 (I 1)) fun v64 =>
 jmp [0,0,1,1,0,1,0,0,1,0,1,1,1,8,0,1] (f10_1_S x23 x25 x26 v64 y3 w7 w22))) (
 tv (pbin (.int .i64) .add x27 (I 1)) fun v65 =>
 jmp [0,0,1,1,0,1,0,0,1,0,1,1,1,8,0,1] (f10_1_S x23 x25 x26 v65 y3 w7 w22))) (
 call 20 [agg [y8,y9,y10,y11,y12,y13,y14,y15,y16,y17,y18,y19,y20,y21],frz w7] fun v66 =>
 chk (ac aj [v66] 0) (
 Prg.ite (asBool v66) (
 tv (pbin (.int .i64) .geq x30 (I 0)) fun v67 =>
 Prg.ite (asBool x28) (
 Prg.ite (asBool v67) (
 nat (slLen w7) fun n68 =>
 nat (aF x24) fun n69 =>
 chk (Bool.and (slSize w7 1) (Nat.blt n69 n68)) (
 tvs (pel w7 n69) fun e70 =>
 chk (ac aj e70 0) (
 tv (eT [] w7 n69 0 [B true]) fun v71 =>
 tv (pbin (.int .i64) .add x27 (I 1)) fun v72 =>
 jmp [0,0,1,1,0,1,0,0,1,0,1,1,1,8,0,1] (f10_1_S (B true) x25 x26 v72 y3 v71 w22)))) (
 tv (pbin (.int .i64) .add x27 (I 1)) fun v73 =>
 jmp [0,0,1,1,0,1,0,0,1,0,1,1,1,8,0,1] (f10_1_S x23 x25 x26 v73 y3 w7 w22))) (
 tv (pbin (.int .i64) .add x27 (I 1)) fun v74 =>
 jmp [0,0,1,1,0,1,0,0,1,0,1,1,1,8,0,1] (f10_1_S x23 x25 x26 v74 y3 w7 w22))) (
 call 21 [agg [y8,y9,y10,y11,y12,y13,y14,y15,y16,y17,y18,y19,y20,y21],frz w7] fun v75 =>
 chk (ac aj [v75] 0) (
 Prg.ite (asBool v75) (
 tv (pbin (.int .i64) .geq x30 (I 0)) fun v76 =>
 Prg.ite (asBool x28) (
 Prg.ite (asBool v76) (
 nat (slLen w7) fun n77 =>
 nat (aF x24) fun n78 =>
 chk (Bool.and (slSize w7 1) (Nat.blt n78 n77)) (
 tvs (pel w7 n78) fun e79 =>
 chk (ac aj e79 0) (
 tv (eT [] w7 n78 0 [B true]) fun v80 =>
 tv (pbin (.int .i64) .add x27 (I 1)) fun v81 =>
 jmp [0,0,1,1,0,1,0,0,1,0,1,1,1,8,0,1] (f10_1_S (B true) x25 x26 v81 y3 v80 w22)))) (
 tv (pbin (.int .i64) .add x27 (I 1)) fun v82 =>
 jmp [0,0,1,1,0,1,0,0,1,0,1,1,1,8,0,1] (f10_1_S x23 x25 x26 v82 y3 w7 w22))) (
 tv (pbin (.int .i64) .add x27 (I 1)) fun v83 =>
 jmp [0,0,1,1,0,1,0,0,1,0,1,1,1,8,0,1] (f10_1_S x23 x25 x26 v83 y3 w7 w22))) (
 tv (pbin (.int .i64) .add x32 (I 1)) fun v84 =>
 jmp [0,0,1,0,1,6,0,1,20,0,1,0,0,1,1,0,0,1,1,0,1,0,0,1,0,1,1,1,8,0,1] (f10_2_S x29 x31 v84 y4 y5 y6 y3 w7 w22 x23 x24 x25 x26 x27 x28)))))))
theorem f10_MR (x0:TV):aR prog 10 [x0]=f10_M x0:=by kernel_rfl
theorem f10_0_J  {x0 y1 w2 w3:TV} {r:TV} (h:aa prog 10 (f10_0 x0 y1 w2 w3) r):aa prog 10 (.jmp [0,0,1,0,1,1,1,8,0,1] (f10_0_S x0 y1 w2 w3)) r:=aa.jmp (by kernel_rfl) h
theorem f10_1_J  {x0 x1 x2 x3 y4 w5 w6:TV} {r:TV} (h:aa prog 10 (f10_1 x0 x1 x2 x3 y4 w5 w6) r):aa prog 10 (.jmp [0,0,1,1,0,1,0,0,1,0,1,1,1,8,0,1] (f10_1_S x0 x1 x2 x3 y4 w5 w6)) r:=aa.jmp (by kernel_rfl) h
theorem f10_2_J  {x0 x1 x2 y3 y4 y5 y6 w7 w8 x9 x10 x11 x12 x13 x14:TV} {r:TV} (h:aa prog 10 (f10_2 x0 x1 x2 y3 y4 y5 y6 w7 w8 x9 x10 x11 x12 x13 x14) r):aa prog 10 (.jmp [0,0,1,0,1,6,0,1,20,0,1,0,0,1,1,0,0,1,1,0,1,0,0,1,0,1,1,1,8,0,1] (f10_2_S x0 x1 x2 y3 y4 y5 y6 w7 w8 x9 x10 x11 x12 x13 x14)) r:=aa.jmp (by kernel_rfl) h
theorem f10_3_J  {x0 x1 x2 y3 y4 y5 y6 w7 y8 y9 y10 y11 y12 y13 y14 y15 y16 y17 y18 y19 y20 y21 w22 x23 x24 x25 x26 x27 x28 x29 x30 x31 x32:TV} {r:TV} (h:aa prog 10 (f10_3 x0 x1 x2 y3 y4 y5 y6 w7 y8 y9 y10 y11 y12 y13 y14 y15 y16 y17 y18 y19 y20 y21 w22 x23 x24 x25 x26 x27 x28 x29 x30 x31 x32) r):aa prog 10 (.jmp [0,0,1,0,1,6,0,1,8,0,1,72010,0,1,66012,0,1,0,0,1,1,0,0,1,0,1,6,0,1,20,0,1,0,0,1,1,0,0,1,1,0,1,0,0,1,0,1,1,1,8,0,1] (f10_3_S x0 x1 x2 y3 y4 y5 y6 w7 y8 y9 y10 y11 y12 y13 y14 y15 y16 y17 y18 y19 y20 y21 w22 x23 x24 x25 x26 x27 x28 x29 x30 x31 x32)) r:=aa.jmp (by kernel_rfl) h
def f11_0_S  (x0 y1:TV):ASt:=⟨[AV.one CA.junk,AV.one (CA.ptr 0 0),AV.one CA.junk,AV.tv x0] ++ List.replicate 33 (AV.one CA.junk),[some (BC.cells [CA.t y1])] ++ List.replicate 60 (none),[]⟩
def f11_M (x0:TV):Prg TV :=
 chk (TV.isAgg x0 1) (
 tv (plen (.slice 53) (cell x0 0)) fun v0 =>
 tv (pbin (.int .i64) .eql v0 (I 0)) fun v1 =>
 Prg.ite (asBool v1) (
 ret (B false)) (
 tv (plen (.slice 53) (cell x0 0)) fun v2 =>
 tv (pbin (.int .i64) .gtr v2 (I 16)) fun v3 =>
 Prg.ite (asBool v3) (
 ret (B false)) (
 tvs (pidx 3 (cell x0 0) (I 0)) fun e4 =>
 chk (Nat.blt 0 (List.length e4)) (
 tv (pbin (.int .i64) .neq (nth hole e4 0) (I 0)) fun v5 =>
 Prg.ite (asBool v5) (
 ret (B false)) (
 jmp [0,0,1,0,1,1] (f11_0_S (I 0) (cell x0 0)))))))
def f11_0  (x0 y1:TV):Prg TV :=
 tv (plen (.slice 53) y1) fun v6 =>
 tv (pbin (.int .i64) .lss x0 v6) fun v7 =>
 Prg.ite (asBool v7) (
 tvs (pidx 3 y1 x0) fun e8 =>
 chk (Nat.ble 3 (List.length e8)) (
 call 23 [agg [y1],agg [nth hole e8 0,nth hole e8 1,nth hole e8 2]] fun v9 =>
 chk (ac aj [v9] 0) (
 tv (pun .not v9) fun v10 =>
 Prg.ite (asBool v10) (
 ret (B false)) (
 tv (pbin (.int .i64) .add x0 (I 1)) fun v11 =>
 jmp [0,0,1,0,1,1] (f11_0_S v11 y1))))) (
 ret (B true))
theorem f11_MR (x0:TV):aR prog 11 [x0]=f11_M x0:=by kernel_rfl
theorem f11_0_J  {x0 y1:TV} {r:TV} (h:aa prog 11 (f11_0 x0 y1) r):aa prog 11 (.jmp [0,0,1,0,1,1] (f11_0_S x0 y1)) r:=aa.jmp (by kernel_rfl) h
def f13_0_S  (x0 y1 w2:TV):ASt:=⟨[AV.one CA.junk,AV.one (CA.ptr 0 0),AV.one CA.junk,AV.one (CA.sref 1 0 []),AV.tv x0] ++ List.replicate 108 (AV.one CA.junk),[some (BC.cells [CA.t y1]),some (BC.tree [w2])] ++ List.replicate 135 (none),[]⟩
def f13_2_S  (x0 x1 x2 y3 w4 y5 y6 y7:TV):ASt:=⟨[AV.one CA.junk,AV.one (CA.ptr 0 0),AV.one CA.junk,AV.one (CA.sref 1 0 []),AV.tv x0,AV.tv x1,AV.one (CA.ptr 2 0),AV.tv x2] ++ List.replicate 105 (AV.one CA.junk),[some (BC.cells [CA.t y3]),some (BC.tree [w4]),some (BC.cells [CA.t y5,CA.t y6,CA.t y7])] ++ List.replicate 134 (none),[]⟩
def f13_1  (x0 x1 y2 w3:TV):Prg TV :=
 tv (plen (.slice 53) y2) fun v5 =>
 tv (pbin (.int .i64) .lss x1 v5) fun v6 =>
 Prg.ite (asBool v6) (
 tvs (pidx 3 y2 x1) fun e7 =>
 chk (Nat.ble 3 (List.length e7)) (
 jmp [0,0,1,1,0,0,1,0,0,1,0,0,1,0,0,1,0,1,1] (f13_2_S x0 x1 (I 0) y2 w3 (nth hole e7 0) (nth hole e7 1) (nth hole e7 2)))) (
 tv (pbin (.int .i64) .add x0 (I 1)) fun v8 =>
 jmp [0,0,1,0,1,1] (f13_0_S v8 y2 w3))
def f20_0_S  (x0 x1 x2 y3:TV):ASt:=⟨[AV.tv x0,AV.clo 34 [CA.ptr 0 0]] ++ List.replicate 5 (AV.one CA.junk) ++ [AV.tv x1,AV.tv x2] ++ List.replicate 10 (AV.one CA.junk),[some (BC.cells [CA.t y3])] ++ List.replicate 60 (none),List.replicate 18 (AV.one CA.junk)⟩
def f20_M (x0 x1:TV):Prg TV :=
 chk (TV.isAgg x0 14) (
 chk (TV.iy x1) (
 tv (plen (.slice 57) (cell x0 5)) fun v0 =>
 jmp [0,0,1,0,1,6,0,1,8,0,1] (f20_0_S (cell x0 5) v0 (I 0) x1)))
def f20_0  (x0 x1 x2 y3:TV):Prg TV :=
 tv (pbin (.int .i64) .lss x2 x1) fun v1 =>
 Prg.ite (asBool v1) (
 tvs (pidx 7 x0 x2) fun e2 =>
 chk (Nat.ble 7 (List.length e2)) (
 tv (pbin (.int .i64) .eql (nth hole e2 0) (I 11)) fun v3 =>
 Prg.ite (asBool v3) (
 tvs (pidx 1 y3 (nth hole e2 5)) fun e4 =>
 chk (Nat.blt 0 (List.length e4)) (
 Prg.ite (asBool (nth hole e4 0)) (
 tv (pbin (.int .i64) .geq x2 (I 0)) fun v5 =>
 ret v5) (
 tv (pbin (.int .i64) .add x2 (I 1)) fun v6 =>
 jmp [0,0,1,0,1,6,0,1,8,0,1] (f20_0_S x0 x1 v6 y3)))) (
 tv (pbin (.int .i64) .add x2 (I 1)) fun v7 =>
 jmp [0,0,1,0,1,6,0,1,8,0,1] (f20_0_S x0 x1 v7 y3)))) (
 tv (pbin (.int .i64) .geq (TV.lit (Value.int IntKind.i64 (-1))) (I 0)) fun v8 =>
 ret v8)
theorem f20_MR (x0 x1:TV):aR prog 20 [x0,x1]=f20_M x0 x1:=by kernel_rfl
theorem f20_0_J  {x0 x1 x2 y3:TV} {r:TV} (h:aa prog 20 (f20_0 x0 x1 x2 y3) r):aa prog 20 (.jmp [0,0,1,0,1,6,0,1,8,0,1] (f20_0_S x0 x1 x2 y3)) r:=aa.jmp (by kernel_rfl) h
def f21_M (x0 x1:TV):Prg TV :=
 chk (TV.isAgg x0 14) (
 tv (pbin (.int .i64) .eql (cell x0 6) (I 4)) fun v0 =>
 Prg.ite (asBool v0) (
 tvs (pidx 1 x1 (cell x0 9)) fun e1 =>
 chk (Nat.blt 0 (List.length e1)) (
 ret (nth hole e1 0))) (
 ret (B false)))
theorem f21_MR (x0 x1:TV):aR prog 21 [x0,x1]=f21_M x0 x1:=by kernel_rfl
def f23_0_S  (x0 y1 y2 y3 y4:TV):ASt:=⟨[AV.one CA.junk,AV.one CA.junk,AV.one (CA.ptr 0 0),AV.one (CA.ptr 1 0),AV.one CA.junk,AV.tv x0] ++ List.replicate 87 (AV.one CA.junk),[some (BC.cells [CA.t y1]),some (BC.cells [CA.t y2,CA.t y3,CA.t y4])] ++ List.replicate 115 (none),[]⟩
def f23_1_S  (x0 x1 y2 y3 y4 y5 y6 y7 y8 y9 y10 y11 y12 y13 y14 y15 y16 y17 y18 y19:TV):ASt:=⟨[AV.one CA.junk,AV.one CA.junk,AV.one (CA.ptr 0 0),AV.one (CA.ptr 1 0),AV.one CA.junk,AV.tv x0,AV.one (CA.ptr 2 0),AV.tv x1] ++ List.replicate 85 (AV.one CA.junk),[some (BC.cells [CA.t y2]),some (BC.cells [CA.t y3,CA.t y4,CA.t y5]),some (BC.cells [CA.t y6,CA.t y7,CA.t y8,CA.t y9,CA.t y10,CA.t y11,CA.t y12,CA.t y13,CA.t y14,CA.t y15,CA.t y16,CA.t y17,CA.t y18,CA.t y19])] ++ List.replicate 114 (none),[]⟩
def f23_M (x0 x1:TV):Prg TV :=
 chk (TV.isAgg x0 1) (
 chk (TV.isAgg x1 3) (
 tv (pbin (.int .i64) .lss (cell x1 0) (I 0)) fun v0 =>
 Prg.ite (asBool v0) (
 ret (B false)) (
 tv (pbin (.int .i64) .gtr (cell x1 0) (I 8)) fun v1 =>
 Prg.ite (asBool v1) (
 ret (B false)) (
 tv (pbin (.int .i64) .lss (cell x1 1) (cell x1 0)) fun v2 =>
 Prg.ite (asBool v2) (
 ret (B false)) (
 tv (pbin (.int .i64) .gtr (cell x1 1) (I 256)) fun v3 =>
 Prg.ite (asBool v3) (
 ret (B false)) (
 tv (plen (.slice 50) (cell x1 2)) fun v4 =>
 tv (pbin (.int .i64) .eql v4 (I 0)) fun v5 =>
 Prg.ite (asBool v5) (
 ret (B false)) (
 tv (plen (.slice 50) (cell x1 2)) fun v6 =>
 tv (pbin (.int .i64) .gtr v6 (I 64)) fun v7 =>
 Prg.ite (asBool v7) (
 ret (B false)) (
 tvs (pidx 14 (cell x1 2) (I 0)) fun e8 =>
 chk (Nat.blt 0 (List.length e8)) (
 Prg.ite (asBool (nth hole e8 0)) (
 ret (B false)) (
 jmp [0,0,1,0,1,1] (f23_0_S (I 0) (cell x0 0) (cell x1 0) (cell x1 1) (cell x1 2))))))))))))
def f23_0  (x0 y1 y2 y3 y4:TV):Prg TV :=
 tv (plen (.slice 50) y4) fun v9 =>
 tv (pbin (.int .i64) .lss x0 v9) fun v10 =>
 Prg.ite (asBool v10) (
 tvs (pidx 14 y4 x0) fun e11 =>
 chk (Nat.ble 14 (List.length e11)) (
 tv (plen (.slice 57) (nth hole e11 5)) fun v12 =>
 tv (pbin (.int .i64) .gtr v12 (I 64)) fun v13 =>
 Prg.ite (asBool v13) (
 ret (B false)) (
 call 38 [agg [y2,y3,y4],agg [nth hole e11 0,nth hole e11 1,nth hole e11 2,nth hole e11 3,nth hole e11 4,nth hole e11 5,nth hole e11 6,nth hole e11 7,nth hole e11 8,nth hole e11 9,nth hole e11 10,nth hole e11 11,nth hole e11 12,nth hole e11 13]] fun v14 =>
 chk (ac aj [v14] 0) (
 tv (pun .not v14) fun v15 =>
 Prg.ite (asBool v15) (
 ret (B false)) (
 call 39 [agg [y1],agg [y2,y3,y4],agg [nth hole e11 6,nth hole e11 7,nth hole e11 8,nth hole e11 9,nth hole e11 10,nth hole e11 11,nth hole e11 12,nth hole e11 13]] fun v16 =>
 chk (ac aj [v16] 0) (
 tv (pun .not v16) fun v17 =>
 Prg.ite (asBool v17) (
 ret (B false)) (
 jmp [0,0,1,1,1,0,0,1,0,0,1,0,1,1] (f23_1_S x0 (I 0) y1 y2 y3 y4 (nth hole e11 0) (nth hole e11 1) (nth hole e11 2) (nth hole e11 3) (nth hole e11 4) (nth hole e11 5) (nth hole e11 6) (nth hole e11 7) (nth hole e11 8) (nth hole e11 9) (nth hole e11 10) (nth hole e11 11) (nth hole e11 12) (nth hole e11 13))))))))) (
 ret (B true))
def f23_1  (x0 x1 y2 y3 y4 y5 y6 y7 y8 y9 y10 y11 y12 y13 y14 y15 y16 y17 y18 y19:TV):Prg TV :=
 tv (plen (.slice 57) y11) fun v18 =>
 tv (pbin (.int .i64) .lss x1 v18) fun v19 =>
 Prg.ite (asBool v19) (
 tvs (pidx 7 y11 x1) fun e20 =>
 chk (Nat.ble 7 (List.length e20)) (
 call 40 [agg [y2],agg [y3,y4,y5],agg [nth hole e20 0,nth hole e20 1,nth hole e20 2,nth hole e20 3,nth hole e20 4,nth hole e20 5,nth hole e20 6]] fun v21 =>
 chk (ac aj [v21] 0) (
 tv (pun .not v21) fun v22 =>
 Prg.ite (asBool v22) (
 ret (B false)) (
 tv (pbin (.int .i64) .add x1 (I 1)) fun v23 =>
 jmp [0,0,1,1,1,0,0,1,0,0,1,0,1,1] (f23_1_S x0 v23 y2 y3 y4 y5 y6 y7 y8 y9 y10 y11 y12 y13 y14 y15 y16 y17 y18 y19))))) (
 tv (pbin (.int .i64) .add x0 (I 1)) fun v24 =>
 jmp [0,0,1,0,1,1] (f23_0_S v24 y2 y3 y4 y5))
theorem f23_MR (x0 x1:TV):aR prog 23 [x0,x1]=f23_M x0 x1:=by kernel_rfl
theorem f23_0_J  {x0 y1 y2 y3 y4:TV} {r:TV} (h:aa prog 23 (f23_0 x0 y1 y2 y3 y4) r):aa prog 23 (.jmp [0,0,1,0,1,1] (f23_0_S x0 y1 y2 y3 y4)) r:=aa.jmp (by kernel_rfl) h
theorem f23_1_J  {x0 x1 y2 y3 y4 y5 y6 y7 y8 y9 y10 y11 y12 y13 y14 y15 y16 y17 y18 y19:TV} {r:TV} (h:aa prog 23 (f23_1 x0 x1 y2 y3 y4 y5 y6 y7 y8 y9 y10 y11 y12 y13 y14 y15 y16 y17 y18 y19) r):aa prog 23 (.jmp [0,0,1,1,1,0,0,1,0,0,1,0,1,1] (f23_1_S x0 x1 y2 y3 y4 y5 y6 y7 y8 y9 y10 y11 y12 y13 y14 y15 y16 y17 y18 y19)) r:=aa.jmp (by kernel_rfl) h
end Go.Ab.T12

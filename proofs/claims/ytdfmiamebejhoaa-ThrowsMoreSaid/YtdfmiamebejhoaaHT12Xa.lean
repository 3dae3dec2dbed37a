import Derived.Test.YtdfmiamebejhoaaHT12T
set_option linter.all false
set_option maxRecDepth 100000
namespace Go.Ab.T12
open Go Go.Ab Go.Proofs
open Go.Ab.TV (hole cell comp isSl isSc isTup cellsL tup agg)
open Go.Ab.Prg (tv tvs rws nat chk call jmp ret)
def f5_0_S  (x0 x1 y2 w3 w4 w5:TV):ASt:=⟨[AV.one CA.junk,AV.one CA.junk,AV.one (CA.ptr 0 0),AV.one CA.junk,AV.one CA.junk,AV.tv x0,AV.one CA.junk,AV.one CA.junk,AV.one CA.junk,AV.one (CA.sref 1 0 []),AV.one (CA.sref 2 0 []),AV.one (CA.sref 3 0 []),AV.tv x1] ++ List.replicate 147 (AV.one CA.junk),[some (BC.cells [CA.t y2]),some (BC.tree [w3]),some (BC.tree [w4]),some (BC.tree [w5])] ++ List.replicate 180 (none),[]⟩
def f5_M (x0 x1:TV):Prg TV :=
 chk (TV.isAgg x0 1) (
 call 6 [] fun v0 =>
 chk (ac aj [v0] 0) (
 tv (pun .not v0) fun v1 =>
 Prg.ite (asBool v1) (
 ret (B false)) (
 call 7 [agg [cell x0 0]] fun v2 =>
 chk (ac aj [v2] 0) (
 tv (pun .not v2) fun v3 =>
 Prg.ite (asBool v3) (
 ret (B true)) (
 call 11 [agg [cell x0 0]] fun v4 =>
 chk (ac aj [v4] 0) (
 tv (pun .not v4) fun v5 =>
 Prg.ite (asBool v5) (
 ret (B true)) (
 tv (pconv (.int .i64) x1) fun v6 =>
 tv (plen (.slice 53) (cell x0 0)) fun v7 =>
 tv (pbin (.int .i64) .rem v6 v7) fun v8 =>
 tvs (pidx 3 (cell x0 0) v8) fun e9 =>
 chk (Nat.blt 1 (List.length e9)) (
 tv (pbin (.int .i64) .eql (nth hole e9 1) (I 0)) fun v10 =>
 Prg.ite (asBool v10) (
 ret (B true)) (
 rws (pelems 3 (cell x0 0)) fun r11 =>
 tv (papp 3 (TV.sl true 3 (chunks 3 0 [])) r11) fun v12 =>
 rws (pelems 3 (cell x0 0)) fun r13 =>
 tv (papp 3 (TV.sl true 3 (chunks 3 0 [])) r13) fun v14 =>
 tvs (pidx 3 (cell x0 0) v8) fun e15 =>
 chk (Nat.blt 2 (List.length e15)) (
 rws (pelems 14 (nth hole e15 2)) fun r16 =>
 tv (papp 14 (TV.sl true 14 (chunks 14 0 [])) r16) fun v17 =>
 nat (slLen v17) fun n18 =>
 nat (aF (I 0)) fun n19 =>
 chk (Bool.and (slSize v17 14) (Nat.blt n19 n18)) (
 tvs (pel v17 n19) fun e20 =>
 chk (Bool.and (dg zEnd e20 6) true) (
 tv (eT [] v17 n19 6 [I 5,I 0,I 0,I 0,TV.lit bV,I 0,I 0,I 0]) fun v21 =>
 nat (slLen v12) fun n22 =>
 nat (aF v8) fun n23 =>
 chk (Bool.and (slSize v12 3) (Nat.blt n23 n22)) (
 tvs (pel v12 n23) fun e24 =>
 chk (Bool.and (dg zSl e24 2) (ac zSl [v21] 0)) (
 tv (eT [] v12 n23 2 [v21]) fun v25 =>
 nat (slLen v14) fun n26 =>
 nat (aF v8) fun n27 =>
 chk (Bool.and (slSize v14 3) (Nat.blt n27 n26)) (
 tvs (pel v14 n27) fun e28 =>
 chk (Bool.and (dg zSl e28 2) true) (
 tv (eT [] v14 n27 2 [TV.sl true 14 (chunks 14 1 [B false,I 0,TV.lit bV,B false,B false,TV.lit bV,I 1,I 0,I 0,I 0,TV.lit bV,I 0,I 0,I 0])]) fun v29 =>
 call 8 [agg [cell x0 0]] fun v30 =>
 chk (ac zSl [v30] 0) (
 call 8 [agg [frz v25]] fun v31 =>
 chk (ac zSl [v31] 0) (
 call 8 [agg [frz v29]] fun v32 =>
 chk (ac zSl [v32] 0) (
 tv (plen (.slice 4) v31) fun v33 =>
 tv (plen (.slice 4) v30) fun v34 =>
 tv (pbin (.int .i64) .neq v33 v34) fun v35 =>
 Prg.ite (asBool v35) (
 ret (B false)) (
 tv (plen (.slice 4) v32) fun v36 =>
 tv (plen (.slice 4) v30) fun v37 =>
 tv (pbin (.int .i64) .neq v36 v37) fun v38 =>
 Prg.ite (asBool v38) (
 ret (B false)) (
 nat (slLen v31) fun n39 =>
 nat (aF v8) fun n40 =>
 chk (Bool.and (slSize v31 1) (Nat.blt n40 n39)) (
 tvs (pel v31 n40) fun e41 =>
 chk (ac aj e41 0) (
 tv (pun .not (nth hole e41 0)) fun v42 =>
 Prg.ite (asBool v42) (
 ret (B false)) (
 nat (slLen v32) fun n43 =>
 nat (aF v8) fun n44 =>
 chk (Bool.and (slSize v32 1) (Nat.blt n44 n43)) (
 tvs (pel v32 n44) fun e45 =>
 chk (ac aj e45 0) (
 Prg.ite (asBool (nth hole e45 0)) (
 ret (B false)) (
 call 9 [agg [frz v29]] fun v46 =>
 chk (ac zSl [v46] 0) (
 nat (slLen v46) fun n47 =>
 nat (aF v8) fun n48 =>
 chk (Bool.and (slSize v46 1) (Nat.blt n48 n47)) (
 tvs (pel v46 n48) fun e49 =>
 chk (ac aj e49 0) (
 Prg.ite (asBool (nth hole e49 0)) (
 ret (B false)) (
 call 10 [agg [frz v29]] fun v50 =>
 chk (ac zSl [v50] 0) (
 nat (slLen v50) fun n51 =>
 nat (aF v8) fun n52 =>
 chk (Bool.and (slSize v50 1) (Nat.blt n52 n51)) (
 tvs (pel v50 n52) fun e53 =>
 chk (ac aj e53 0) (
 Prg.ite (asBool (nth hole e53 0)) (
 ret (B false)) (
 jmp [0,0,1,0,1,1,1,1,1,1,1,1,1,1,1,1,1] (f5_0_S v8 (I 0) (cell x0 0) v30 v31 v32))))))))))))))))))))))))))))))))))))
def f5_0  (x0 x1 y2 w3 w4 w5:TV):Prg TV :=
 tv (plen (.slice 4) w3) fun v54 =>
 tv (pbin (.int .i64) .lss x1 v54) fun v55 =>
 Prg.ite (asBool v55) (
 nat (slLen w5) fun n56 =>
 nat (aF x1) fun n57 =>
 chk (Bool.and (slSize w5 1) (Nat.blt n57 n56)) (
 tvs (pel w5 n57) fun e58 =>
 chk (ac aj e58 0) (
 Prg.ite (asBool (nth hole e58 0)) (
 nat (slLen w3) fun n59 =>
 nat (aF x1) fun n60 =>
 chk (Bool.and (slSize w3 1) (Nat.blt n60 n59)) (
 tvs (pel w3 n60) fun e61 =>
 chk (ac aj e61 0) (
 tv (pun .not (nth hole e61 0)) fun v62 =>
 Prg.ite (asBool v62) (
 ret (B false)) (
 tvs (pidx 3 y2 x0) fun e63 =>
 chk (Nat.blt 2 (List.length e63)) (
 tvs (pidx 14 (nth hole e63 2) (I 0)) fun e64 =>
 chk (Nat.blt 6 (List.length e64)) (
 tv (pbin (.int .i64) .neq (nth hole e64 6) (I 4)) fun v65 =>
 Prg.ite (asBool v65) (
 nat (slLen w3) fun n66 =>
 nat (aF x1) fun n67 =>
 chk (Bool.and (slSize w3 1) (Nat.blt n67 n66)) (
 tvs (pel w3 n67) fun e68 =>
 chk (ac aj e68 0) (
 Prg.ite (asBool (nth hole e68 0)) (
 nat (slLen w4) fun n69 =>
 nat (aF x1) fun n70 =>
 chk (Bool.and (slSize w4 1) (Nat.blt n70 n69)) (
 tvs (pel w4 n70) fun e71 =>
 chk (ac aj e71 0) (
 tv (pun .not (nth hole e71 0)) fun v72 =>
 Prg.ite (asBool v72) (
 ret (B false)) (
 tv (pbin (.int .i64) .add x1 (I 1)) fun v73 =>
 jmp [0,0,1,0,1,1,1,1,1,1,1,1,1,1,1,1,1] (f5_0_S x0 v73 y2 w3 w4 w5))))) (
 tv (pbin (.int .i64) .add x1 (I 1)) fun v74 =>
 jmp [0,0,1,0,1,1,1,1,1,1,1,1,1,1,1,1,1] (f5_0_S x0 v74 y2 w3 w4 w5))))) (
 tv (pbin (.int .i64) .add x1 (I 1)) fun v75 =>
 jmp [0,0,1,0,1,1,1,1,1,1,1,1,1,1,1,1,1] (f5_0_S x0 v75 y2 w3 w4 w5)))))))) (
 tvs (pidx 3 y2 x0) fun e76 =>
 chk (Nat.blt 2 (List.length e76)) (
 tvs (pidx 14 (nth hole e76 2) (I 0)) fun e77 =>
 chk (Nat.blt 6 (List.length e77)) (
 tv (pbin (.int .i64) .neq (nth hole e77 6) (I 4)) fun v78 =>
 Prg.ite (asBool v78) (
 nat (slLen w3) fun n79 =>
 nat (aF x1) fun n80 =>
 chk (Bool.and (slSize w3 1) (Nat.blt n80 n79)) (
 tvs (pel w3 n80) fun e81 =>
 chk (ac aj e81 0) (
 Prg.ite (asBool (nth hole e81 0)) (
 nat (slLen w4) fun n82 =>
 nat (aF x1) fun n83 =>
 chk (Bool.and (slSize w4 1) (Nat.blt n83 n82)) (
 tvs (pel w4 n83) fun e84 =>
 chk (ac aj e84 0) (
 tv (pun .not (nth hole e84 0)) fun v85 =>
 Prg.ite (asBool v85) (
 ret (B false)) (
 tv (pbin (.int .i64) .add x1 (I 1)) fun v86 =>
 jmp [0,0,1,0,1,1,1,1,1,1,1,1,1,1,1,1,1] (f5_0_S x0 v86 y2 w3 w4 w5))))) (
 tv (pbin (.int .i64) .add x1 (I 1)) fun v87 =>
 jmp [0,0,1,0,1,1,1,1,1,1,1,1,1,1,1,1,1] (f5_0_S x0 v87 y2 w3 w4 w5))))) (
 tv (pbin (.int .i64) .add x1 (I 1)) fun v88 =>
 jmp [0,0,1,0,1,1,1,1,1,1,1,1,1,1,1,1,1] (f5_0_S x0 v88 y2 w3 w4 w5)))))))) (
 ret (B true))
theorem f5_MR (x0 x1:TV):aR prog 5 [x0,x1]=f5_M x0 x1:=by kernel_rfl
theorem f5_0_J  {x0 x1 y2 w3 w4 w5:TV} {r:TV} (h:aa prog 5 (f5_0 x0 x1 y2 w3 w4 w5) r):aa prog 5 (.jmp [0,0,1,0,1,1,1,1,1,1,1,1,1,1,1,1,1] (f5_0_S x0 x1 y2 w3 w4 w5)) r:=aa.jmp (by kernel_rfl) h
def f7_0_S  (x0 x1 y2:TV):ASt:=⟨[AV.one CA.junk,AV.one (CA.ptr 0 0),AV.one CA.junk,AV.tv x0,AV.tv x1] ++ List.replicate 82 (AV.one CA.junk),[some (BC.cells [CA.t y2])] ++ List.replicate 110 (none),[]⟩
def f7_1_S  (x0 x1 x2 y3:TV):ASt:=⟨[AV.one CA.junk,AV.one (CA.ptr 0 0),AV.one CA.junk,AV.tv x0,AV.tv x1,AV.tv x2] ++ List.replicate 81 (AV.one CA.junk),[some (BC.cells [CA.t y3])] ++ List.replicate 110 (none),[]⟩
def f7_2_S  (x0 x1 x2 x3 y4 y5 y6 y7 y8 y9 y10 y11 y12 y13 y14 y15 y16 y17 y18:TV):ASt:=⟨[AV.one CA.junk,AV.one (CA.ptr 0 0),AV.one CA.junk,AV.tv x0,AV.tv x1,AV.tv x2,AV.one (CA.ptr 1 0),AV.tv x3] ++ List.replicate 79 (AV.one CA.junk),[some (BC.cells [CA.t y4]),some (BC.cells [CA.t y5,CA.t y6,CA.t y7,CA.t y8,CA.t y9,CA.t y10,CA.t y11,CA.t y12,CA.t y13,CA.t y14,CA.t y15,CA.t y16,CA.t y17,CA.t y18])] ++ List.replicate 109 (none),[]⟩
def f7_M (x0:TV):Prg TV :=
 chk (TV.isAgg x0 1) (
 tv (plen (.slice 53) (cell x0 0)) fun v0 =>
 tv (pbin (.int .i64) .gtr v0 (I 20)) fun v1 =>
 Prg.ite (asBool v1) (
 ret (B false)) (
 jmp [0,0,1,0,1,1,1] (f7_0_S (I 0) (I 0) (cell x0 0))))
def f7_0  (x0 x1 y2:TV):Prg TV :=
 tv (plen (.slice 53) y2) fun v2 =>
 tv (pbin (.int .i64) .lss x1 v2) fun v3 =>
 Prg.ite (asBool v3) (
 tvs (pidx 3 y2 x1) fun e4 =>
 chk (Nat.blt 2 (List.length e4)) (
 tv (plen (.slice 50) (nth hole e4 2)) fun v5 =>
 tv (pbin (.int .i64) .gtr v5 (I 70)) fun v6 =>
 Prg.ite (asBool v6) (
 ret (B false)) (
 jmp [0,0,1,1,0,0,1,0,0,1,0,1,1,1] (f7_1_S x0 x1 (I 0) y2)))) (
 tv (pbin (.int .i64) .leq x0 (I 2000)) fun v7 =>
 ret v7)
def f7_1  (x0 x1 x2 y3:TV):Prg TV :=
 tvs (pidx 3 y3 x1) fun e8 =>
 chk (Nat.blt 2 (List.length e8)) (
 tv (plen (.slice 50) (nth hole e8 2)) fun v9 =>
 tv (pbin (.int .i64) .lss x2 v9) fun v10 =>
 Prg.ite (asBool v10) (
 tvs (pidx 3 y3 x1) fun e11 =>
 chk (Nat.blt 2 (List.length e11)) (
 tvs (pidx 14 (nth hole e11 2) x2) fun e12 =>
 chk (Nat.ble 14 (List.length e12)) (
 tv (plen (.slice 57) (nth hole e12 5)) fun v13 =>
 tv (pbin (.int .i64) .gtr v13 (I 70)) fun v14 =>
 Prg.ite (asBool v14) (
 ret (B false)) (
 tv (plen (.slice 35) (nth hole e12 2)) fun v15 =>
 tv (pbin (.int .i64) .gtr v15 (I 20)) fun v16 =>
 Prg.ite (asBool v16) (
 ret (B false)) (
 tv (plen (.slice 3) (nth hole e12 10)) fun v17 =>
 tv (pbin (.int .i64) .gtr v17 (I 20)) fun v18 =>
 Prg.ite (asBool v18) (
 ret (B false)) (
 tv (plen (.slice 57) (nth hole e12 5)) fun v19 =>
 tv (pbin (.int .i64) .add x0 v19) fun v20 =>
 jmp [0,0,1,1,1,1,0,0,1,0,0,1,1,0,0,1,0,0,1,0,1,1,1] (f7_2_S v20 x1 x2 (I 0) y3 (nth hole e12 0) (nth hole e12 1) (nth hole e12 2) (nth hole e12 3) (nth hole e12 4) (nth hole e12 5) (nth hole e12 6) (nth hole e12 7) (nth hole e12 8) (nth hole e12 9) (nth hole e12 10) (nth hole e12 11) (nth hole e12 12) (nth hole e12 13)))))))) (
 tv (pbin (.int .i64) .add x1 (I 1)) fun v21 =>
 jmp [0,0,1,0,1,1,1] (f7_0_S x0 v21 y3)))
def f7_2  (x0 x1 x2 x3 y4 y5 y6 y7 y8 y9 y10 y11 y12 y13 y14 y15 y16 y17 y18:TV):Prg TV :=
 tv (plen (.slice 57) y10) fun v22 =>
 tv (pbin (.int .i64) .lss x3 v22) fun v23 =>
 Prg.ite (asBool v23) (
 tvs (pidx 7 y10 x3) fun e24 =>
 chk (Nat.blt 6 (List.length e24)) (
 tv (plen (.slice 3) (nth hole e24 6)) fun v25 =>
 tv (pbin (.int .i64) .gtr v25 (I 20)) fun v26 =>
 Prg.ite (asBool v26) (
 ret (B false)) (
 tv (pbin (.int .i64) .add x3 (I 1)) fun v27 =>
 jmp [0,0,1,1,1,1,0,0,1,0,0,1,1,0,0,1,0,0,1,0,1,1,1] (f7_2_S x0 x1 x2 v27 y4 y5 y6 y7 y8 y9 y10 y11 y12 y13 y14 y15 y16 y17 y18)))) (
 tv (pbin (.int .i64) .add x2 (I 1)) fun v28 =>
 jmp [0,0,1,1,0,0,1,0,0,1,0,1,1,1] (f7_1_S x0 x1 v28 y4))
theorem f7_MR (x0:TV):aR prog 7 [x0]=f7_M x0:=by kernel_rfl
theorem f7_0_J  {x0 x1 y2:TV} {r:TV} (h:aa prog 7 (f7_0 x0 x1 y2) r):aa prog 7 (.jmp [0,0,1,0,1,1,1] (f7_0_S x0 x1 y2)) r:=aa.jmp (by kernel_rfl) h
theorem f7_1_J  {x0 x1 x2 y3:TV} {r:TV} (h:aa prog 7 (f7_1 x0 x1 x2 y3) r):aa prog 7 (.jmp [0,0,1,1,0,0,1,0,0,1,0,1,1,1] (f7_1_S x0 x1 x2 y3)) r:=aa.jmp (by kernel_rfl) h
theorem f7_2_J  {x0 x1 x2 x3 y4 y5 y6 y7 y8 y9 y10 y11 y12 y13 y14 y15 y16 y17 y18:TV} {r:TV} (h:aa prog 7 (f7_2 x0 x1 x2 x3 y4 y5 y6 y7 y8 y9 y10 y11 y12 y13 y14 y15 y16 y17 y18) r):aa prog 7 (.jmp [0,0,1,1,1,1,0,0,1,0,0,1,1,0,0,1,0,0,1,0,1,1,1] (f7_2_S x0 x1 x2 x3 y4 y5 y6 y7 y8 y9 y10 y11 y12 y13 y14 y15 y16 y17 y18)) r:=aa.jmp (by kernel_rfl) h
def f8_0_S  (x0 y1 w2:TV):ASt:=⟨[AV.one CA.junk,AV.one CA.junk,AV.one (CA.ptr 0 0),AV.one (CA.ptr 1 0),AV.one CA.junk,AV.one (CA.ptr 2 0),AV.tv x0] ++ List.replicate 34 (AV.one CA.junk),[some (BC.cells [CA.t y1]),some (BC.cells [CA.t (TV.lit (Value.func (Fn.func 19) (Array.mk []) (Array.mk [])))]),some (BC.cells [CA.sref 3 0 []]),some (BC.tree [w2])] ++ List.replicate 66 (none),List.replicate 5 (AV.one CA.junk)⟩
def f8_1_S  (x0 x1 x2 x3 y4 w5:TV):ASt:=⟨[AV.one CA.junk,AV.one CA.junk,AV.one (CA.ptr 0 0),AV.one (CA.ptr 1 0),AV.one CA.junk,AV.one (CA.ptr 2 0),AV.tv x0] ++ List.replicate 11 (AV.one CA.junk) ++ [AV.tv x1,AV.tv x2,AV.tv x3] ++ List.replicate 20 (AV.one CA.junk),[some (BC.cells [CA.t y4]),some (BC.cells [CA.t (TV.lit (Value.func (Fn.func 19) (Array.mk []) (Array.mk [])))]),some (BC.cells [CA.sref 3 0 []]),some (BC.tree [w5])] ++ List.replicate 66 (none),List.replicate 5 (AV.one CA.junk)⟩
def f8_2_S  (x0 x1 x2 y3 y4 y5 y6 w7 x8 x9 x10 x11 x12 x13:TV):ASt:=⟨[AV.tv x0,AV.clo 32 [CA.ptr 0 0,CA.ptr 1 0,CA.ptr 2 0]] ++ List.replicate 5 (AV.one CA.junk) ++ [AV.tv x1,AV.tv x2] ++ List.replicate 10 (AV.one CA.junk),[some (BC.cells [CA.t (TV.lit (Value.func (Fn.func 19) (Array.mk []) (Array.mk [])))]),some (BC.cells [CA.t y3,CA.t y4,CA.t y5]),some (BC.cells [CA.sref 4 0 []]),some (BC.cells [CA.t y6]),some (BC.tree [w7])] ++ List.replicate 93 (none),(List.replicate 7 (AV.one CA.junk) ++ [AV.one (CA.ptr 3 0),AV.one (CA.ptr 0 0),AV.one CA.junk,AV.one (CA.ptr 2 0),AV.tv x8,AV.tv x9] ++ List.replicate 10 (AV.one CA.junk) ++ [AV.tv x10,AV.tv x11,AV.tv x12] ++ List.replicate 9 (AV.one CA.junk) ++ [AV.tv x13] ++ List.replicate 19 (AV.one CA.junk))⟩
def f8_3_S  (x0 w1 y2 y3 y4 y5 y6 y7 y8 y9 y10 y11 y12 y13 y14 y15 y16 y17 y18 y19 y20 y21 y22 x23 x24 x25 x26 x27 x28 x29 x30 x31 x32:TV):ASt:=⟨[AV.one CA.junk,AV.one CA.junk,AV.one (CA.sref 0 0 []),AV.one (CA.ptr 1 0),AV.one (CA.ptr 2 0),AV.one CA.junk,AV.one CA.junk,AV.tv x0] ++ List.replicate 33 (AV.one CA.junk),[some (BC.tree [w1]),some (BC.cells [CA.t y2,CA.t y3,CA.t y4]),some (BC.cells [CA.t y5,CA.t y6,CA.t y7,CA.t y8,CA.t y9,CA.t y10,CA.t y11,CA.t y12,CA.t y13,CA.t y14,CA.t y15,CA.t y16,CA.t y17,CA.t y18]),some (BC.cells [CA.t y19]),some (BC.cells [CA.t (TV.lit (Value.func (Fn.func 19) (Array.mk []) (Array.mk [])))]),some (BC.cells [CA.sref 0 0 []]),some (BC.cells [CA.t y20,CA.t y21,CA.t y22])] ++ List.replicate 143 (none),(List.replicate 7 (AV.one CA.junk) ++ [AV.one (CA.ptr 3 0),AV.one (CA.ptr 4 0),AV.one CA.junk,AV.one (CA.ptr 5 0),AV.tv x23,AV.tv x24] ++ List.replicate 10 (AV.one CA.junk) ++ [AV.tv x25,AV.tv x26,AV.tv x27] ++ List.replicate 9 (AV.one CA.junk) ++ [AV.tv x28] ++ List.replicate 19 (AV.one CA.junk) ++ [AV.tv x29,AV.clo 32 [CA.ptr 4 0,CA.ptr 6 0,CA.ptr 5 0],AV.one CA.junk,AV.one CA.junk,AV.one CA.junk,AV.tv x30,AV.one CA.junk,AV.tv x31,AV.tv x32] ++ List.replicate 21 (AV.one CA.junk))⟩
def f8_M (x0:TV):Prg TV :=
 chk (TV.isAgg x0 1) (
 chk true (
 call 30 [agg [cell x0 0]] fun v0 =>
 chk (ac aj [v0] 0) (
 tv (pun .not v0) fun v1 =>
 Prg.ite (asBool v1) (
 chk true (
 ret (TV.lit bV))) (
 tv (plen (.slice 53) (cell x0 0)) fun v2 =>
 nat (aF v2) fun n3 =>
 nat (aF v2) fun n4 =>
 chk (Bool.and (Nat.ble n3 n4) (Nat.ble n4 4294967296)) (
 jmp [0,0,1,0,1,1,1,4,0,1] (f8_0_S (B true) (cell x0 0) (TV.sl true 1 (List.replicate n3 [B false]))))))))
def f8_0  (x0 y1 w2:TV):Prg TV :=
 Prg.ite (asBool x0) (
 tv (plen (.slice 53) y1) fun v5 =>
 jmp [0,0,1,1,0,1,0,0,1,0,1,1,1,4,0,1] (f8_1_S (B false) y1 v5 (I 0) y1 w2)) (
 chk (dL w2) (
 ret w2))
def f8_1  (x0 x1 x2 x3 y4 w5:TV):Prg TV :=
 tv (pbin (.int .i64) .lss x3 x2) fun v6 =>
 Prg.ite (asBool v6) (
 tvs (pidx 3 x1 x3) fun e7 =>
 chk (Nat.ble 3 (List.length e7)) (
 nat (slLen w5) fun n8 =>
 nat (aF x3) fun n9 =>
 chk (Bool.and (slSize w5 1) (Nat.blt n9 n8)) (
 tvs (pel w5 n9) fun e10 =>
 chk (ac aj e10 0) (
 tv (pun .not (nth hole e10 0)) fun v11 =>
 Prg.ite (asBool v11) (
 tv (plen (.slice 50) (nth hole e7 2)) fun v12 =>
 jmp [0,0,1,0,1,6,0,1,20,0,1,0,0,1,1,0,0,1,1,0,1,0,0,1,0,1,1,1,4,0,1] (f8_2_S (nth hole e7 2) v12 (I 0) (nth hole e7 0) (nth hole e7 1) (nth hole e7 2) y4 w5 x0 x3 x1 x2 x3 (B true))) (
 tv (pbin (.int .i64) .add x3 (I 1)) fun v13 =>
 jmp [0,0,1,1,0,1,0,0,1,0,1,1,1,4,0,1] (f8_1_S x0 x1 x2 v13 y4 w5)))))) (
 jmp [0,0,1,0,1,1,1,4,0,1] (f8_0_S x0 y4 w5))
def f8_2  (x0 x1 x2 y3 y4 y5 y6 w7 x8 x9 x10 x11 x12 x13:TV):Prg TV :=
 tv (pbin (.int .i64) .lss x2 x1) fun v14 =>
 Prg.ite (asBool v14) (
 tvs (pidx 14 x0 x2) fun e15 =>
 chk (Nat.ble 14 (List.length e15)) (
 tv (pbin (.int .i64) .eql (nth hole e15 6) (I 5)) fun v16 =>
 Prg.ite (asBool v16) (
 jmp [1,1,40010,0,1,66012,0,1,0,0,1,1,0,0,1,0,1,6,0,1,20,0,1,0,0,1,1,0,0,1,1,0,1,0,0,1,0,1,1,1,4,0,1] (f8_3_S (B true) w7 y3 y4 y5 (nth hole e15 0) (nth hole e15 1) (nth hole e15 2) (nth hole e15 3) (nth hole e15 4) (nth hole e15 5) (nth hole e15 6) (nth hole e15 7) (nth hole e15 8) (nth hole e15 9) (nth hole e15 10) (nth hole e15 11) (nth hole e15 12) (nth hole e15 13) y6 y3 y4 y5 x8 x9 x10 x11 x12 x13 x0 x2 x1 x2)) (
 tv (pbin (.int .i64) .eql (nth hole e15 6) (I 6)) fun v17 =>
 jmp [1,1,40010,0,1,66012,0,1,0,0,1,1,0,0,1,0,1,6,0,1,20,0,1,0,0,1,1,0,0,1,1,0,1,0,0,1,0,1,1,1,4,0,1] (f8_3_S v17 w7 y3 y4 y5 (nth hole e15 0) (nth hole e15 1) (nth hole e15 2) (nth hole e15 3) (nth hole e15 4) (nth hole e15 5) (nth hole e15 6) (nth hole e15 7) (nth hole e15 8) (nth hole e15 9) (nth hole e15 10) (nth hole e15 11) (nth hole e15 12) (nth hole e15 13) y6 y3 y4 y5 x8 x9 x10 x11 x12 x13 x0 x2 x1 x2)))) (
 tv (pbin (.int .i64) .geq (TV.lit (Value.int IntKind.i64 (-1))) (I 0)) fun v18 =>
 Prg.ite (asBool x13) (
 Prg.ite (asBool v18) (
 nat (slLen w7) fun n19 =>
 nat (aF x9) fun n20 =>
 chk (Bool.and (slSize w7 1) (Nat.blt n20 n19)) (
 tvs (pel w7 n20) fun e21 =>
 chk (ac aj e21 0) (
 tv (eT [] w7 n20 0 [B true]) fun v22 =>
 tv (pbin (.int .i64) .add x12 (I 1)) fun v23 =>
 jmp [0,0,1,1,0,1,0,0,1,0,1,1,1,4,0,1] (f8_1_S (B true) x10 x11 v23 y6 v22)))) (
 tv (pbin (.int .i64) .add x12 (I 1)) fun v24 =>
 jmp [0,0,1,1,0,1,0,0,1,0,1,1,1,4,0,1] (f8_1_S x8 x10 x11 v24 y6 w7))) (
 tv (pbin (.int .i64) .add x12 (I 1)) fun v25 =>
 jmp [0,0,1,1,0,1,0,0,1,0,1,1,1,4,0,1] (f8_1_S x8 x10 x11 v25 y6 w7)))
def f8_3  (x0 w1 y2 y3 y4 y5 y6 y7 y8 y9 y10 y11 y12 y13 y14 y15 y16 y17 y18 y19 y20 y21 y22 x23 x24 x25 x26 x27 x28 x29 x30 x31 x32:TV):Prg TV :=
 Prg.ite (asBool x0) (
 tv (pbin (.int .i64) .geq x30 (I 0)) fun v26 =>
 Prg.ite (asBool x28) (
 Prg.ite (asBool v26) (
 nat (slLen w1) fun n27 =>
 nat (aF x24) fun n28 =>
 chk (Bool.and (slSize w1 1) (Nat.blt n28 n27)) (
 tvs (pel w1 n28) fun e29 =>
 chk (ac aj e29 0) (
 tv (eT [] w1 n28 0 [B true]) fun v30 =>
 tv (pbin (.int .i64) .add x27 (I 1)) fun v31 =>
 jmp [0,0,1,1,0,1,0,0,1,0,1,1,1,4,0,1] (f8_1_S (B true) x25 x26 v31 y19 v30)))) (
 tv (pbin (.int .i64) .add x27 (I 1)) fun v32 =>
 jmp [0,0,1,1,0,1,0,0,1,0,1,1,1,4,0,1] (f8_1_S x23 x25 x26 v32 y19 w1))) (
 tv (pbin (.int .i64) .add x27 (I 1)) fun v33 =>
 jmp [0,0,1,1,0,1,0,0,1,0,1,1,1,4,0,1] (f8_1_S x23 x25 x26 v33 y19 w1))) (
 call 20 [agg [y5,y6,y7,y8,y9,y10,y11,y12,y13,y14,y15,y16,y17,y18],frz w1] fun v34 =>
 chk (ac aj [v34] 0) (
 Prg.ite (asBool v34) (
 tv (pbin (.int .i64) .geq x30 (I 0)) fun v35 =>
 Prg.ite (asBool x28) (
 Prg.ite (asBool v35) (
 nat (slLen w1) fun n36 =>
 nat (aF x24) fun n37 =>
 chk (Bool.and (slSize w1 1) (Nat.blt n37 n36)) (
 tvs (pel w1 n37) fun e38 =>
 chk (ac aj e38 0) (
 tv (eT [] w1 n37 0 [B true]) fun v39 =>
 tv (pbin (.int .i64) .add x27 (I 1)) fun v40 =>
 jmp [0,0,1,1,0,1,0,0,1,0,1,1,1,4,0,1] (f8_1_S (B true) x25 x26 v40 y19 v39)))) (
 tv (pbin (.int .i64) .add x27 (I 1)) fun v41 =>
 jmp [0,0,1,1,0,1,0,0,1,0,1,1,1,4,0,1] (f8_1_S x23 x25 x26 v41 y19 w1))) (
 tv (pbin (.int .i64) .add x27 (I 1)) fun v42 =>
 jmp [0,0,1,1,0,1,0,0,1,0,1,1,1,4,0,1] (f8_1_S x23 x25 x26 v42 y19 w1))) (
 call 21 [agg [y5,y6,y7,y8,y9,y10,y11,y12,y13,y14,y15,y16,y17,y18],frz w1] fun v43 =>
 chk (ac aj [v43] 0) (
 Prg.ite (asBool v43) (
 tvs (pidx 14 y4 y18) fun e44 =>
 chk (Nat.blt 3 (List.length e44)) (
 tv (pun .not (nth hole e44 3)) fun v45 =>
 Prg.ite (asBool v45) (
 tv (pbin (.int .i64) .geq x30 (I 0)) fun v46 =>
 Prg.ite (asBool x28) (
 Prg.ite (asBool v46) (
 nat (slLen w1) fun n47 =>
 nat (aF x24) fun n48 =>
 chk (Bool.and (slSize w1 1) (Nat.blt n48 n47)) (
 tvs (pel w1 n48) fun e49 =>
 chk (ac aj e49 0) (
 tv (eT [] w1 n48 0 [B true]) fun v50 =>
 tv (pbin (.int .i64) .add x27 (I 1)) fun v51 =>
 jmp [0,0,1,1,0,1,0,0,1,0,1,1,1,4,0,1] (f8_1_S (B true) x25 x26 v51 y19 v50)))) (
 tv (pbin (.int .i64) .add x27 (I 1)) fun v52 =>
 jmp [0,0,1,1,0,1,0,0,1,0,1,1,1,4,0,1] (f8_1_S x23 x25 x26 v52 y19 w1))) (
 tv (pbin (.int .i64) .add x27 (I 1)) fun v53 =>
 jmp [0,0,1,1,0,1,0,0,1,0,1,1,1,4,0,1] (f8_1_S x23 x25 x26 v53 y19 w1))) (
 tv (pbin (.int .i64) .add x32 (I 1)) fun v54 =>
 jmp [0,0,1,0,1,6,0,1,20,0,1,0,0,1,1,0,0,1,1,0,1,0,0,1,0,1,1,1,4,0,1] (f8_2_S x29 x31 v54 y20 y21 y22 y19 w1 x23 x24 x25 x26 x27 x28)))) (
 tv (pbin (.int .i64) .add x32 (I 1)) fun v55 =>
 jmp [0,0,1,0,1,6,0,1,20,0,1,0,0,1,1,0,0,1,1,0,1,0,0,1,0,1,1,1,4,0,1] (f8_2_S x29 x31 v55 y20 y21 y22 y19 w1 x23 x24 x25 x26 x27 x28))))))
theorem f8_MR (x0:TV):aR prog 8 [x0]=f8_M x0:=by kernel_rfl
theorem f8_0_J  {x0 y1 w2:TV} {r:TV} (h:aa prog 8 (f8_0 x0 y1 w2) r):aa prog 8 (.jmp [0,0,1,0,1,1,1,4,0,1] (f8_0_S x0 y1 w2)) r:=aa.jmp (by kernel_rfl) h
theorem f8_1_J  {x0 x1 x2 x3 y4 w5:TV} {r:TV} (h:aa prog 8 (f8_1 x0 x1 x2 x3 y4 w5) r):aa prog 8 (.jmp [0,0,1,1,0,1,0,0,1,0,1,1,1,4,0,1] (f8_1_S x0 x1 x2 x3 y4 w5)) r:=aa.jmp (by kernel_rfl) h
theorem f8_2_J  {x0 x1 x2 y3 y4 y5 y6 w7 x8 x9 x10 x11 x12 x13:TV} {r:TV} (h:aa prog 8 (f8_2 x0 x1 x2 y3 y4 y5 y6 w7 x8 x9 x10 x11 x12 x13) r):aa prog 8 (.jmp [0,0,1,0,1,6,0,1,20,0,1,0,0,1,1,0,0,1,1,0,1,0,0,1,0,1,1,1,4,0,1] (f8_2_S x0 x1 x2 y3 y4 y5 y6 w7 x8 x9 x10 x11 x12 x13)) r:=aa.jmp (by kernel_rfl) h
theorem f8_3_J  {x0 w1 y2 y3 y4 y5 y6 y7 y8 y9 y10 y11 y12 y13 y14 y15 y16 y17 y18 y19 y20 y21 y22 x23 x24 x25 x26 x27 x28 x29 x30 x31 x32:TV} {r:TV} (h:aa prog 8 (f8_3 x0 w1 y2 y3 y4 y5 y6 y7 y8 y9 y10 y11 y12 y13 y14 y15 y16 y17 y18 y19 y20 y21 y22 x23 x24 x25 x26 x27 x28 x29 x30 x31 x32) r):aa prog 8 (.jmp [1,1,40010,0,1,66012,0,1,0,0,1,1,0,0,1,0,1,6,0,1,20,0,1,0,0,1,1,0,0,1,1,0,1,0,0,1,0,1,1,1,4,0,1] (f8_3_S x0 w1 y2 y3 y4 y5 y6 y7 y8 y9 y10 y11 y12 y13 y14 y15 y16 y17 y18 y19 y20 y21 y22 x23 x24 x25 x26 x27 x28 x29 x30 x31 x32)) r:=aa.jmp (by kernel_rfl) h
def f9_0_S  (x0 y1 w2 w3:TV):ASt:=⟨[AV.one CA.junk,AV.one CA.junk,AV.one (CA.ptr 0 0),AV.one (CA.ptr 1 0),AV.one CA.junk,AV.one (CA.ptr 2 0),AV.tv x0] ++ List.replicate 34 (AV.one CA.junk),[some (BC.cells [CA.t y1]),some (BC.cells [CA.fn1 35 3]),some (BC.cells [CA.sref 4 0 []]),some (BC.cells [CA.sref 5 0 []]),some (BC.tree [w2]),some (BC.tree [w3])] ++ List.replicate 66 (none),List.replicate 7 (AV.one CA.junk)⟩
def f9_1_S  (x0 x1 x2 x3 y4 w5 w6:TV):ASt:=⟨[AV.one CA.junk,AV.one CA.junk,AV.one (CA.ptr 0 0),AV.one (CA.ptr 1 0),AV.one CA.junk,AV.one (CA.ptr 2 0),AV.tv x0] ++ List.replicate 11 (AV.one CA.junk) ++ [AV.tv x1,AV.tv x2,AV.tv x3] ++ List.replicate 20 (AV.one CA.junk),[some (BC.cells [CA.t y4]),some (BC.cells [CA.fn1 35 3]),some (BC.cells [CA.sref 4 0 []]),some (BC.cells [CA.sref 5 0 []]),some (BC.tree [w5]),some (BC.tree [w6])] ++ List.replicate 66 (none),List.replicate 7 (AV.one CA.junk)⟩
def f9_2_S  (x0 x1 x2 y3 y4 y5 y6 w7 w8 x9 x10 x11 x12 x13 x14:TV):ASt:=⟨[AV.tv x0,AV.clo 32 [CA.ptr 0 0,CA.ptr 1 0,CA.ptr 2 0]] ++ List.replicate 5 (AV.one CA.junk) ++ [AV.tv x1,AV.tv x2] ++ List.replicate 10 (AV.one CA.junk),[some (BC.cells [CA.fn1 35 4]),some (BC.cells [CA.t y3,CA.t y4,CA.t y5]),some (BC.cells [CA.sref 5 0 []]),some (BC.cells [CA.t y6]),some (BC.cells [CA.sref 6 0 []]),some (BC.tree [w7]),some (BC.tree [w8])] ++ List.replicate 93 (none),(List.replicate 9 (AV.one CA.junk) ++ [AV.one (CA.ptr 3 0),AV.one (CA.ptr 0 0),AV.one CA.junk,AV.one (CA.ptr 2 0),AV.tv x9,AV.tv x10] ++ List.replicate 10 (AV.one CA.junk) ++ [AV.tv x11,AV.tv x12,AV.tv x13] ++ List.replicate 9 (AV.one CA.junk) ++ [AV.tv x14] ++ List.replicate 19 (AV.one CA.junk))⟩
def f9_3_S  (x0 x1 x2 y3 y4 y5 y6 w7 y8 y9 y10 y11 y12 y13 y14 y15 y16 y17 y18 y19 y20 y21 w22 x23 x24 x25 x26 x27 x28 x29 x30 x31 x32:TV):ASt:=⟨[AV.tv x0,AV.clo 36 [CA.ptr 0 0]] ++ List.replicate 5 (AV.one CA.junk) ++ [AV.tv x1,AV.tv x2] ++ List.replicate 10 (AV.one CA.junk),[some (BC.cells [CA.sref 7 0 []]),some (BC.cells [CA.t y3]),some (BC.cells [CA.fn1 35 0]),some (BC.cells [CA.sref 5 0 []]),some (BC.cells [CA.t y4,CA.t y5,CA.t y6]),some (BC.tree [w7]),some (BC.cells [CA.t y8,CA.t y9,CA.t y10,CA.t y11,CA.t y12,CA.t y13,CA.t y14,CA.t y15,CA.t y16,CA.t y17,CA.t y18,CA.t y19,CA.t y20,CA.t y21]),some (BC.tree [w22])] ++ List.replicate 155 (none),(List.replicate 9 (AV.one CA.junk) ++ [AV.one (CA.ptr 1 0),AV.one (CA.ptr 2 0),AV.one CA.junk,AV.one (CA.ptr 3 0),AV.tv x23,AV.tv x24] ++ List.replicate 10 (AV.one CA.junk) ++ [AV.tv x25,AV.tv x26,AV.tv x27] ++ List.replicate 9 (AV.one CA.junk) ++ [AV.tv x28] ++ List.replicate 19 (AV.one CA.junk) ++ [AV.tv x29,AV.clo 32 [CA.ptr 2 0,CA.ptr 4 0,CA.ptr 3 0],AV.one CA.junk,AV.one CA.junk,AV.one CA.junk,AV.tv x30,AV.one CA.junk,AV.tv x31,AV.tv x32] ++ List.replicate 23 (AV.one CA.junk) ++ [AV.one (CA.sref 5 0 []),AV.one CA.junk,AV.one CA.junk,AV.one (CA.ptr 6 0)] ++ List.replicate 27 (AV.one CA.junk))⟩
noncomputable def f9_M (x0:TV):Prg TV :=
 chk (TV.isAgg x0 1) (
 chk (Bool.and (wN (cell x0 0) (cell x0 0)) true) (
 call 30 [agg [cell x0 0]] fun v0 =>
 chk (ac aj [v0] 0) (
 tv (pun .not v0) fun v1 =>
 Prg.ite (asBool v1) (
 chk true (
 ret (TV.lit bV))) (
 tv (plen (.slice 53) (cell x0 0)) fun v2 =>
 nat (aF v2) fun n3 =>
 nat (aF v2) fun n4 =>
 chk (Bool.and (Nat.ble n3 n4) (Nat.ble n4 4294967296)) (
 jmp [0,0,1,0,1,1,1,8,0,1] (f9_0_S (B true) (cell x0 0) (TV.sl true 1 (List.replicate n3 [B false])) (TV.sl true 1 (chunks 1 2 [I 12,I 13]))))))))
def f9_0  (x0 y1 w2 w3:TV):Prg TV :=
 Prg.ite (asBool x0) (
 tv (plen (.slice 53) y1) fun v5 =>
 jmp [0,0,1,1,0,1,0,0,1,0,1,1,1,8,0,1] (f9_1_S (B false) y1 v5 (I 0) y1 w2 w3)) (
 chk (dL w2) (
 ret w2))
def f9_1  (x0 x1 x2 x3 y4 w5 w6:TV):Prg TV :=
 tv (pbin (.int .i64) .lss x3 x2) fun v6 =>
 Prg.ite (asBool v6) (
 tvs (pidx 3 x1 x3) fun e7 =>
 chk (Nat.ble 3 (List.length e7)) (
 nat (slLen w5) fun n8 =>
 nat (aF x3) fun n9 =>
 chk (Bool.and (slSize w5 1) (Nat.blt n9 n8)) (
 tvs (pel w5 n9) fun e10 =>
 chk (ac aj e10 0) (
 tv (pun .not (nth hole e10 0)) fun v11 =>
 Prg.ite (asBool v11) (
 tv (plen (.slice 50) (nth hole e7 2)) fun v12 =>
 jmp [0,0,1,0,1,6,0,1,20,0,1,0,0,1,1,0,0,1,1,0,1,0,0,1,0,1,1,1,8,0,1] (f9_2_S (nth hole e7 2) v12 (I 0) (nth hole e7 0) (nth hole e7 1) (nth hole e7 2) y4 w5 w6 x0 x3 x1 x2 x3 (B true))) (
 tv (pbin (.int .i64) .add x3 (I 1)) fun v13 =>
 jmp [0,0,1,1,0,1,0,0,1,0,1,1,1,8,0,1] (f9_1_S x0 x1 x2 v13 y4 w5 w6)))))) (
 jmp [0,0,1,0,1,1,1,8,0,1] (f9_0_S x0 y4 w5 w6))
def f9_2  (x0 x1 x2 y3 y4 y5 y6 w7 w8 x9 x10 x11 x12 x13 x14:TV):Prg TV :=
 tv (pbin (.int .i64) .lss x2 x1) fun v14 =>
 Prg.ite (asBool v14) (
 tvs (pidx 14 x0 x2) fun e15 =>
 chk (Nat.ble 14 (List.length e15)) (
 tv (plen (.slice 57) (nth hole e15 5)) fun v16 =>
 jmp [0,0,1,0,1,6,0,1,8,0,1,72010,0,1,66012,0,1,0,0,1,1,0,0,1,0,1,6,0,1,20,0,1,0,0,1,1,0,0,1,1,0,1,0,0,1,0,1,1,1,8,0,1] (f9_3_S (nth hole e15 5) v16 (I 0) y6 y3 y4 y5 w7 (nth hole e15 0) (nth hole e15 1) (nth hole e15 2) (nth hole e15 3) (nth hole e15 4) (nth hole e15 5) (nth hole e15 6) (nth hole e15 7) (nth hole e15 8) (nth hole e15 9) (nth hole e15 10) (nth hole e15 11) (nth hole e15 12) (nth hole e15 13) w8 x9 x10 x11 x12 x13 x14 x0 x2 x1 x2))) (
 tv (pbin (.int .i64) .geq (TV.lit (Value.int IntKind.i64 (-1))) (I 0)) fun v17 =>
 Prg.ite (asBool x14) (
 Prg.ite (asBool v17) (
 nat (slLen w7) fun n18 =>
 nat (aF x10) fun n19 =>
 chk (Bool.and (slSize w7 1) (Nat.blt n19 n18)) (
 tvs (pel w7 n19) fun e20 =>
 chk (ac aj e20 0) (
 tv (eT [] w7 n19 0 [B true]) fun v21 =>
 tv (pbin (.int .i64) .add x13 (I 1)) fun v22 =>
 jmp [0,0,1,1,0,1,0,0,1,0,1,1,1,8,0,1] (f9_1_S (B true) x11 x12 v22 y6 v21 w8)))) (
 tv (pbin (.int .i64) .add x13 (I 1)) fun v23 =>
 jmp [0,0,1,1,0,1,0,0,1,0,1,1,1,8,0,1] (f9_1_S x9 x11 x12 v23 y6 w7 w8))) (
 tv (pbin (.int .i64) .add x13 (I 1)) fun v24 =>
 jmp [0,0,1,1,0,1,0,0,1,0,1,1,1,8,0,1] (f9_1_S x9 x11 x12 v24 y6 w7 w8)))
def f9_3  (x0 x1 x2 y3 y4 y5 y6 w7 y8 y9 y10 y11 y12 y13 y14 y15 y16 y17 y18 y19 y20 y21 w22 x23 x24 x25 x26 x27 x28 x29 x30 x31 x32:TV):Prg TV :=
 tv (pbin (.int .i64) .lss x2 x1) fun v25 =>
 Prg.ite (asBool v25) (
 tvs (pidx 7 x0 x2) fun e26 =>
 chk (Nat.ble 7 (List.length e26)) (
 call 37 [frz w22,nth hole e26 0] fun v27 =>
 chk (ac aj [v27] 0) (
 Prg.ite (asBool v27) (
 tv (pbin (.int .i64) .geq x2 (I 0)) fun v28 =>
 Prg.ite (asBool v28) (
 tv (pbin (.int .i64) .geq x30 (I 0)) fun v29 =>
 Prg.ite (asBool x28) (
 Prg.ite (asBool v29) (
 nat (slLen w7) fun n30 =>
 nat (aF x24) fun n31 =>
 chk (Bool.and (slSize w7 1) (Nat.blt n31 n30)) (
 tvs (pel w7 n31) fun e32 =>
 chk (ac aj e32 0) (
 tv (eT [] w7 n31 0 [B true]) fun v33 =>
 tv (pbin (.int .i64) .add x27 (I 1)) fun v34 =>
 jmp [0,0,1,1,0,1,0,0,1,0,1,1,1,8,0,1] (f9_1_S (B true) x25 x26 v34 y3 v33 w22)))) (
 tv (pbin (.int .i64) .add x27 (I 1)) fun v35 =>
 jmp [0,0,1,1,0,1,0,0,1,0,1,1,1,8,0,1] (f9_1_S x23 x25 x26 v35 y3 w7 w22))) (
 tv (pbin (.int .i64) .add x27 (I 1)) fun v36 =>
 jmp [0,0,1,1,0,1,0,0,1,0,1,1,1,8,0,1] (f9_1_S x23 x25 x26 v36 y3 w7 w22))) (
 call 20 [agg [y8,y9,y10,y11,y12,y13,y14,y15,y16,y17,y18,y19,y20,y21],frz w7] fun v37 =>
 chk (ac aj [v37] 0) (
 Prg.ite (asBool v37) (
 tv (pbin (.int .i64) .geq x30 (I 0)) fun v38 =>
 Prg.ite (asBool x28) (
 Prg.ite (asBool v38) (
 nat (slLen w7) fun n39 =>
 nat (aF x24) fun n40 =>
 chk (Bool.and (slSize w7 1) (Nat.blt n40 n39)) (
 tvs (pel w7 n40) fun e41 =>
 chk (ac aj e41 0) (
 tv (eT [] w7 n40 0 [B true]) fun v42 =>
 tv (pbin (.int .i64) .add x27 (I 1)) fun v43 =>
 jmp [0,0,1,1,0,1,0,0,1,0,1,1,1,8,0,1] (f9_1_S (B true) x25 x26 v43 y3 v42 w22)))) (
 tv (pbin (.int .i64) .add x27 (I 1)) fun v44 =>
 jmp [0,0,1,1,0,1,0,0,1,0,1,1,1,8,0,1] (f9_1_S x23 x25 x26 v44 y3 w7 w22))) (
 tv (pbin (.int .i64) .add x27 (I 1)) fun v45 =>
 jmp [0,0,1,1,0,1,0,0,1,0,1,1,1,8,0,1] (f9_1_S x23 x25 x26 v45 y3 w7 w22))) (
 call 21 [agg [y8,y9,y10,y11,y12,y13,y14,y15,y16,y17,y18,y19,y20,y21],frz w7] fun v46 =>
 chk (ac aj [v46] 0) (
 Prg.ite (asBool v46) (
 tv (pbin (.int .i64) .geq x30 (I 0)) fun v47 =>
 Prg.ite (asBool x28) (
 Prg.ite (asBool v47) (
 nat (slLen w7) fun n48 =>
 nat (aF x24) fun n49 =>
 chk (Bool.and (slSize w7 1) (Nat.blt n49 n48)) (
 tvs (pel w7 n49) fun e50 =>
 chk (ac aj e50 0) (
 tv (eT [] w7 n49 0 [B true]) fun v51 =>
 tv (pbin (.int .i64) .add x27 (I 1)) fun v52 =>
 jmp [0,0,1,1,0,1,0,0,1,0,1,1,1,8,0,1] (f9_1_S (B true) x25 x26 v52 y3 v51 w22)))) (
 tv (pbin (.int .i64) .add x27 (I 1)) fun v53 =>
 jmp [0,0,1,1,0,1,0,0,1,0,1,1,1,8,0,1] (f9_1_S x23 x25 x26 v53 y3 w7 w22))) (
 tv (pbin (.int .i64) .add x27 (I 1)) fun v54 =>
 jmp [0,0,1,1,0,1,0,0,1,0,1,1,1,8,0,1] (f9_1_S x23 x25 x26 v54 y3 w7 w22))) (
 tv (pbin (.int .i64) .add x32 (I 1)) fun v55 =>
 jmp [0,0,1,0,1,6,0,1,20,0,1,0,0,1,1,0,0,1,1,0,1,0,0,1,0,1,1,1,8,0,1] (f9_2_S x29 x31 v55 y4 y5 y6 y3 w7 w22 x23 x24 x25 x26 x27 x28))))))) (
 tv (pbin (.int .i64) .add x2 (I 1)) fun v56 =>
 jmp [0,0,1,0,1,6,0,1,8,0,1,72010,0,1,66012,0,1,0,0,1,1,0,0,1,0,1,6,0,1,20,0,1,0,0,1,1,0,0,1,1,0,1,0,0,1,0,1,1,1,8,0,1] (f9_3_S x0 x1 v56 y3 y4 y5 y6 w7 y8 y9 y10 y11 y12 y13 y14 y15 y16 y17 y18 y19 y20 y21 w22 x23 x24 x25 x26 x27 x28 x29 x30 x31 x32))))) (
 tv (pbin (.int .i64) .geq (TV.lit (Value.int IntKind.i64 (-1))) (I 0)) fun v57 =>
 Prg.ite (asBool v57) (
 tv (pbin (.int .i64) .geq x30 (I 0)) fun v58 =>
 Prg.ite (asBool x28) (
 Prg.ite (asBool v58) (
 nat (slLen w7) fun n59 =>
 nat (aF x24) fun n60 =>
 chk (Bool.and (slSize w7 1) (Nat.blt n60 n59)) (
 tvs (pel w7 n60) fun e61 =>
 chk (ac aj e61 0) (
 tv (eT [] w7 n60 0 [B true]) fun v62 =>
 tv (pbin (.int .i64) .add x27 (I 1)) fun v63 =>
 jmp [0,0,1,1,0,1,0,0,1,0,1,1,1,8,0,1] (f9_1_S (B true) x25 x26 v63 y3 v62 w22)))) (
 tv (pbin (.int .i64) .add x27 (I 1)) fun v64 =>
 jmp [0,0,1,1,0,1,0,0,1,0,1,1,1,8,0,1] (f9_1_S x23 x25 x26 v64 y3 w7 w22))) (
 tv (pbin (.int .i64) .add x27 (I 1)) fun v65 =>
 jmp [0,0,1,1,0,1,0,0,1,0,1,1,1,8,0,1] (f9_1_S x23 x25 x26 v65 y3 w7 w22))) (
 call 20 [agg [y8,y9,y10,y11,y12,y13,y14,y15,y16,y17,y18,y19,y20,y21],frz w7] fun v66 =>
 chk (ac aj [v66] 0) (
 Prg.ite (asBool v66) (
 tv (pbin (.int .i64) .geq x30 (I 0)) fun v67 =>
 Prg.ite (asBool x28) (
 Prg.ite (asBool v67) (
 nat (slLen w7) fun n68 =>
 nat (aF x24) fun n69 =>
 chk (Bool.and (slSize w7 1) (Nat.blt n69 n68)) (
 tvs (pel w7 n69) fun e70 =>
 chk (ac aj e70 0) (
 tv (eT [] w7 n69 0 [B true]) fun v71 =>
 tv (pbin (.int .i64) .add x27 (I 1)) fun v72 =>
 jmp [0,0,1,1,0,1,0,0,1,0,1,1,1,8,0,1] (f9_1_S (B true) x25 x26 v72 y3 v71 w22)))) (
 tv (pbin (.int .i64) .add x27 (I 1)) fun v73 =>
 jmp [0,0,1,1,0,1,0,0,1,0,1,1,1,8,0,1] (f9_1_S x23 x25 x26 v73 y3 w7 w22))) (
 tv (pbin (.int .i64) .add x27 (I 1)) fun v74 =>
 jmp [0,0,1,1,0,1,0,0,1,0,1,1,1,8,0,1] (f9_1_S x23 x25 x26 v74 y3 w7 w22))) (
 call 21 [agg [y8,y9,y10,y11,y12,y13,y14,y15,y16,y17,y18,y19,y20,y21],frz w7] fun v75 =>
 chk (ac aj [v75] 0) (
 Prg.ite (asBool v75) (
 tv (pbin (.int .i64) .geq x30 (I 0)) fun v76 =>
 Prg.ite (asBool x28) (
 Prg.ite (asBool v76) (
 nat (slLen w7) fun n77 =>
 nat (aF x24) fun n78 =>
 chk (Bool.and (slSize w7 1) (Nat.blt n78 n77)) (
 tvs (pel w7 n78) fun e79 =>
 chk (ac aj e79 0) (
 tv (eT [] w7 n78 0 [B true]) fun v80 =>
 tv (pbin (.int .i64) .add x27 (I 1)) fun v81 =>
 jmp [0,0,1,1,0,1,0,0,1,0,1,1,1,8,0,1] (f9_1_S (B true) x25 x26 v81 y3 v80 w22)))) (
 tv (pbin (.int .i64) .add x27 (I 1)) fun v82 =>
 jmp [0,0,1,1,0,1,0,0,1,0,1,1,1,8,0,1] (f9_1_S x23 x25 x26 v82 y3 w7 w22))) (
 tv (pbin (.int .i64) .add x27 (I 1)) fun v83 =>
 jmp [0,0,1,1,0,1,0,0,1,0,1,1,1,8,0,1] (f9_1_S x23 x25 x26 v83 y3 w7 w22))) (
 tv (pbin (.int .i64) .add x32 (I 1)) fun v84 =>
 jmp [0,0,1,0,1,6,0,1,20,0,1,0,0,1,1,0,0,1,1,0,1,0,0,1,0,1,1,1,8,0,1] (f9_2_S x29 x31 v84 y4 y5 y6 y3 w7 w22 x23 x24 x25 x26 x27 x28)))))))
theorem f9_MR (x0:TV):aR prog 9 [x0]=f9_M x0:=by kernel_rfl
theorem f9_0_J  {x0 y1 w2 w3:TV} {r:TV} (h:aa prog 9 (f9_0 x0 y1 w2 w3) r):aa prog 9 (.jmp [0,0,1,0,1,1,1,8,0,1] (f9_0_S x0 y1 w2 w3)) r:=aa.jmp (by kernel_rfl) h
theorem f9_1_J  {x0 x1 x2 x3 y4 w5 w6:TV} {r:TV} (h:aa prog 9 (f9_1 x0 x1 x2 x3 y4 w5 w6) r):aa prog 9 (.jmp [0,0,1,1,0,1,0,0,1,0,1,1,1,8,0,1] (f9_1_S x0 x1 x2 x3 y4 w5 w6)) r:=aa.jmp (by kernel_rfl) h
theorem f9_2_J  {x0 x1 x2 y3 y4 y5 y6 w7 w8 x9 x10 x11 x12 x13 x14:TV} {r:TV} (h:aa prog 9 (f9_2 x0 x1 x2 y3 y4 y5 y6 w7 w8 x9 x10 x11 x12 x13 x14) r):aa prog 9 (.jmp [0,0,1,0,1,6,0,1,20,0,1,0,0,1,1,0,0,1,1,0,1,0,0,1,0,1,1,1,8,0,1] (f9_2_S x0 x1 x2 y3 y4 y5 y6 w7 w8 x9 x10 x11 x12 x13 x14)) r:=aa.jmp (by kernel_rfl) h
theorem f9_3_J  {x0 x1 x2 y3 y4 y5 y6 w7 y8 y9 y10 y11 y12 y13 y14 y15 y16 y17 y18 y19 y20 y21 w22 x23 x24 x25 x26 x27 x28 x29 x30 x31 x32:TV} {r:TV} (h:aa prog 9 (f9_3 x0 x1 x2 y3 y4 y5 y6 w7 y8 y9 y10 y11 y12 y13 y14 y15 y16 y17 y18 y19 y20 y21 w22 x23 x24 x25 x26 x27 x28 x29 x30 x31 x32) r):aa prog 9 (.jmp [0,0,1,0,1,6,0,1,8,0,1,72010,0,1,66012,0,1,0,0,1,1,0,0,1,0,1,6,0,1,20,0,1,0,0,1,1,0,0,1,1,0,1,0,0,1,0,1,1,1,8,0,1] (f9_3_S x0 x1 x2 y3 y4 y5 y6 w7 y8 y9 y10 y11 y12 y13 y14 y15 y16 y17 y18 y19 y20 y21 w22 x23 x24 x25 x26 x27 x28 x29 x30 x31 x32)) r:=aa.jmp (by kernel_rfl) h
end Go.Ab.T12

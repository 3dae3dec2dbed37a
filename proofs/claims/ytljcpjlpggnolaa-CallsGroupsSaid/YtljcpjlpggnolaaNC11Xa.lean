import Derived.Test.YtljcpjlpggnolaaNC11T
set_option linter.all false
set_option maxRecDepth 100000
namespace Go.Ab.C11
open Go Go.Ab Go.Proofs
open Go.Ab.TV (hole cell comp isSl isSc isTup cellsL tup agg)
open Go.Ab.Prg (tv tvs rws nat chk call jmp ret)
def f4_0_S  (x0 x1 y2 w3 w4:TV):ASt:=⟨[AV.one CA.junk,AV.one (CA.ptr 0 0),AV.one CA.junk,AV.one (CA.sref 1 0 []),AV.one (CA.sref 2 0 []),AV.tv x0,AV.tv x1] ++ List.replicate 143 (AV.one CA.junk),[some (BC.cells [CA.t y2]),some (BC.tree [w3]),some (BC.tree [w4])] ++ List.replicate 171 (none),[]⟩
def f4_1_S  (x0 x1 x2 y3 w4 w5:TV):ASt:=⟨[AV.one CA.junk,AV.one (CA.ptr 0 0),AV.one CA.junk,AV.one (CA.sref 1 0 []),AV.one (CA.sref 2 0 []),AV.tv x0,AV.tv x1,AV.tv x2] ++ List.replicate 142 (AV.one CA.junk),[some (BC.cells [CA.t y3]),some (BC.tree [w4]),some (BC.tree [w5])] ++ List.replicate 171 (none),[]⟩
def f4_2_S  (x0 y1 w2:TV):ASt:=⟨[AV.one CA.junk,AV.one (CA.ptr 0 0),AV.one CA.junk,AV.one CA.junk,AV.one (CA.sref 1 0 []),AV.tv x0] ++ List.replicate 144 (AV.one CA.junk),[some (BC.cells [CA.t y1]),some (BC.tree [w2])] ++ List.replicate 172 (none),[]⟩
def f4_3_S  (x0 x1 x2 y3 w4 w5:TV):ASt:=⟨[AV.one CA.junk,AV.one (CA.ptr 0 0),AV.one CA.junk,AV.one (CA.sref 1 0 []),AV.one (CA.sref 2 0 []),AV.tv x0,AV.tv x1,AV.tv x2] ++ List.replicate 142 (AV.one CA.junk),[some (BC.cells [CA.t y3]),some (BC.tree [w4]),some (BC.tree [w5])] ++ List.replicate 171 (none),[]⟩
def f4_4_S  (x0 y1 w2:TV):ASt:=⟨[AV.one CA.junk,AV.one (CA.ptr 0 0),AV.one CA.junk,AV.one CA.junk,AV.one (CA.sref 1 0 []),AV.one CA.junk,AV.one CA.junk,AV.one CA.junk,AV.tv x0] ++ List.replicate 141 (AV.one CA.junk),[some (BC.cells [CA.t y1]),some (BC.tree [w2])] ++ List.replicate 172 (none),[]⟩
def f4_5_S  (x0 x1 y2 w3:TV):ASt:=⟨[AV.one CA.junk,AV.one (CA.ptr 0 0),AV.one CA.junk,AV.one CA.junk,AV.one (CA.sref 1 0 []),AV.one CA.junk,AV.one CA.junk,AV.one CA.junk,AV.tv x0,AV.tv x1] ++ List.replicate 140 (AV.one CA.junk),[some (BC.cells [CA.t y2]),some (BC.tree [w3])] ++ List.replicate 172 (none),[]⟩
def f4_6_S  (x0 x1 x2 y3 w4:TV):ASt:=⟨[AV.one CA.junk,AV.one (CA.ptr 0 0),AV.one CA.junk,AV.one CA.junk,AV.one (CA.sref 1 0 []),AV.one CA.junk,AV.one CA.junk,AV.one CA.junk,AV.tv x0,AV.tv x1,AV.tv x2] ++ List.replicate 139 (AV.one CA.junk),[some (BC.cells [CA.t y3]),some (BC.tree [w4])] ++ List.replicate 172 (none),[]⟩
def f4_M (x0:TV):Prg TV :=
 chk (TV.isAgg x0 1) (
 call 6 [] fun v0 =>
 chk (ae fO [v0] 0) (
 tv (pun .not v0) fun v1 =>
 Prg.ite (asBool v1) (
 ret (B false)) (
 call 7 [agg [cell x0 0]] fun v2 =>
 chk (ae fO [v2] 0) (
 tv (pun .not v2) fun v3 =>
 Prg.ite (asBool v3) (
 ret (B true)) (
 call 15 [agg [cell x0 0]] fun v4 =>
 chk (ae zSl [v4] 0) (
 tv (plen (.slice 38) (cell x0 0)) fun v5 =>
 nat (ab v5) fun n6 =>
 nat (ab v5) fun n7 =>
 chk (Bool.and (Nat.ble n6 n7) (Nat.ble n7 4294967296)) (
 jmp [0,0,1,0,1,1,1,1,1,1] (f4_0_S (I 0) (I 0) (cell x0 0) v4 (TV.sl true 1 (List.replicate n6 [I 0]))))))))))
def f4_0  (x0 x1 y2 w3 w4:TV):Prg TV :=
 tv (plen (.slice 28) w3) fun v8 =>
 tv (pbin (.int .i64) .lss x1 v8) fun v9 =>
 Prg.ite (asBool v9) (
 jmp [0,0,1,0,0,1,0,0,1,0,1,1,1,1,1,1] (f4_1_S x0 x1 (I 0) y2 w3 w4)) (
 jmp [1,1,1,1,1,1,1] (f4_2_S x0 y2 w4))
def f4_1  (x0 x1 x2 y3 w4 w5:TV):Prg TV :=
 nat (slLen w4) fun n10 =>
 nat (ab x1) fun n11 =>
 chk (Bool.and (slSize w4 1) (Nat.blt n11 n10)) (
 tvs (pel w4 n11) fun e12 =>
 chk (ae zSl e12 0) (
 tv (bp [(n11,0)] w4) fun v13 =>
 tv (plen (.slice 3) v13) fun v14 =>
 tv (pbin (.int .i64) .lss x2 v14) fun v15 =>
 Prg.ite (asBool v15) (
 nat (slLen w4) fun n16 =>
 nat (ab x1) fun n17 =>
 chk (Bool.and (slSize w4 1) (Nat.blt n17 n16)) (
 tvs (pel w4 n17) fun e18 =>
 chk (ae zSl e18 0) (
 tv (bp [(n17,0)] w4) fun v19 =>
 nat (slLen v19) fun n20 =>
 nat (ab x2) fun n21 =>
 chk (Bool.and (slSize v19 1) (Nat.blt n21 n20)) (
 tv (bp [(n17,0)] w4) fun v22 =>
 tvs (pel v22 n21) fun e23 =>
 chk (ae bq e23 0) (
 tv (pbin (.int .i64) .lss (nth hole e23 0) (I 0)) fun v24 =>
 Prg.ite (asBool v24) (
 ret (B false)) (
 nat (slLen w4) fun n25 =>
 nat (ab x1) fun n26 =>
 chk (Bool.and (slSize w4 1) (Nat.blt n26 n25)) (
 tvs (pel w4 n26) fun e27 =>
 chk (ae zSl e27 0) (
 tv (bp [(n26,0)] w4) fun v28 =>
 nat (slLen v28) fun n29 =>
 nat (ab x2) fun n30 =>
 chk (Bool.and (slSize v28 1) (Nat.blt n30 n29)) (
 tv (bp [(n26,0)] w4) fun v31 =>
 tvs (pel v31 n30) fun e32 =>
 chk (ae bq e32 0) (
 tv (plen (.slice 3) w5) fun v33 =>
 tv (pbin (.int .i64) .geq (nth hole e32 0) v33) fun v34 =>
 Prg.ite (asBool v34) (
 ret (B false)) (
 tv (pbin (.int .i64) .gtr x2 (I 0)) fun v35 =>
 Prg.ite (asBool v35) (
 nat (slLen w4) fun n36 =>
 nat (ab x1) fun n37 =>
 chk (Bool.and (slSize w4 1) (Nat.blt n37 n36)) (
 tvs (pel w4 n37) fun e38 =>
 chk (ae zSl e38 0) (
 tv (bp [(n37,0)] w4) fun v39 =>
 nat (slLen v39) fun n40 =>
 nat (ab x2) fun n41 =>
 chk (Bool.and (slSize v39 1) (Nat.blt n41 n40)) (
 tv (bp [(n37,0)] w4) fun v42 =>
 tvs (pel v42 n41) fun e43 =>
 chk (ae bq e43 0) (
 nat (slLen w4) fun n44 =>
 nat (ab x1) fun n45 =>
 chk (Bool.and (slSize w4 1) (Nat.blt n45 n44)) (
 tvs (pel w4 n45) fun e46 =>
 chk (ae zSl e46 0) (
 tv (pbin (.int .i64) .sub x2 (I 1)) fun v47 =>
 tv (bp [(n45,0)] w4) fun v48 =>
 nat (slLen v48) fun n49 =>
 nat (ab v47) fun n50 =>
 chk (Bool.and (slSize v48 1) (Nat.blt n50 n49)) (
 tv (bp [(n45,0)] w4) fun v51 =>
 tvs (pel v51 n50) fun e52 =>
 chk (ae bq e52 0) (
 tv (pbin (.int .i64) .leq (nth hole e43 0) (nth hole e52 0)) fun v53 =>
 Prg.ite (asBool v53) (
 ret (B false)) (
 jmp [1,0,0,1,0,0,1,0,0,1,0,0,1,0,1,1,1,1,1,1] (f4_3_S x0 x1 x2 y3 w4 w5))))))))))) (
 jmp [1,0,0,1,0,0,1,0,0,1,0,0,1,0,1,1,1,1,1,1] (f4_3_S x0 x1 x2 y3 w4 w5))))))))))))) (
 tv (pbin (.int .i64) .add x1 (I 1)) fun v54 =>
 jmp [0,0,1,0,1,1,1,1,1,1] (f4_0_S x0 v54 y3 w4 w5))))
def f4_2  (x0 y1 w2:TV):Prg TV :=
 tv (plen (.slice 3) w2) fun v55 =>
 tv (pbin (.int .i64) .neq x0 v55) fun v56 =>
 Prg.ite (asBool v56) (
 ret (B false)) (
 jmp [0,0,1,0,1,1,1,1,1,1,1,1] (f4_4_S (I 0) y1 w2))
def f4_3  (x0 x1 x2 y3 w4 w5:TV):Prg TV :=
 nat (slLen w4) fun n57 =>
 nat (ab x1) fun n58 =>
 chk (Bool.and (slSize w4 1) (Nat.blt n58 n57)) (
 tvs (pel w4 n58) fun e59 =>
 chk (ae zSl e59 0) (
 tv (bp [(n58,0)] w4) fun v60 =>
 nat (slLen v60) fun n61 =>
 nat (ab x2) fun n62 =>
 chk (Bool.and (slSize v60 1) (Nat.blt n62 n61)) (
 tv (bp [(n58,0)] w4) fun v63 =>
 tvs (pel v63 n62) fun e64 =>
 chk (ae bq e64 0) (
 nat (slLen w5) fun n65 =>
 nat (ab (nth hole e64 0)) fun n66 =>
 chk (Bool.and (slSize w5 1) (Nat.blt n66 n65)) (
 chk (TV.ip x1) (
 tvs (pel w5 n66) fun e67 =>
 chk (ae bq e67 0) (
 tv (dI [] w5 n66 0 [x1]) fun v68 =>
 tv (pbin (.int .i64) .add x0 (I 1)) fun v69 =>
 tv (pbin (.int .i64) .add x2 (I 1)) fun v70 =>
 jmp [0,0,1,0,0,1,0,0,1,0,1,1,1,1,1,1] (f4_1_S v69 x1 v70 y3 w4 v68))))))))
def f4_4  (x0 y1 w2:TV):Prg TV :=
 tv (plen (.slice 3) w2) fun v71 =>
 tv (pbin (.int .i64) .lss x0 v71) fun v72 =>
 Prg.ite (asBool v72) (
 jmp [0,0,1,0,0,1,0,0,1,0,1,1,1,1,1,1,1,1] (f4_5_S x0 (I 0) y1 w2)) (
 ret (B true))
def f4_5  (x0 x1 y2 w3:TV):Prg TV :=
 tv (plen (.slice 3) w3) fun v73 =>
 tv (pbin (.int .i64) .lss x1 v73) fun v74 =>
 Prg.ite (asBool v74) (
 tv (pbin (.int .i64) .eql x0 x1) fun v75 =>
 Prg.ite (asBool v75) (
 jmp [1,0,0,1,0,0,1,0,0,1,0,0,1,0,1,1,1,1,1,1,1,1] (f4_6_S x0 x1 (B true) y2 w3)) (
 call 11 [agg [y2],x0,x1] fun v76 =>
 chk (ae fO [v76] 0) (
 Prg.ite (asBool v76) (
 call 11 [agg [y2],x1,x0] fun v77 =>
 chk (ae fO [v77] 0) (
 jmp [1,0,0,1,0,0,1,0,0,1,0,0,1,0,1,1,1,1,1,1,1,1] (f4_6_S x0 x1 v77 y2 w3))) (
 jmp [1,0,0,1,0,0,1,0,0,1,0,0,1,0,1,1,1,1,1,1,1,1] (f4_6_S x0 x1 (B false) y2 w3))))) (
 tv (pbin (.int .i64) .add x0 (I 1)) fun v78 =>
 jmp [0,0,1,0,1,1,1,1,1,1,1,1] (f4_4_S v78 y2 w3))
def f4_6  (x0 x1 x2 y3 w4:TV):Prg TV :=
 nat (slLen w4) fun n79 =>
 nat (ab x0) fun n80 =>
 chk (Bool.and (slSize w4 1) (Nat.blt n80 n79)) (
 tvs (pel w4 n80) fun e81 =>
 chk (ae bq e81 0) (
 nat (slLen w4) fun n82 =>
 nat (ab x1) fun n83 =>
 chk (Bool.and (slSize w4 1) (Nat.blt n83 n82)) (
 tvs (pel w4 n83) fun e84 =>
 chk (ae bq e84 0) (
 tv (pbin (.int .i64) .eql (nth hole e81 0) (nth hole e84 0)) fun v85 =>
 tv (pbin Kd.bool .neq x2 v85) fun v86 =>
 Prg.ite (asBool v86) (
 ret (B false)) (
 call 11 [agg [y3],x0,x1] fun v87 =>
 chk (ae fO [v87] 0) (
 Prg.ite (asBool v87) (
 nat (slLen w4) fun n88 =>
 nat (ab x1) fun n89 =>
 chk (Bool.and (slSize w4 1) (Nat.blt n89 n88)) (
 tvs (pel w4 n89) fun e90 =>
 chk (ae bq e90 0) (
 nat (slLen w4) fun n91 =>
 nat (ab x0) fun n92 =>
 chk (Bool.and (slSize w4 1) (Nat.blt n92 n91)) (
 tvs (pel w4 n92) fun e93 =>
 chk (ae bq e93 0) (
 tv (pbin (.int .i64) .gtr (nth hole e90 0) (nth hole e93 0)) fun v94 =>
 Prg.ite (asBool v94) (
 ret (B false)) (
 tv (pbin (.int .i64) .add x1 (I 1)) fun v95 =>
 jmp [0,0,1,0,0,1,0,0,1,0,1,1,1,1,1,1,1,1] (f4_5_S x0 v95 y3 w4))))))) (
 tv (pbin (.int .i64) .add x1 (I 1)) fun v96 =>
 jmp [0,0,1,0,0,1,0,0,1,0,1,1,1,1,1,1,1,1] (f4_5_S x0 v96 y3 w4))))))))
theorem f4_MR (x0:TV):dC prog 4 [x0]=f4_M x0:=by kernel_rfl
theorem f4_0_J  {x0 x1 y2 w3 w4:TV} {r:TV} (h:aa prog 4 (f4_0 x0 x1 y2 w3 w4) r):aa prog 4 (.jmp [0,0,1,0,1,1,1,1,1,1] (f4_0_S x0 x1 y2 w3 w4)) r:=aa.jmp (by kernel_rfl) h
theorem f4_1_J  {x0 x1 x2 y3 w4 w5:TV} {r:TV} (h:aa prog 4 (f4_1 x0 x1 x2 y3 w4 w5) r):aa prog 4 (.jmp [0,0,1,0,0,1,0,0,1,0,1,1,1,1,1,1] (f4_1_S x0 x1 x2 y3 w4 w5)) r:=aa.jmp (by kernel_rfl) h
theorem f4_2_J  {x0 y1 w2:TV} {r:TV} (h:aa prog 4 (f4_2 x0 y1 w2) r):aa prog 4 (.jmp [1,1,1,1,1,1,1] (f4_2_S x0 y1 w2)) r:=aa.jmp (by kernel_rfl) h
theorem f4_3_J  {x0 x1 x2 y3 w4 w5:TV} {r:TV} (h:aa prog 4 (f4_3 x0 x1 x2 y3 w4 w5) r):aa prog 4 (.jmp [1,0,0,1,0,0,1,0,0,1,0,0,1,0,1,1,1,1,1,1] (f4_3_S x0 x1 x2 y3 w4 w5)) r:=aa.jmp (by kernel_rfl) h
theorem f4_4_J  {x0 y1 w2:TV} {r:TV} (h:aa prog 4 (f4_4 x0 y1 w2) r):aa prog 4 (.jmp [0,0,1,0,1,1,1,1,1,1,1,1] (f4_4_S x0 y1 w2)) r:=aa.jmp (by kernel_rfl) h
theorem f4_5_J  {x0 x1 y2 w3:TV} {r:TV} (h:aa prog 4 (f4_5 x0 x1 y2 w3) r):aa prog 4 (.jmp [0,0,1,0,0,1,0,0,1,0,1,1,1,1,1,1,1,1] (f4_5_S x0 x1 y2 w3)) r:=aa.jmp (by kernel_rfl) h
theorem f4_6_J  {x0 x1 x2 y3 w4:TV} {r:TV} (h:aa prog 4 (f4_6 x0 x1 x2 y3 w4) r):aa prog 4 (.jmp [1,0,0,1,0,0,1,0,0,1,0,0,1,0,1,1,1,1,1,1,1,1] (f4_6_S x0 x1 x2 y3 w4)) r:=aa.jmp (by kernel_rfl) h
def f7_0_S  (x0 x1 y2:TV):ASt:=⟨[AV.one CA.junk,AV.one (CA.ptr 0 0),AV.one CA.junk,AV.tv x0,AV.tv x1] ++ List.replicate 82 (AV.one CA.junk),[some (BC.cells [CA.t y2])] ++ List.replicate 110 (none),[]⟩
def f7_1_S  (x0 x1 x2 y3:TV):ASt:=⟨[AV.one CA.junk,AV.one (CA.ptr 0 0),AV.one CA.junk,AV.tv x0,AV.tv x1,AV.tv x2] ++ List.replicate 81 (AV.one CA.junk),[some (BC.cells [CA.t y3])] ++ List.replicate 110 (none),[]⟩
def f7_2_S  (x0 x1 x2 x3 y4 y5 y6 y7 y8 y9 y10 y11 y12 y13 y14 y15 y16 y17 y18:TV):ASt:=⟨[AV.one CA.junk,AV.one (CA.ptr 0 0),AV.one CA.junk,AV.tv x0,AV.tv x1,AV.tv x2,AV.one (CA.ptr 1 0),AV.tv x3] ++ List.replicate 79 (AV.one CA.junk),[some (BC.cells [CA.t y4]),some (BC.cells [CA.t y5,CA.t y6,CA.t y7,CA.t y8,CA.t y9,CA.t y10,CA.t y11,CA.t y12,CA.t y13,CA.t y14,CA.t y15,CA.t y16,CA.t y17,CA.t y18])] ++ List.replicate 109 (none),[]⟩
def f7_M (x0:TV):Prg TV :=
 chk (TV.isAgg x0 1) (
 tv (plen (.slice 38) (cell x0 0)) fun v0 =>
 tv (pbin (.int .i64) .gtr v0 (I 20)) fun v1 =>
 Prg.ite (asBool v1) (
 ret (B false)) (
 jmp [0,0,1,0,1,1,1] (f7_0_S (I 0) (I 0) (cell x0 0))))
def f7_0  (x0 x1 y2:TV):Prg TV :=
 tv (plen (.slice 38) y2) fun v2 =>
 tv (pbin (.int .i64) .lss x1 v2) fun v3 =>
 Prg.ite (asBool v3) (
 tvs (pidx 3 y2 x1) fun e4 =>
 chk (Nat.blt 2 (List.length e4)) (
 tv (plen (.slice 49) (nth hole e4 2)) fun v5 =>
 tv (pbin (.int .i64) .gtr v5 (I 70)) fun v6 =>
 Prg.ite (asBool v6) (
 ret (B false)) (
 jmp [0,0,1,1,0,0,1,0,0,1,0,1,1,1] (f7_1_S x0 x1 (I 0) y2)))) (
 tv (pbin (.int .i64) .leq x0 (I 2000)) fun v7 =>
 ret v7)
def f7_1  (x0 x1 x2 y3:TV):Prg TV :=
 tvs (pidx 3 y3 x1) fun e8 =>
 chk (Nat.blt 2 (List.length e8)) (
 tv (plen (.slice 49) (nth hole e8 2)) fun v9 =>
 tv (pbin (.int .i64) .lss x2 v9) fun v10 =>
 Prg.ite (asBool v10) (
 tvs (pidx 3 y3 x1) fun e11 =>
 chk (Nat.blt 2 (List.length e11)) (
 tvs (pidx 14 (nth hole e11 2) x2) fun e12 =>
 chk (Nat.ble 14 (List.length e12)) (
 tv (plen (.slice 41) (nth hole e12 5)) fun v13 =>
 tv (pbin (.int .i64) .gtr v13 (I 70)) fun v14 =>
 Prg.ite (asBool v14) (
 ret (B false)) (
 tv (plen (.slice 39) (nth hole e12 2)) fun v15 =>
 tv (pbin (.int .i64) .gtr v15 (I 20)) fun v16 =>
 Prg.ite (asBool v16) (
 ret (B false)) (
 tv (plen (.slice 3) (nth hole e12 10)) fun v17 =>
 tv (pbin (.int .i64) .gtr v17 (I 20)) fun v18 =>
 Prg.ite (asBool v18) (
 ret (B false)) (
 tv (plen (.slice 41) (nth hole e12 5)) fun v19 =>
 tv (pbin (.int .i64) .add x0 v19) fun v20 =>
 jmp [0,0,1,1,1,1,0,0,1,0,0,1,1,0,0,1,0,0,1,0,1,1,1] (f7_2_S v20 x1 x2 (I 0) y3 (nth hole e12 0) (nth hole e12 1) (nth hole e12 2) (nth hole e12 3) (nth hole e12 4) (nth hole e12 5) (nth hole e12 6) (nth hole e12 7) (nth hole e12 8) (nth hole e12 9) (nth hole e12 10) (nth hole e12 11) (nth hole e12 12) (nth hole e12 13)))))))) (
 tv (pbin (.int .i64) .add x1 (I 1)) fun v21 =>
 jmp [0,0,1,0,1,1,1] (f7_0_S x0 v21 y3)))
def f7_2  (x0 x1 x2 x3 y4 y5 y6 y7 y8 y9 y10 y11 y12 y13 y14 y15 y16 y17 y18:TV):Prg TV :=
 tv (plen (.slice 41) y10) fun v22 =>
 tv (pbin (.int .i64) .lss x3 v22) fun v23 =>
 Prg.ite (asBool v23) (
 tvs (pidx 7 y10 x3) fun e24 =>
 chk (Nat.blt 6 (List.length e24)) (
 tv (plen (.slice 3) (nth hole e24 6)) fun v25 =>
 tv (pbin (.int .i64) .gtr v25 (I 20)) fun v26 =>
 Prg.ite (asBool v26) (
 ret (B false)) (
 tv (pbin (.int .i64) .add x3 (I 1)) fun v27 =>
 jmp [0,0,1,1,1,1,0,0,1,0,0,1,1,0,0,1,0,0,1,0,1,1,1] (f7_2_S x0 x1 x2 v27 y4 y5 y6 y7 y8 y9 y10 y11 y12 y13 y14 y15 y16 y17 y18)))) (
 tv (pbin (.int .i64) .add x2 (I 1)) fun v28 =>
 jmp [0,0,1,1,0,0,1,0,0,1,0,1,1,1] (f7_1_S x0 x1 v28 y4))
theorem f7_MR (x0:TV):dC prog 7 [x0]=f7_M x0:=by kernel_rfl
theorem f7_0_J  {x0 x1 y2:TV} {r:TV} (h:aa prog 7 (f7_0 x0 x1 y2) r):aa prog 7 (.jmp [0,0,1,0,1,1,1] (f7_0_S x0 x1 y2)) r:=aa.jmp (by kernel_rfl) h
theorem f7_1_J  {x0 x1 x2 y3:TV} {r:TV} (h:aa prog 7 (f7_1 x0 x1 x2 y3) r):aa prog 7 (.jmp [0,0,1,1,0,0,1,0,0,1,0,1,1,1] (f7_1_S x0 x1 x2 y3)) r:=aa.jmp (by kernel_rfl) h
theorem f7_2_J  {x0 x1 x2 x3 y4 y5 y6 y7 y8 y9 y10 y11 y12 y13 y14 y15 y16 y17 y18:TV} {r:TV} (h:aa prog 7 (f7_2 x0 x1 x2 x3 y4 y5 y6 y7 y8 y9 y10 y11 y12 y13 y14 y15 y16 y17 y18) r):aa prog 7 (.jmp [0,0,1,1,1,1,0,0,1,0,0,1,1,0,0,1,0,0,1,0,1,1,1] (f7_2_S x0 x1 x2 x3 y4 y5 y6 y7 y8 y9 y10 y11 y12 y13 y14 y15 y16 y17 y18)) r:=aa.jmp (by kernel_rfl) h
def f9_0_S  (x0 x1 w2 y3:TV):ASt:=⟨[AV.one (CA.sref 0 0 []),AV.clo 21 [CA.ptr 1 0]] ++ List.replicate 5 (AV.one CA.junk) ++ [AV.tv x0,AV.tv x1] ++ List.replicate 10 (AV.one CA.junk),[some (BC.tree [w2]),some (BC.cells [CA.t y3])] ++ List.replicate 105 (none),(List.replicate 22 (AV.one CA.junk) ++ [AV.one (CA.sref 0 0 []),AV.clo 21 [CA.ptr 1 0]] ++ List.replicate 40 (AV.one CA.junk))⟩
def f9_1_S  (x0 w1:TV):ASt:=⟨[AV.one (CA.sref 0 0 []),AV.one CA.junk,AV.one CA.junk,AV.tv x0] ++ List.replicate 57 (AV.one CA.junk),[some (BC.tree [w1])] ++ List.replicate 106 (none),List.replicate 22 (AV.one CA.junk)⟩
def f9_2_S  (x0 x1 w2 y3:TV):ASt:=⟨[AV.one (CA.sref 0 0 []),AV.clo 21 [CA.ptr 1 0],AV.one CA.junk,AV.one CA.junk,AV.one CA.junk,AV.tv x0,AV.tv x1] ++ List.replicate 35 (AV.one CA.junk),[some (BC.tree [w2]),some (BC.cells [CA.t y3])] ++ List.replicate 86 (none),List.replicate 22 (AV.one CA.junk)⟩
def f9_3_S  (x0:TV) (lo1 len2:Nat) (x3 w4:TV):ASt:=⟨[AV.one (CA.sref 0 0 []),AV.one CA.junk,AV.one CA.junk,AV.tv x0,AV.one (CA.swin 0 0 [] lo1 len2),AV.tv x3] ++ List.replicate 55 (AV.one CA.junk),[some (BC.tree [w4])] ++ List.replicate 106 (none),List.replicate 22 (AV.one CA.junk)⟩
def f9_4_S  (x0 w1:TV):ASt:=⟨[AV.one (CA.sref 0 0 [])] ++ List.replicate 4 (AV.one CA.junk) ++ [AV.tv x0] ++ List.replicate 36 (AV.one CA.junk),[some (BC.tree [w1])] ++ List.replicate 87 (none),List.replicate 22 (AV.one CA.junk)⟩
def f9_5_S  (x0 w1:TV):ASt:=⟨[AV.one (CA.sref 0 0 []),AV.one CA.junk,AV.one CA.junk,AV.tv x0] ++ List.replicate 57 (AV.one CA.junk),[some (BC.tree [w1])] ++ List.replicate 106 (none),List.replicate 22 (AV.one CA.junk)⟩
def f9_M (x0 x1:TV):Prg TV :=
 chk (TV.isAgg x0 1) (
 call 18 [agg [cell x0 0],x1] fun v0 =>
 chk (ae fO [v0] 0) (
 tv (pun .not v0) fun v1 =>
 Prg.ite (asBool v1) (
 chk true (
 ret (TV.lit aV))) (
 tvs (pidx 3 (cell x0 0) x1) fun e2 =>
 chk (Nat.ble 3 (List.length e2)) (
 call 20 [agg [nth hole e2 0,nth hole e2 1,nth hole e2 2]] fun v3 =>
 chk (ae zSl [v3] 0) (
 tv (plen (.slice 3) v3) fun v4 =>
 jmp [0,0,1,0,1,6,0,1,16,0,1,1] (f9_0_S v4 (I 0) v3 (cell x0 0)))))))
def f9_0  (x0 x1 w2 y3:TV):Prg TV :=
 tv (pbin (.int .i64) .lss x1 x0) fun v5 =>
 Prg.ite (asBool v5) (
 nat (slLen w2) fun n6 =>
 nat (ab x1) fun n7 =>
 chk (Bool.and (slSize w2 1) (Nat.blt n7 n6)) (
 tvs (pel w2 n7) fun e8 =>
 chk (ae bq e8 0) (
 call 18 [agg [y3],nth hole e8 0] fun v9 =>
 chk (ae fO [v9] 0) (
 tv (pun .not v9) fun v10 =>
 Prg.ite (asBool v10) (
 tv (pbin (.int .i64) .eql x1 (TV.lit (Value.int IntKind.i64 (-1)))) fun v11 =>
 Prg.ite (asBool v11) (
 call 22 [w2] fun v12 =>
 tv (pput 0 w2 v12) fun v13 =>
 tv (plen (.slice 3) v13) fun v14 =>
 tv (pbin (.int .i64) .lss v14 (I 2)) fun v15 =>
 Prg.ite (asBool v15) (
 chk (cw v13) (
 ret v13)) (
 jmp [0,0,1,0,1,1,4,0,1,1,1,1] (f9_1_S (I 1) v13))) (
 tv (pbin (.int .i64) .add x1 (I 1)) fun v16 =>
 jmp [0,0,1,0,1,1,1,16,0,1,1] (f9_2_S x1 v16 w2 y3))) (
 tv (pbin (.int .i64) .add x1 (I 1)) fun v17 =>
 jmp [0,0,1,0,1,6,0,1,16,0,1,1] (f9_0_S x0 v17 w2 y3)))))) (
 tv (pbin (.int .i64) .eql (TV.lit (Value.int IntKind.i64 (-1))) (TV.lit (Value.int IntKind.i64 (-1)))) fun v18 =>
 Prg.ite (asBool v18) (
 call 22 [w2] fun v19 =>
 tv (pput 0 w2 v19) fun v20 =>
 tv (plen (.slice 3) v20) fun v21 =>
 tv (pbin (.int .i64) .lss v21 (I 2)) fun v22 =>
 Prg.ite (asBool v22) (
 chk (cw v20) (
 ret v20)) (
 jmp [0,0,1,0,1,1,4,0,1,1,1,1] (f9_1_S (I 1) v20))) (
 tv (pbin (.int .i64) .add (TV.lit (Value.int IntKind.i64 (-1))) (I 1)) fun v23 =>
 jmp [0,0,1,0,1,1,1,16,0,1,1] (f9_2_S (TV.lit (Value.int IntKind.i64 (-1))) v23 w2 y3)))
def f9_1  (x0 w1:TV):Prg TV :=
 tv (plen (.slice 3) w1) fun v24 =>
 tv (pbin (.int .i64) .lss x0 v24) fun v25 =>
 Prg.ite (asBool v25) (
 nat (slLen w1) fun n26 =>
 nat (ab x0) fun n27 =>
 chk (Bool.and (slSize w1 1) (Nat.blt n27 n26)) (
 tvs (pel w1 n27) fun e28 =>
 chk (ae bq e28 0) (
 tv (pbin (.int .i64) .sub x0 (I 1)) fun v29 =>
 nat (slLen w1) fun n30 =>
 nat (ab v29) fun n31 =>
 chk (Bool.and (slSize w1 1) (Nat.blt n31 n30)) (
 tvs (pel w1 n31) fun e32 =>
 chk (ae bq e32 0) (
 tv (pbin (.int .i64) .eql (nth hole e28 0) (nth hole e32 0)) fun v33 =>
 Prg.ite (asBool v33) (
 nat (slLen w1) fun n34 =>
 nat (ab x0) fun n35 =>
 chk (Bool.and (Bool.and (slSize w1 1) (Nat.ble (Option.getD (some n35) 0) (Option.getD none n34))) (Nat.ble (Option.getD none n34) n34)) (
 jmp [0,0,1,0,1,0,1,0,0,1,0,0,1,0,1,1,4,0,1,1,1,1] (f9_3_S x0 (Option.getD (some n35) 0) ((Option.getD none n34) - (Option.getD (some n35) 0)) (I 1) w1))) (
 tv (pbin (.int .i64) .add x0 (I 1)) fun v36 =>
 jmp [0,0,1,0,1,1,4,0,1,1,1,1] (f9_1_S v36 w1))))))) (
 chk (cw w1) (
 ret w1))
def f9_2  (x0 x1 w2 y3:TV):Prg TV :=
 tv (plen (.slice 3) w2) fun v37 =>
 tv (pbin (.int .i64) .lss x1 v37) fun v38 =>
 Prg.ite (asBool v38) (
 nat (slLen w2) fun n39 =>
 nat (ab x1) fun n40 =>
 chk (Bool.and (slSize w2 1) (Nat.blt n40 n39)) (
 tvs (pel w2 n40) fun e41 =>
 chk (ae bq e41 0) (
 call 18 [agg [y3],nth hole e41 0] fun v42 =>
 chk (ae fO [v42] 0) (
 tv (pun .not v42) fun v43 =>
 tv (pun .not v43) fun v44 =>
 Prg.ite (asBool v44) (
 nat (slLen w2) fun n45 =>
 nat (ab x0) fun n46 =>
 chk (Bool.and (slSize w2 1) (Nat.blt n46 n45)) (
 tvs (pel w2 n46) fun e47 =>
 chk (ae bq e47 0) (
 tv (dI [] w2 n46 0 [nth hole e41 0]) fun v48 =>
 tv (pbin (.int .i64) .add x0 (I 1)) fun v49 =>
 tv (pbin (.int .i64) .add x1 (I 1)) fun v50 =>
 jmp [0,0,1,0,1,1,1,16,0,1,1] (f9_2_S v49 v50 v48 y3)))) (
 tv (pbin (.int .i64) .add x1 (I 1)) fun v51 =>
 jmp [0,0,1,0,1,1,1,16,0,1,1] (f9_2_S x0 v51 w2 y3)))))) (
 jmp [1,1,1,1,16,0,1,1] (f9_4_S x0 w2))
def f9_3  (x0:TV) (lo1 len2:Nat) (x3 w4:TV):Prg TV :=
 tv (cV lo1 len2 w4) fun v52 =>
 tv (plen (.slice 3) v52) fun v53 =>
 tv (pbin (.int .i64) .lss x3 v53) fun v54 =>
 Prg.ite (asBool v54) (
 nat (ab x3) fun n55 =>
 chk (Bool.and (slSize w4 1) (Nat.blt n55 len2)) (
 tvs (pel w4 (lo1 + n55)) fun e56 =>
 chk (ae bq e56 0) (
 tv (pbin (.int .i64) .sub x3 (I 1)) fun v57 =>
 nat (ab v57) fun n58 =>
 chk (Bool.and (slSize w4 1) (Nat.blt n58 len2)) (
 tvs (pel w4 (lo1 + n58)) fun e59 =>
 chk (ae bq e59 0) (
 tv (pbin (.int .i64) .neq (nth hole e56 0) (nth hole e59 0)) fun v60 =>
 Prg.ite (asBool v60) (
 nat (ab x3) fun n61 =>
 chk (Bool.and (slSize w4 1) (Nat.blt n61 len2)) (
 tvs (pel w4 (lo1 + n61)) fun e62 =>
 chk (ae bq e62 0) (
 nat (slLen w4) fun n63 =>
 nat (ab x0) fun n64 =>
 chk (Bool.and (slSize w4 1) (Nat.blt n64 n63)) (
 tvs (pel w4 n64) fun e65 =>
 chk (ae bq e65 0) (
 tv (dI [] w4 n64 0 [nth hole e62 0]) fun v66 =>
 tv (pbin (.int .i64) .add x0 (I 1)) fun v67 =>
 tv (pbin (.int .i64) .add x3 (I 1)) fun v68 =>
 jmp [0,0,1,0,1,0,1,0,0,1,0,0,1,0,1,1,4,0,1,1,1,1] (f9_3_S v67 lo1 len2 v68 v66)))))) (
 tv (pbin (.int .i64) .add x3 (I 1)) fun v69 =>
 jmp [0,0,1,0,1,0,1,0,0,1,0,0,1,0,1,1,4,0,1,1,1,1] (f9_3_S x0 lo1 len2 v69 w4))))))) (
 jmp [1,1,0,1,0,0,1,0,0,1,0,1,1,4,0,1,1,1,1] (f9_5_S x0 w4))
def f9_4  (x0 w1:TV):Prg TV :=
 nat (slLen w1) fun n70 =>
 nat (ab x0) fun n71 =>
 chk (Bool.and (Bool.and (slSize w1 1) (Nat.ble (Option.getD (some n71) 0) (Option.getD none n70))) (Nat.ble (Option.getD none n70) n70)) (
 tv (pclear 1 [I 0] (Option.getD (some n71) 0) ((Option.getD none n70) - (Option.getD (some n71) 0)) w1) fun v72 =>
 nat (slLen v72) fun n73 =>
 nat (ab x0) fun n74 =>
 chk (Bool.and (Bool.and (slSize v72 1) (Nat.ble 0 (Option.getD (some n74) n73))) (Nat.ble (Option.getD (some n74) n73) n73)) (
 tv (cV 0 ((Option.getD (some n74) n73) - 0) v72) fun v75 =>
 call 22 [v75] fun v76 =>
 tv (pput 0 v72 v76) fun v77 =>
 tv (cV 0 ((Option.getD (some n74) n73) - 0) v77) fun v78 =>
 tv (plen (.slice 3) v78) fun v79 =>
 tv (pbin (.int .i64) .lss v79 (I 2)) fun v80 =>
 Prg.ite (asBool v80) (
 tv (cV 0 ((Option.getD (some n74) n73) - 0) v77) fun v81 =>
 chk (cw v81) (
 ret v81)) (
 tv (cV 0 ((Option.getD (some n74) n73) - 0) v77) fun v82 =>
 jmp [0,0,1,0,1,1,4,0,1,1,1,1] (f9_1_S (I 1) v82))))
def f9_5  (x0 w1:TV):Prg TV :=
 nat (slLen w1) fun n83 =>
 nat (ab x0) fun n84 =>
 chk (Bool.and (Bool.and (slSize w1 1) (Nat.ble (Option.getD (some n84) 0) (Option.getD none n83))) (Nat.ble (Option.getD none n83) n83)) (
 tv (pclear 1 [I 0] (Option.getD (some n84) 0) ((Option.getD none n83) - (Option.getD (some n84) 0)) w1) fun v85 =>
 nat (slLen v85) fun n86 =>
 nat (ab x0) fun n87 =>
 chk (Bool.and (Bool.and (slSize v85 1) (Nat.ble 0 (Option.getD (some n87) n86))) (Nat.ble (Option.getD (some n87) n86) n86)) (
 tv (cV 0 ((Option.getD (some n87) n86) - 0) v85) fun v88 =>
 chk (cw v88) (
 ret v88)))
theorem f9_MR (x0 x1:TV):dC prog 9 [x0,x1]=f9_M x0 x1:=by kernel_rfl
theorem f9_0_J  {x0 x1 w2 y3:TV} {r:TV} (h:aa prog 9 (f9_0 x0 x1 w2 y3) r):aa prog 9 (.jmp [0,0,1,0,1,6,0,1,16,0,1,1] (f9_0_S x0 x1 w2 y3)) r:=aa.jmp (by kernel_rfl) h
theorem f9_1_J  {x0 w1:TV} {r:TV} (h:aa prog 9 (f9_1 x0 w1) r):aa prog 9 (.jmp [0,0,1,0,1,1,4,0,1,1,1,1] (f9_1_S x0 w1)) r:=aa.jmp (by kernel_rfl) h
theorem f9_2_J  {x0 x1 w2 y3:TV} {r:TV} (h:aa prog 9 (f9_2 x0 x1 w2 y3) r):aa prog 9 (.jmp [0,0,1,0,1,1,1,16,0,1,1] (f9_2_S x0 x1 w2 y3)) r:=aa.jmp (by kernel_rfl) h
theorem f9_3_J  {x0:TV} {lo1 len2:Nat} {x3 w4:TV} {r:TV} (h:aa prog 9 (f9_3 x0 lo1 len2 x3 w4) r):aa prog 9 (.jmp [0,0,1,0,1,0,1,0,0,1,0,0,1,0,1,1,4,0,1,1,1,1] (f9_3_S x0 lo1 len2 x3 w4)) r:=aa.jmp (by kernel_rfl) h
theorem f9_4_J  {x0 w1:TV} {r:TV} (h:aa prog 9 (f9_4 x0 w1) r):aa prog 9 (.jmp [1,1,1,1,16,0,1,1] (f9_4_S x0 w1)) r:=aa.jmp (by kernel_rfl) h
theorem f9_5_J  {x0 w1:TV} {r:TV} (h:aa prog 9 (f9_5 x0 w1) r):aa prog 9 (.jmp [1,1,0,1,0,0,1,0,0,1,0,1,1,4,0,1,1,1,1] (f9_5_S x0 w1)) r:=aa.jmp (by kernel_rfl) h
end Go.Ab.C11

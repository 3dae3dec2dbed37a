import Derived.Test.YtfnpejmlcbkepaaCQ12Xa
import Derived.OpenShut
set_option linter.all false
section
set_option maxRecDepth 100000
namespace Go.Ab.Q12
open Go Go.Ab Go.Proofs
open Go.Ab.TV (hole cell comp isSl isSc isTup cellsL tup agg)
open Go.Ab.Prg (tv tvs rws nat chk call jmp ret)
def f22_0_S  (x0 x1 w2 w3:TV):ASt:=⟨[Jk,Jk,Jk,Sr 0] ++ Rj 7 ++ [Sr 1,AV.tv x0,AV.tv x1] ++ Rj 8,[Tr w2,Tr w3] ++ Rz 44,[]⟩
def f22_M (x0:TV):Prg TV :=
 chk (TV.isAgg x0 3) (
 tv (plen (.slice 59) (cell x0 2)) fun v0 =>
 nat (aB v0) fun n1 =>
 nat (aB v0) fun n2 =>
 chk (Bool.and (Nat.ble n1 n2) (Nat.ble n2 4294967296)) (
 call 24 [agg [cell x0 0,cell x0 1,cell x0 2]] fun v3 =>
 chk (ak zSl [v3] 0) (
 tv (plen (.slice 3) v3) fun v4 =>
 jmp [0,0,1,0,1,1] (f22_0_S v4 (I 0) (TV.sl true 1 (List.replicate n1 [B false])) v3))))
def f22_0  (x0 x1 w2 w3:TV):Prg TV :=
 tv (pbin (.int .i64) .lss x1 x0) fun v5 =>
 Prg.ite (asBool v5) (
 nat (slLen w3) fun n6 =>
 nat (aB x1) fun n7 =>
 chk (Bool.and (slSize w3 1) (Nat.blt n7 n6)) (
 tvs (pel w3 n7) fun e8 =>
 chk (ak pE e8 0) (
 nat (slLen w2) fun n9 =>
 nat (aB (nth hole e8 0)) fun n10 =>
 chk (Bool.and (slSize w2 1) (Nat.blt n10 n9)) (
 tvs (pel w2 n10) fun e11 =>
 chk (ak dB e11 0) (
 tv (lL [] w2 n10 0 [B true]) fun v12 =>
 tv (pbin (.int .i64) .add x1 (I 1)) fun v13 =>
 jmp [0,0,1,0,1,1] (f22_0_S x0 v13 v12 w3)))))) (
 ret w2)
theorem f22_MR (x0:TV):eE prog 22 [x0]=f22_M x0:=by kernel_rfl
theorem f22_0_J  {x0 x1 w2 w3:TV} {r:TV} (h:aa prog 22 (f22_0 x0 x1 w2 w3) r):aa prog 22 (.jmp [0,0,1,0,1,1] (f22_0_S x0 x1 w2 w3)) r:=aa.jmp (by kernel_rfl) h
def f24_0_S  (w0 y1 y2 y3 w4 w5 w6:TV):ASt:=⟨[Jk,Sr 0] ++ Rj 5 ++ [Pt 1] ++ Rj 22,[Tr w0,some (BC.cells [CA.fn1 48 2,CA.sref 3 0 [],CA.sref 4 0 [],CA.sref 5 0 []]),some (BC.cells [CA.t y1,CA.t y2,CA.t y3]),Tr w4,Tr w5,Tr w6] ++ Rz 65,Rj 17⟩
def f24_1_S  (x0 x1 w2 y3 y4 y5 w6 w7 w8:TV):ASt:=⟨Rj 7 ++ [Pt 0] ++ Rj 6 ++ [Sr 1,AV.tv x0,AV.tv x1] ++ Rj 13,[some (BC.cells [CA.fn1 48 2,CA.sref 3 0 [],CA.sref 4 0 [],CA.sref 5 0 []]),Tr w2,some (BC.cells [CA.t y3,CA.t y4,CA.t y5]),Tr w6,Tr w7,Tr w8] ++ Rz 65,Rj 17⟩
def f24_2_S  (x0 x1 w2 y3 y4 y5 w6 w7 w8:TV):ASt:=⟨Rj 7 ++ [Pt 0] ++ Rj 6 ++ [Sr 1,AV.tv x0,AV.tv x1] ++ Rj 13,[some (BC.cells [CA.fn1 48 2,CA.sref 3 0 [],CA.sref 4 0 [],CA.sref 5 0 []]),Tr w2,some (BC.cells [CA.t y3,CA.t y4,CA.t y5]),Tr w6,Tr w7,Tr w8] ++ Rz 65,Rj 17⟩
def f24_3_S  (x0 x1 w2:TV):ASt:=⟨[Sr 0,Jk,AV.tv x0,AV.tv x1] ++ Rj 24,[Tr w2] ++ Rz 68,([Jk,Jk,Jk,Sr 0] ++ Rj 13)⟩
def f24_M (x0:TV):Prg TV :=
 chk (TV.isAgg x0 3) (
 tv (plen (.slice 59) (cell x0 2)) fun v0 =>
 tv (pbin (.int .i64) .eql v0 (I 0)) fun v1 =>
 Prg.ite (asBool v1) (
 chk true (
 ret (TV.lit bD))) (
 tv (plen (.slice 59) (cell x0 2)) fun v2 =>
 nat (aB v2) fun n3 =>
 nat (aB v2) fun n4 =>
 chk (Bool.and (Nat.ble n3 n4) (Nat.ble n4 4294967296)) (
 chk true (
 chk true (
 jmp [1,1,12,0,1,1] (f24_0_S (TV.sl true 1 (chunks 1 1 [I 0])) (cell x0 0) (cell x0 1) (cell x0 2) (TV.sl true 1 (List.replicate n3 [B false])) (TV.lit bD) (TV.lit bD)))))))
def f24_0  (w0 y1 y2 y3 w4 w5 w6:TV):Prg TV :=
 tv (plen (.slice 3) w0) fun v5 =>
 jmp [0,0,1,0,1,1,12,0,1,1] (f24_1_S v5 (I 0) w0 y1 y2 y3 w4 (cX w5) w6)
def f24_1  (x0 x1 w2 y3 y4 y5 w6 w7 w8:TV):Prg TV :=
 tv (pbin (.int .i64) .lss x1 x0) fun v6 =>
 Prg.ite (asBool v6) (
 nat (slLen w2) fun n7 =>
 nat (aB x1) fun n8 =>
 chk (Bool.and (slSize w2 1) (Nat.blt n8 n7)) (
 tvs (pel w2 n8) fun e9 =>
 chk (ak pE e9 0) (
 nat (slLen w6) fun n10 =>
 nat (aB (nth hole e9 0)) fun n11 =>
 chk (Bool.and (slSize w6 1) (Nat.blt n11 n10)) (
 tvs (pel w6 n11) fun e12 =>
 chk (ak dB e12 0) (
 tv (pun .not (nth hole e12 0)) fun v13 =>
 Prg.ite (asBool v13) (
 nat (slLen w6) fun n14 =>
 nat (aB (nth hole e9 0)) fun n15 =>
 chk (Bool.and (slSize w6 1) (Nat.blt n15 n14)) (
 tvs (pel w6 n15) fun e16 =>
 chk (ak dB e16 0) (
 tv (lL [] w6 n15 0 [B true]) fun v17 =>
 call 48 [sM (nth hole e9 0),agg [y3,y4,y5]] fun v18 =>
 chk (ak zSl [v18] 0) (
 rws (pelems 2 (TV.sl true 2 (chunks 2 1 [nth hole e9 0,v18]))) fun r19 =>
 tv (papp 2 w7 r19) fun v20 =>
 jmp [0,0,1,1,0,0,1,1,0,0,1,0,1,1,12,0,1,1] (f24_2_S x0 x1 w2 y3 y4 y5 v17 (cX v20) w8))))) (
 jmp [0,0,1,1,0,0,1,1,0,0,1,0,1,1,12,0,1,1] (f24_2_S x0 x1 w2 y3 y4 y5 w6 (cX w7) w8))))))) (
 tv (plen (.slice 3) w8) fun v21 =>
 tv (pbin (.int .i64) .sub v21 (I 1)) fun v22 =>
 jmp [0,0,1,4,0,1,1,1] (f24_3_S (I 0) v22 w8))
def f24_2  (x0 x1 w2 y3 y4 y5 w6 w7 w8:TV):Prg TV :=
 tv (plen (.slice 126) w7) fun v23 =>
 tv (pbin (.int .i64) .gtr v23 (I 0)) fun v24 =>
 Prg.ite (asBool v24) (
 tv (plen (.slice 126) w7) fun v25 =>
 tv (pbin (.int .i64) .sub v25 (I 1)) fun v26 =>
 nat (slLen w7) fun n27 =>
 nat (aB v26) fun n28 =>
 chk (Bool.and (slSize w7 2) (Nat.blt n28 n27)) (
 tvs (pel w7 n28) fun e29 =>
 chk (ak zSl e29 1) (
 tv (cu [(n28,1)] w7) fun v30 =>
 tv (plen (.slice 3) v30) fun v31 =>
 tv (pbin (.int .i64) .eql v31 (I 0)) fun v32 =>
 Prg.ite (asBool v32) (
 tv (plen (.slice 126) w7) fun v33 =>
 tv (pbin (.int .i64) .sub v33 (I 1)) fun v34 =>
 nat (slLen w7) fun n35 =>
 nat (aB v34) fun n36 =>
 chk (Bool.and (slSize w7 2) (Nat.blt n36 n35)) (
 tvs (pel w7 n36) fun e37 =>
 chk (ak pE e37 0) (
 rws (pelems 1 (TV.sl true 1 (chunks 1 1 [nth hole e37 0]))) fun r38 =>
 tv (papp 1 w8 (uA r38)) fun v39 =>
 nat (slLen w7) fun n40 =>
 nat (aB v34) fun n41 =>
 chk (Bool.and (Bool.and (slSize w7 2) (Nat.ble 0 (Option.getD (some n41) n40))) (Nat.ble (Option.getD (some n41) n40) n40)) (
 tv (eV 0 ((Option.getD (some n41) n40) - 0) w7) fun v42 =>
 jmp [0,0,1,1,0,0,1,1,0,0,1,0,1,1,12,0,1,1] (f24_2_S x0 x1 w2 y3 y4 y5 w6 (cX v42) v39))))) (
 tvs (pel w7 n28) fun e43 =>
 chk (ak zSl e43 1) (
 tv (cu [(n28,1)] w7) fun v44 =>
 nat (slLen v44) fun n45 =>
 nat (aB (I 0)) fun n46 =>
 chk (Bool.and (slSize v44 1) (Nat.blt n46 n45)) (
 tv (cu [(n28,1)] w7) fun v47 =>
 tvs (pel v47 n46) fun e48 =>
 chk (ak pE e48 0) (
 tvs (pel w7 n28) fun e49 =>
 chk (ak zSl e49 1) (
 tv (cu [(n28,1)] w7) fun v50 =>
 nat (slLen v50) fun n51 =>
 nat (aB (I 1)) fun n52 =>
 chk (Bool.and (Bool.and (slSize v50 1) (Nat.ble (Option.getD (some n52) 0) (Option.getD none n51))) (Nat.ble (Option.getD none n51) n51)) (
 tv (cu [(n28,1)] w7) fun v53 =>
 tv (eV (Option.getD (some n52) 0) ((Option.getD none n51) - (Option.getD (some n52) 0)) v53) fun v54 =>
 chk (TV.gB v54) (
 tvs (pel w7 n28) fun e55 =>
 chk (Bool.and (dP zSl e55 1) (ak zSl [v54] 0)) (
 tv (lL [] w7 n28 1 [v54]) fun v56 =>
 nat (slLen w6) fun n57 =>
 nat (aB (nth hole e48 0)) fun n58 =>
 chk (Bool.and (slSize w6 1) (Nat.blt n58 n57)) (
 tvs (pel w6 n58) fun e59 =>
 chk (ak dB e59 0) (
 tv (pun .not (nth hole e59 0)) fun v60 =>
 Prg.ite (asBool v60) (
 nat (slLen w6) fun n61 =>
 nat (aB (nth hole e48 0)) fun n62 =>
 chk (Bool.and (slSize w6 1) (Nat.blt n62 n61)) (
 tvs (pel w6 n62) fun e63 =>
 chk (ak dB e63 0) (
 tv (lL [] w6 n62 0 [B true]) fun v64 =>
 call 48 [sM (nth hole e48 0),agg [y3,y4,y5]] fun v65 =>
 chk (ak zSl [v65] 0) (
 rws (pelems 2 (TV.sl true 2 (chunks 2 1 [nth hole e48 0,v65]))) fun r66 =>
 tv (papp 2 v56 r66) fun v67 =>
 jmp [0,0,1,1,0,0,1,1,0,0,1,0,1,1,12,0,1,1] (f24_2_S x0 x1 w2 y3 y4 y5 v64 (cX v67) w8))))) (
 jmp [0,0,1,1,0,0,1,1,0,0,1,0,1,1,12,0,1,1] (f24_2_S x0 x1 w2 y3 y4 y5 w6 (cX v56) w8))))))))))))))) (
 tv (pbin (.int .i64) .add x1 (I 1)) fun v68 =>
 jmp [0,0,1,0,1,1,12,0,1,1] (f24_1_S x0 v68 w2 y3 y4 y5 w6 (cX w7) w8))
def f24_3  (x0 x1 w2:TV):Prg TV :=
 tv (pbin (.int .i64) .lss x0 x1) fun v69 =>
 Prg.ite (asBool v69) (
 nat (slLen w2) fun n70 =>
 nat (aB x1) fun n71 =>
 chk (Bool.and (slSize w2 1) (Nat.blt n71 n70)) (
 tvs (pel w2 n71) fun e72 =>
 chk (ak pE e72 0) (
 nat (slLen w2) fun n73 =>
 nat (aB x0) fun n74 =>
 chk (Bool.and (slSize w2 1) (Nat.blt n74 n73)) (
 tvs (pel w2 n74) fun e75 =>
 chk (ak pE e75 0) (
 nat (slLen w2) fun n76 =>
 nat (aB x0) fun n77 =>
 chk (Bool.and (slSize w2 1) (Nat.blt n77 n76)) (
 tvs (pel w2 n77) fun e78 =>
 chk (ak pE e78 0) (
 tv (lL [] w2 n77 0 [nth hole e72 0]) fun v79 =>
 nat (slLen v79) fun n80 =>
 nat (aB x1) fun n81 =>
 chk (Bool.and (slSize v79 1) (Nat.blt n81 n80)) (
 tvs (pel v79 n81) fun e82 =>
 chk (ak pE e82 0) (
 tv (lL [] v79 n81 0 [nth hole e75 0]) fun v83 =>
 tv (pbin (.int .i64) .add x0 (I 1)) fun v84 =>
 tv (pbin (.int .i64) .sub x1 (I 1)) fun v85 =>
 jmp [0,0,1,4,0,1,1,1] (f24_3_S v84 v85 v83)))))))))) (
 chk (cF w2) (
 ret w2))
theorem f24_MR (x0:TV):eE prog 24 [x0]=f24_M x0:=by kernel_rfl
theorem f24_0_J  {w0 y1 y2 y3 w4 w5 w6:TV} {r:TV} (h:aa prog 24 (f24_0 w0 y1 y2 y3 w4 w5 w6) r):aa prog 24 (.jmp [1,1,12,0,1,1] (f24_0_S w0 y1 y2 y3 w4 w5 w6)) r:=aa.jmp (by kernel_rfl) h
theorem f24_1_J  {x0 x1 w2 y3 y4 y5 w6 w7 w8:TV} {r:TV} (h:aa prog 24 (f24_1 x0 x1 w2 y3 y4 y5 w6 w7 w8) r):aa prog 24 (.jmp [0,0,1,0,1,1,12,0,1,1] (f24_1_S x0 x1 w2 y3 y4 y5 w6 w7 w8)) r:=aa.jmp (by kernel_rfl) h
theorem f24_2_J  {x0 x1 w2 y3 y4 y5 w6 w7 w8:TV} {r:TV} (h:aa prog 24 (f24_2 x0 x1 w2 y3 y4 y5 w6 w7 w8) r):aa prog 24 (.jmp [0,0,1,1,0,0,1,1,0,0,1,0,1,1,12,0,1,1] (f24_2_S x0 x1 w2 y3 y4 y5 w6 w7 w8)) r:=aa.jmp (by kernel_rfl) h
theorem f24_3_J  {x0 x1 w2:TV} {r:TV} (h:aa prog 24 (f24_3 x0 x1 w2) r):aa prog 24 (.jmp [0,0,1,4,0,1,1,1] (f24_3_S x0 x1 w2)) r:=aa.jmp (by kernel_rfl) h
def f41_M (x0 x1:TV):Prg TV :=
 chk (TV.isAgg x0 3) (
 tv (pbin (.int .i64) .leq (I 0) x1) fun v0 =>
 Prg.ite (asBool v0) (
 tv (plen (.slice 59) (cell x0 2)) fun v1 =>
 tv (pbin (.int .i64) .lss x1 v1) fun v2 =>
 ret v2) (
 ret (B false)))
theorem f41_MR (x0 x1:TV):eE prog 41 [x0,x1]=f41_M x0 x1:=by kernel_rfl
def f42_0_S  (x0 y1 y2 y3 y4 y5 y6 y7 y8 y9 y10 y11 y12 y13 y14 w15:TV):ASt:=⟨[Jk,Pt 0,Jk,Jk,Sr 1] ++ Rj 13 ++ [AV.tv x0] ++ Rj 7,[some (BC.cells [CA.t y1,CA.t y2,CA.t y3,CA.t y4,CA.t y5,CA.t y6,CA.t y7,CA.t y8,CA.t y9,CA.t y10,CA.t y11,CA.t y12,CA.t y13,CA.t y14]),Tr w15] ++ Rz 48,[]⟩
def f42_M (x0:TV):Prg TV :=
 chk (TV.isAgg x0 14) (
 call 62 [cell x0 6] fun v0 =>
 chk (ak pE [v0] 0) (
 call 63 [v0,I 64] fun v1 =>
 chk (ak dB [v1] 0) (
 Prg.ite (asBool v1) (
 rws (pelems 1 (TV.sl true 1 (chunks 1 1 [cell x0 11]))) fun r2 =>
 tv (papp 1 (TV.lit bD) (uA r2)) fun v3 =>
 call 63 [v0,I 128] fun v4 =>
 chk (ak dB [v4] 0) (
 jmp [1,0,1,1,1,1] (f42_0_S v4 (cell x0 0) (cell x0 1) (cell x0 2) (cell x0 3) (cell x0 4) (cell x0 5) (cell x0 6) (cell x0 7) (cell x0 8) (cell x0 9) (cell x0 10) (cell x0 11) (cell x0 12) (cell x0 13) v3))) (
 call 63 [v0,I 128] fun v5 =>
 chk (ak dB [v5] 0) (
 chk true (
 jmp [1,0,1,1,1,1] (f42_0_S v5 (cell x0 0) (cell x0 1) (cell x0 2) (cell x0 3) (cell x0 4) (cell x0 5) (cell x0 6) (cell x0 7) (cell x0 8) (cell x0 9) (cell x0 10) (cell x0 11) (cell x0 12) (cell x0 13) (TV.lit bD))))))))
def f42_0  (x0 y1 y2 y3 y4 y5 y6 y7 y8 y9 y10 y11 y12 y13 y14 w15:TV):Prg TV :=
 Prg.ite (asBool x0) (
 rws (pelems 1 (TV.sl true 1 (chunks 1 1 [y13]))) fun r6 =>
 tv (papp 1 w15 (uA r6)) fun v7 =>
 chk (cF v7) (
 ret v7)) (
 chk (cF w15) (
 ret w15))
theorem f42_MR (x0:TV):eE prog 42 [x0]=f42_M x0:=by kernel_rfl
theorem f42_0_J  {x0 y1 y2 y3 y4 y5 y6 y7 y8 y9 y10 y11 y12 y13 y14 w15:TV} {r:TV} (h:aa prog 42 (f42_0 x0 y1 y2 y3 y4 y5 y6 y7 y8 y9 y10 y11 y12 y13 y14 w15) r):aa prog 42 (.jmp [1,0,1,1,1,1] (f42_0_S x0 y1 y2 y3 y4 y5 y6 y7 y8 y9 y10 y11 y12 y13 y14 w15)) r:=aa.jmp (by kernel_rfl) h
end Go.Ab.Q12
end
section
set_option maxRecDepth 100000
namespace Go.Ab.Q12
open Go Go.Ab Go.Proofs
open Go.Ab.TV (hole cell comp isSl isSc isTup cellsL tup agg)
open Go.Ab.Prg (tv tvs rws nat chk call jmp ret)
def f48_M (c0 c1 c2 x0:TV):Prg TV :=
 chk (Nat.ble 3 (List.length [c0,c1,c2])) (
 call 17 [agg [c0,c1,c2],x0] fun v0 =>
 chk (ak zSl [v0] 0) (
 chk (cF v0) (
 ret v0)))
theorem f48_MR (c0 c1 c2 x0:TV):eE prog 48 [x0,agg [c0,c1,c2]]=f48_M c0 c1 c2 x0:=by kernel_rfl
end Go.Ab.Q12
end
section
set_option maxRecDepth 100000
namespace Go.Ab.Q12
open Go Go.Ab Go.Proofs
open Go.Ab.TV (hole cell comp isSl isSc isTup cellsL tup agg)
open Go.Ab.Prg (tv tvs rws nat chk call jmp ret)
def f62_M (x0:TV):Prg TV :=
 tv (pbin (.int .i64) .eql x0 (I 1)) fun v0 =>
 Prg.ite (asBool v0) (
 Prg.ite (asBool v0) (
 ret (I 5)) (
 tv (pbin (.int .i64) .eql x0 (I 2)) fun v1 =>
 Prg.ite (asBool v1) (
 ret (I 65)) (
 tv (pbin (.int .i64) .eql x0 (I 3)) fun v2 =>
 Prg.ite (asBool v2) (
 ret (I 197)) (
 tv (pbin (.int .i64) .eql x0 (I 4)) fun v3 =>
 Prg.ite (asBool v3) (
 ret (I 355)) (
 tv (pbin (.int .i64) .eql x0 (I 6)) fun v4 =>
 Prg.ite (asBool v4) (
 ret (I 1)) (
 ret (I 0))))))) (
 tv (pbin (.int .i64) .eql x0 (I 5)) fun v5 =>
 Prg.ite (asBool v5) (
 ret (I 5)) (
 tv (pbin (.int .i64) .eql x0 (I 2)) fun v6 =>
 Prg.ite (asBool v6) (
 ret (I 65)) (
 tv (pbin (.int .i64) .eql x0 (I 3)) fun v7 =>
 Prg.ite (asBool v7) (
 ret (I 197)) (
 tv (pbin (.int .i64) .eql x0 (I 4)) fun v8 =>
 Prg.ite (asBool v8) (
 ret (I 355)) (
 tv (pbin (.int .i64) .eql x0 (I 6)) fun v9 =>
 Prg.ite (asBool v9) (
 ret (I 1)) (
 ret (I 0)))))))
theorem f62_MR (x0:TV):eE prog 62 [x0]=f62_M x0:=by kernel_rfl
def f63_M (x0 x1:TV):Prg TV :=
 tv (pbin (.int .i64) .and x0 x1) fun v0 =>
 tv (pbin (.int .i64) .neq v0 (I 0)) fun v1 =>
 ret v1
theorem f63_MR (x0 x1:TV):eE prog 63 [x0,x1]=f63_M x0 x1:=by kernel_rfl
end Go.Ab.Q12
end
section
set_option maxRecDepth 10000
namespace Go.Ab.Q12
open Go Go.Ab Go.Proofs
theorem r14 {q q':Option Bool} {x y:TV} {l m:List Int} (hx:RInts q x l) (hy:RInts q' y m):dZ prog 16 [x,y] (B (tt (l=m))):=by
 refine dZ.of (f16_MR _ _) ?_
 unfold f16_M
 repeat' (first
  | refine aa.chk rfl ?_
  | refine aa.tv rfl ?_
  | refine aa.tv (RL.len (by assumption)) ?_
  | refine aa.nat rfl ?_
  | refine aa.ite rfl (fun _=>?_) (fun _=>?_)
  | refine aa.call (by assumption) ?_
  | refine aa.tvs (by assumption) ?_)
 ·rename_i h
  have h:¬ l=m:=by rintro rfl; simp at h
  exact ret_no h
 ·rename_i h
  have hlen:l.length=m.length:=by simp at h; omega
  refine f16_0_J ?_
  rw [nj (ud hlen)]
  refine Ba (g:=fun k=>f16_0 x y (I k)) ?_ ?_
  ·unfold f16_0
   refine aa.tv hx.len (aa.tv rfl (aa.ite lv nofun fun _=>aa.ret))
  ·intro k hk r h1 h2
   have hk':k < m.length:=by omega
   have ha:l[k]? = some l[k]:=Cy hk
   have hb:m[k]? = some m[k]:=Cy hk'
   obtain ⟨e,he,rfl,_⟩:=hx.idx (k:=.i64) ha
   obtain ⟨e',he',rfl,_⟩:=hy.idx (k:=.i64) hb
   unfold f16_0
   refine aa.tv hx.len (aa.tv rfl (aa.ite (mr hk) (fun _=>?_) nofun))
   refine aa.tvs he (aa.chk rfl (aa.tvs he' (aa.chk rfl (aa.tv rfl (aa.ite rfl (fun h=>?_) fun h=>?_)))))
   ·rw [h1 (by rw [ha,hb]; simpa using h)]; exact aa.ret
   ·refine aa.tv (inc hk hx.bnd) (f16_0_J (h2 ?_))
    rw [ha,hb]; simpa using h
end Go.Ab.Q12
end
section
set_option maxRecDepth 10000
namespace Go.Ab
end Go.Ab
namespace Go.Ab.Q12
open Go Go.Ab Go.Proofs
def iA (k:Int):Int :=
 if k=1 then 5 else if k=5 then 5 else if k=2 then 65 else if k=3 then 197 else if k=4 then 355 else if k=6 then 1 else 0
def has (u f:Int):Bool:=decide (¬ IntKind.i64.wrap ((BitVec.ofInt 64 u &&& BitVec.ofInt 64 f).toNat:Int)=0)
theorem r25 (u f:Int):dZ prog 63 [I u,I f] (B (has u f)):=by
 refine dZ.of (f63_MR _ _) ?_
 unfold f63_M
 repeat' (first
  | refine aa.chk rfl ?_
  | refine aa.tv rfl ?_
  | refine aa.tv (RL.len (by assumption)) ?_
  | refine aa.nat rfl ?_
  | refine aa.ite rfl (fun _=>?_) (fun _=>?_)
  | refine aa.call (by assumption) ?_
  | refine aa.tvs (by assumption) ?_)
 refine nr.2 ?_
 simp [has]
 rfl
theorem r24 (k:Int):dZ prog 62 [I k] (I (iA k)):=by
 refine dZ.of (f62_MR _) ?_
 unfold f62_M
 repeat' (first
  | refine aa.chk rfl ?_
  | refine aa.tv rfl ?_
  | refine aa.tv (RL.len (by assumption)) ?_
  | refine aa.nat rfl ?_
  | refine aa.ite rfl (fun _=>?_) (fun _=>?_)
  | refine aa.call (by assumption) ?_
  | refine aa.tvs (by assumption) ?_)
 all_goals (refine nr.2 ?_; simp_all [iA])
end Go.Ab.Q12
end
section
set_option maxRecDepth 10000
namespace Go.Ab
theorem b8 {k:Nat} (h:k<=9223372036854775807):aB (I (k:Int))=some k:=by
 simp [aB]; omega
end Go.Ab
namespace Go.Ab.Q12
open Go Go.Ab Go.Proofs
end Go.Ab.Q12
end
section
set_option maxRecDepth 10000
namespace Go.Ab
section
variable {α:Type} {s:Nat} {R S:Nat->List TV->α->Prop} {x:TV} {l:List α}
theorem qh {β:Type}:∀ (l:List β) (n:Nat) (b:β),(al l n b).length=l.length
 | [],_,_=>rfl
 | _ :: _,0,_=>rfl
 | a :: l,n + 1,b=>by simp [al,qh l n b]
end
theorem RL.gB {α:Type} {s:Nat} {R:List TV->α->Prop} {x:TV} {l:List α} (h:RL (some false) s R x l):x.gB=true:=by
 rcases h with ⟨rfl,rfl⟩ | ⟨o,xs,rfl,hq,h,hb⟩
 ·rfl
 ·rw [hq false rfl]; rfl
theorem pm:∀ (xs:List (List TV)),(∀ e ∈ xs,gX e=true)->lj xs=true
 | [],_=>rfl
 | e :: xs,h=>by
  simp only [lj,CB]
  exact ⟨h e CG,pm xs fun e he=>h e (CH _ he)⟩
theorem F2.memL {α β:Type} {R:α->β->Prop} {xs:List α} {l:List β} (h:F2 R xs l) {e:α} (he:e ∈ xs):∃ a,a ∈ l/\R e a:=by
 obtain ⟨i,hi,rfl⟩:=List.mem_iff_getElem.1 he
 obtain ⟨a,ha,hr⟩:=h.getL (Cy hi)
 exact ⟨a,CI ha,hr⟩
theorem RL.own {α:Type} {s:Nat} {R:List TV->α->Prop} {x:TV} {l:List α} (h:RL (some true) s R x l) (hm:∀ e a,R e a->gX e=true):cF x=true:=by
 rcases h with ⟨rfl,rfl⟩ | ⟨o,xs,rfl,hq,h,hb⟩
 ·rfl
 ·rw [hq true rfl]
  simp only [cF,Bool.true_and]
  refine pm _ fun e he=>?_
  obtain ⟨a,_,hr⟩:=h.memL he
  exact hm _ _ hr
theorem RI1.own {e:List TV} {n:Int} (h:RI1 e n):gX e=true:=by obtain ⟨rfl,_⟩:=h; rfl
end Go.Ab
namespace Go.Ab.Q12
open Go Go.Ab Go.Proofs
end Go.Ab.Q12
end
section
set_option maxRecDepth 10000
namespace Go.Ab
section
variable {α β:Type} {p:Way} {w y:TV} {s:Nat} {R:List TV->α->Prop} {Q:TV->β->Prop} {G:List α->DMod} {l:List α}
theorem RL.at (hy:RL (some true) s R y l) {k:Nat} {e:List TV} (he:Go.Ab.pel y k=some e):∃ xs,y=.sl true s xs/\xs[k]? = some e/\F2 R xs l/\xs.length<=9223372036854775807:=by
 rcases hy with ⟨rfl,rfl⟩ | ⟨o,xs,rfl,hq,h,hb⟩
 ·simp [Go.Ab.pel] at he
 ·have:o=true:=hq true rfl
  subst this
  exact ⟨xs,rfl,he,h,hb⟩
end
end Go.Ab
namespace Go.Ab.Q12
open Go Go.Ab Go.Proofs
end Go.Ab.Q12
end
section
set_option maxRecDepth 10000
namespace Go.Ab
def gl (b:DBlock):List Int:=(if b.fin.kind=2\/b.fin.kind=3\/b.fin.kind=4 then [b.fin.to] else []) ++ (if b.fin.kind=3 then [b.fin.els] else [])
theorem lz {M:List Bool} {g i:Nat} (hg:g < M.length):(M.set g true)[i]? = some true ↔ i=g\/M[i]? = some true:=by
 rw [List.getElem?_set]
 by_cases h:g=i
 ·subst h; simp [hg]
 ·simp [h]; intro h'; exact absurd h'.symm h
theorem ss {M:List Bool} {g:Nat} (hg:M[g]? = some false):(M.set g true).count true=M.count true + 1:=by
 have hlt:=(Cx.1 hg).1
 have hv:=(Cx.1 hg).2
 rw [List.count_set hlt]
 simp [hv]
theorem zB (M:List Bool):M.count true<=M.length:=List.count_le_length
section
variable {α:Type} {s:Nat} {R:List TV->α->Prop} {y:TV} {l:List α}
theorem RL.nH (hy:RL (some true) s R y l) {i:Nat} {e:List TV} (he:Go.Ab.pel y i=some e) {d:Nat} {ys:List TV} {a:α} (hR:R (bC e d ys) a):∃ y',lL [] y i d ys=some y'/\RL (some true) s R y' (l.set i a):=by
 obtain ⟨xs,rfl,hk,hf,hb⟩:=hy.at he
 refine ⟨.sl true s (al xs i (bC e d ys)),by simp only [lL,cu,x4,hk,kA],.sl (by simp) (hf.set hR) (by rw [qh]; exact hb)⟩
theorem RL.app (hy:RL (some true) s R y l) {e:List TV} {a:α} (hR:R e a) (hl:l.length + 1<=4294967296):∃ y',papp s y [e]=some y'/\RL (some true) s R y' (l ++ [a]):=by
 rcases hy with ⟨rfl,rfl⟩ | ⟨o,xs,rfl,hq,h,hb⟩
 ·refine ⟨.sl true s [e],by simp [papp,bD,room,BF],.sl (by simp) (.cons hR .nil) (by simp)⟩
 ·have:o=true:=hq true rfl
  subst this
  have hxl:=h.length
  refine ⟨.sl true s (xs ++ [e]),?_,.sl (by simp) (h.append (.cons hR .nil)) (by simp; omega)⟩
  simp [papp,room]; omega
theorem RL.win {q:Option Bool} (hy:RL q s R y l) {k:Nat} (hk:k<=l.length):∃ y',eV 0 k y=some y'/\RL q s R y' (l.take k):=by
 rcases hy with ⟨rfl,rfl⟩ | ⟨o,xs,rfl,hq,h,hb⟩
 ·have:k=0:=by simpa using hk
  subst this
  exact ⟨.lit bD,rfl,by simpa using RL.nil⟩
 ·have hxl:=h.length
  refine ⟨.sl o s ((xs.drop 0).take k),?_,.sl hq (by simpa using h.take k) (by simp; omega)⟩
  simp [eV]; omega
end
end Go.Ab
namespace Go.Ab.Q12
open Go Go.Ab Go.Proofs
theorem has64 (k:Int):has (iA k) 64=true ↔ k=2\/k=3\/k=4:=by
 by_cases h1:k=1
 ·subst h1; exact ⟨fun h=>absurd h (by decide +kernel),fun h=>absurd h (by decide)⟩
 by_cases h5:k=5
 ·subst h5; exact ⟨fun h=>absurd h (by decide +kernel),fun h=>absurd h (by decide)⟩
 by_cases h2:k=2
 ·subst h2; exact ⟨fun _=>.inl rfl,fun _=>by decide +kernel⟩
 by_cases h3:k=3
 ·subst h3; exact ⟨fun _=>.inr (.inl rfl),fun _=>by decide +kernel⟩
 by_cases h4:k=4
 ·subst h4; exact ⟨fun _=>.inr (.inr rfl),fun _=>by decide +kernel⟩
 have:has (iA k) 64=false:=by
  by_cases h6:k=6
  ·subst h6; decide +kernel
  ·have:iA k=0:=by simp [iA, *]
   rw [this]; decide +kernel
 simp [this,h2,h3,h4]
theorem has128 (k:Int):has (iA k) 128=true ↔ k=3:=by
 by_cases h1:k=1
 ·subst h1; exact ⟨fun h=>absurd h (by decide +kernel),fun h=>absurd h (by decide)⟩
 by_cases h5:k=5
 ·subst h5; exact ⟨fun h=>absurd h (by decide +kernel),fun h=>absurd h (by decide)⟩
 by_cases h2:k=2
 ·subst h2; exact ⟨fun h=>absurd h (by decide +kernel),fun h=>absurd h (by decide)⟩
 by_cases h3:k=3
 ·subst h3; exact ⟨fun _=>rfl,fun _=>by decide +kernel⟩
 by_cases h4:k=4
 ·subst h4; exact ⟨fun h=>absurd h (by decide +kernel),fun h=>absurd h (by decide)⟩
 have:has (iA k) 128=false:=by
  by_cases h6:k=6
  ·subst h6; decide +kernel
  ·have:iA k=0:=by simp [iA, *]
   rw [this]; decide +kernel
 simp [this,h3]
theorem r15 {q:Option Bool} {e:List TV} {b:DBlock} (he:RBlock q e b):∃ y,dZ prog 42 [.agg e] y/\RInts (some true) y (gl b):=by
 obtain ⟨c,i,g,rfl,hc,hd,hi,hg,ho⟩:=he
 obtain ⟨o1,o2,o3,o4,o5,o6,o7⟩:=ho
 have tail:∀ (w:TV) (l:List Int) (u:Bool),RInts (some true) w l->l.length<=1->(u=true ↔ b.fin.kind=3)->∃ y,aa prog 42 (f42_0 (B u) (B b.landing) (I b.pad.dst) c (B b.pad.all) (B b.pad.cleanup) i (I b.fin.kind) (I b.fin.a) (I b.fin.dst) (I b.fin.f) g (I b.fin.to) (I b.fin.els) (I b.fin.pad) w) y/\RInts (some true) y (l ++ (if b.fin.kind=3 then [b.fin.els] else [])):=by
  intro w l u hw hl hu
  by_cases h:b.fin.kind=3
  ·have hut:u=true:=hu.2 h
   subst hut
   obtain ⟨w',hw',hr⟩:=hw.app (e:=[I b.fin.els]) (a:=b.fin.els) ⟨rfl,o6⟩ (by omega)
   refine ⟨w',?_,by simpa [h] using hr⟩
   unfold f42_0
   exact aa.ite rfl (fun _=>aa.rws rfl (aa.tv hw' (aa.chk (hr.own fun _ _ h=>h.own) aa.ret))) nofun
  ·have huf:u=false:=by cases u with
    | false=>rfl
    | true=>exact absurd (hu.1 rfl) h
   subst huf
   refine ⟨w,?_,by simpa [h] using hw⟩
   unfold f42_0
   exact aa.ite rfl nofun fun _=>aa.chk (hw.own fun _ _ h=>h.own) aa.ret
 by_cases h:b.fin.kind=2\/b.fin.kind=3\/b.fin.kind=4
 ·obtain ⟨y,hy,hr⟩:=tail (.sl true 1 [[I b.fin.to]]) [b.fin.to] (has (iA b.fin.kind) 128) (.sl (by simp) (.cons ⟨rfl,o5⟩ .nil) (by simp)) (by simp) (has128 _)
  refine ⟨y,?_,by simpa [gl,h] using hr⟩
  refine dZ.of (f42_MR _) ?_
  unfold f42_M
  refine aa.chk rfl (aa.call (r24 _) (aa.chk rfl (aa.call (r25 _ _) (aa.chk rfl (aa.ite (v:=true) (by rw [(has64 _).2 h]; rfl) (fun _=>?_) nofun)))))
  exact aa.rws rfl (aa.tv rfl (aa.call (r25 _ _) (aa.chk rfl (f42_0_J hy))))
 ·obtain ⟨y,hy,hr⟩:=tail (.lit bD) [] (has (iA b.fin.kind) 128) .nil (by simp) (has128 _)
  refine ⟨y,?_,by simpa [gl,h] using hr⟩
  refine dZ.of (f42_MR _) ?_
  unfold f42_M
  have hf:has (iA b.fin.kind) 64=false:=by
   cases hh:has (iA b.fin.kind) 64 with
   | false=>rfl
   | true=>exact absurd ((has64 _).1 hh) h
  refine aa.chk rfl (aa.call (r24 _) (aa.chk rfl (aa.call (r25 _ _) (aa.chk rfl (aa.ite (v:=false) (by rw [hf]; rfl) nofun fun _=>?_)))))
  exact aa.call (r25 _ _) (aa.chk rfl (aa.chk rfl (f42_0_J hy)))
end Go.Ab.Q12
end
section
set_option maxRecDepth 10000
namespace Go.Ab
def eX (n:Nat) (g:Int):Bool:=decide (0<=g/\g < (n:Int))
def nx (b:DBlock):List Int:=gl b ++ (if b.fin.kind=4 then [b.fin.pad] else [])
def aH (bs:List DBlock) (i:Nat):List Int:=match bs[i]? with
 | some b=>(nx b).filter (eX bs.length)
 | none=>[]
def ig (bs:List DBlock) (n:Int):List Int:=if 0<=n then aH bs n.toNat else []
theorem gK {bs:List DBlock} {i:Nat} {g:Int} (h:g ∈ aH bs i):0<=g/\g.toNat < bs.length:=by
 unfold aH at h
 split at h
 ·have:=(List.mem_filter.1 h).2
  simp only [eX,decide_eq_true_eq] at this
  omega
 ·cases h
theorem jg (bs:List DBlock) (i:Nat):ig bs (i:Int)=aH bs i:=by simp [ig]
theorem nx_len (b:DBlock):(nx b).length<=3:=by
 unfold nx gl
 split <;> split <;> split <;> simp
theorem yK (bs:List DBlock) (n:Int):(ig bs n).length<=3:=by
 unfold ig
 split
 ·unfold aH
  split
  ·exact Nat.le_trans (List.length_filter_le _ _) (nx_len _)
  ·simp
 ·simp
theorem zg {bs:List DBlock} {n:Int} (h:eX bs.length n=false):ig bs n=[]:=by
 unfold ig
 split
 ·rename_i h0
  unfold aH
  rw [CL (by simp [eX] at h; omega)]
 ·rfl
theorem zJ {bs:List DBlock} {n:Int} (h:eX bs.length n=true):∃ b,bs[n.toNat]? = some b/\ig bs n=(nx b).filter (eX bs.length)/\n=(n.toNat:Int):=by
 simp only [eX,decide_eq_true_eq] at h
 have hl:n.toNat < bs.length:=by omega
 refine ⟨bs[n.toNat],Cy hl,?_,by omega⟩
 simp only [ig,h.1,if_true,aH,Cy hl]
theorem gM {P:Int->Bool} {l:List Int} {j:Nat} {a:Int} (h:l[j]? = some a):(l.take (j + 1)).filter P=(l.take j).filter P ++ (if P a then [a] else []):=by
 rw [List.take_add_one,h,List.filter_append]
 cases hp:P a <;> simp [hp]
section
variable {s:Nat} {α:Type} {R:List TV->α->Prop} {y:TV} {l:List α}
theorem RL.clr (hy:RL (some true) s R y l) {k:Nat} (hk:k<=l.length) (z:List TV):∃ y',pclear s z k (l.length - k) y=some y'/\Go.Ab.slLen y'=some l.length/\Go.Ab.slSize y' s=true/\∃ y'',eV 0 k y'=some y''/\RL (some true) s R y'' (l.take k):=by
 rcases hy with ⟨rfl,rfl⟩ | ⟨o,xs,rfl,hq,h,hb⟩
 ·have:k=0:=by simpa using hk
  subst this
  exact ⟨.lit bD,rfl,rfl,rfl,.lit bD,rfl,by simpa using RL.nil⟩
 ·have:o=true:=hq true rfl
  subst this
  have hxl:=h.length
  refine ⟨.sl true s (xs.take k ++ (List.replicate (l.length - k) z ++ xs.drop (k + (l.length - k)))),by simp only [pclear]; rw [if_pos ⟨trivial,by omega⟩],?_,by simp [Go.Ab.slSize],.sl true s (xs.take k),?_,.sl (by simp) (h.take k) (by simp; omega)⟩
  ·simp [Go.Ab.slLen]; omega
  ·simp only [eV]
   rw [if_pos (by simp; omega),List.drop_zero,List.take_append_of_le_length (by simp; omega),List.take_take,Nat.min_self]
end
end Go.Ab
namespace Go.Ab.Q12
open Go Go.Ab Go.Proofs
theorem r70 {q:Option Bool} {e:List TV} {f:DFunc} (he:RFunc q e f) (n:Int):dZ prog 41 [.agg e,I n] (B (eX f.blocks.length n)):=by
 obtain ⟨b,rfl,hb,_⟩:=he
 refine dZ.of (f41_MR _ _) ?_
 unfold f41_M
 refine aa.chk rfl (aa.tv rfl (aa.ite rfl (fun h=>aa.tv hb.len (aa.tv rfl ?_)) fun h=>?_))
 ·refine nr.2 ?_
  have h:0<=n:=by simpa using h
  simp [eX,h]
 ·refine nr.2 ?_
  have h:¬ 0<=n:=by simpa using h
  simp [eX,h]
theorem d7 {v:TV} (h:v.isSl=true):ak zSl [v] 0=true:=by
 show (v.isSl && true)=true
 rw [h]; rfl
theorem del2 {y3 y4 y5:TV} {P:Int->Bool} (hP:∀ g,dZ prog 41 [.agg [y3,y4,y5],I g] (B (P g))) {l:List Int}:∀ (d i j:Nat) (w:TV) (cur:List Int),j + d=l.length->i<=j->RInts (some true) w cur->cur.length=l.length ->
  cur.take i=(l.take j).filter P->(∀ m,j<=m->cur[m]? = l[m]?)->∃ y,aa prog 17 (f17_2 (I i) (I j) w y3 y4 y5) y/\RInts (some true) y (l.filter P):=by
 intro d
 induction d with
 | zero =>
  intro i j w cur hj hij hw hcl hti _
  have hj:j=l.length:=by omega
  subst hj
  have hbn:=hw.bnd
  have hil:i<=cur.length:=by omega
  obtain ⟨y',c1,c2,c3,y'',c4,c5⟩:=hw.clr hil [I 0]
  rw [hti,List.take_length] at c5
  refine ⟨y'',?_,c5⟩
  unfold f17_2
  refine aa.tv hw.len (aa.tv rfl (aa.ite (v:=false) (by rw [hcl]; exact lv) nofun fun _=>?_))
  refine f17_3_J ?_
  unfold f17_3
  have han:aB (I i)=some i:=b8 (by omega)
  have hle:Nat.ble i cur.length=true:=by simpa using hil
  refine aa.nat hw.slLen (aa.nat han (aa.chk (by simp [hw.slSize,hle]) (aa.tv c1 (aa.nat c2 (aa.nat han (aa.chk (by simp [c3,hle]) (aa.tv c4 (aa.chk (c5.own fun _ _ h=>h.own) aa.ret))))))))
 | succ d ih =>
  intro i j w cur hj hij hw hcl hti hd
  have hjl:j < l.length:=by omega
  have hjc:j < cur.length:=by omega
  have hbn:=hw.bnd
  have ha:l[j]? = some l[j]:=Cy hjl
  obtain ⟨a,haa⟩:∃ a,a=l[j]:=⟨_,rfl⟩
  rw [<- haa] at ha
  have hca:cur[j]? = some a:=by rw [hd j (Nat.le_refl _)]; exact ha
  obtain ⟨e,he,rfl,hea⟩:=hw.pel hca
  have anj:aB (I j)=some j:=b8 (by omega)
  have ani:aB (I i)=some i:=b8 (by omega)
  cases hp:P a with
  | true =>
   have hic:i < cur.length:=by omega
   obtain ⟨e',he',rfl,_⟩:=hw.pel (Cy hic)
   obtain ⟨w',hw',hr⟩:=hw.nH he' (d:=0) (ys:=[I a]) (a:=a) ⟨rfl,hea⟩
   obtain ⟨y,hy,hry⟩:=ih (i + 1) (j + 1) w' (cur.set i a) (by omega) (by omega) hr (by simpa using hcl) (by
    rw [gM ha,hp,if_pos rfl,<- hti,List.take_add_one,List.getElem?_set_self hic]
    congr 1
    rw [List.take_set_of_le (Nat.le_refl _)]) (fun m hm=>by
    rw [List.getElem?_set_ne (by omega)]
    exact hd m (by omega))
   refine ⟨y,?_,hry⟩
   unfold f17_2
   refine aa.tv hw.len (aa.tv rfl (aa.ite (mr hjc) (fun _=>?_) nofun))
   refine aa.nat hw.slLen (aa.nat anj (aa.chk (by simp [hw.slSize,hjc]) (aa.tvs he (aa.chk rfl (aa.call (hP a) (aa.chk rfl (aa.tv rfl (aa.tv rfl (aa.ite (v:=true) (by rw [hp]; rfl) (fun _=>?_) nofun)))))))))
   exact aa.nat hw.slLen (aa.nat ani (aa.chk (by simp [hw.slSize,hic]) (aa.tvs he' (aa.chk rfl (aa.tv hw' (aa.tv (inc hic hbn) (aa.tv (inc hjc hbn) (f17_2_J hy))))))))
  | false =>
   obtain ⟨y,hy,hry⟩:=ih i (j + 1) w cur (by omega) (by omega) hw hcl (by rw [gM ha,hp,hti]; simp) (fun m hm=>hd m (by omega))
   refine ⟨y,?_,hry⟩
   unfold f17_2
   refine aa.tv hw.len (aa.tv rfl (aa.ite (mr hjc) (fun _=>?_) nofun))
   exact aa.nat hw.slLen (aa.nat anj (aa.chk (by simp [hw.slSize,hjc]) (aa.tvs he (aa.chk rfl (aa.call (hP a) (aa.chk rfl (aa.tv rfl (aa.tv rfl (aa.ite (v:=false) (by rw [hp]; rfl) nofun fun _=>aa.tv (inc hjc hbn) (f17_2_J hy))))))))))
theorem del1 {y3 y4 y5:TV} {P:Int->Bool} (hP:∀ g,dZ prog 41 [.agg [y3,y4,y5],I g] (B (P g))) {l:List Int} {w:TV} (hw:RInts (some true) w l):∀ (d k:Nat),k + d=l.length->(l.take k).filter P=l.take k ->
  ∃ y,aa prog 17 (f17_1 (I l.length) (I k) w y3 y4 y5) y/\RInts (some true) y (l.filter P):=by
 intro d
 have hbn:=hw.bnd
 induction d with
 | zero =>
  intro k hk hf
  have hk:k=l.length:=by omega
  subst hk
  rw [List.take_length] at hf
  refine ⟨w,?_,by rw [hf]; exact hw⟩
  unfold f17_1
  exact aa.tv rfl (aa.ite lv nofun fun _=>aa.tv rfl (aa.ite (v:=true) rfl (fun _=>aa.chk (hw.own fun _ _ h=>h.own) aa.ret) nofun))
 | succ d ih =>
  intro k hk hf
  have hkl:k < l.length:=by omega
  obtain ⟨a,haa⟩:∃ a,a=l[k]:=⟨_,rfl⟩
  have ha:l[k]? = some a:=by rw [haa]; exact Cy hkl
  obtain ⟨e,he,rfl,hea⟩:=hw.pel ha
  have ank:aB (I k)=some k:=b8 (by omega)
  cases hp:P a with
  | true =>
   obtain ⟨y,hy,hry⟩:=ih (k + 1) (by omega) (by rw [gM ha,hp,hf,List.take_add_one,ha]; rfl)
   refine ⟨y,?_,hry⟩
   unfold f17_1
   refine aa.tv rfl (aa.ite (mr hkl) (fun _=>?_) nofun)
   exact aa.nat hw.slLen (aa.nat ank (aa.chk (by simp [hw.slSize,hkl]) (aa.tvs he (aa.chk rfl (aa.call (hP a) (aa.chk rfl (aa.tv rfl (aa.ite (v:=false) (by rw [hp]; rfl) nofun fun _=>aa.tv (inc hkl hbn) (f17_1_J hy)))))))))
  | false =>
   obtain ⟨y,hy,hry⟩:=del2 hP d k (k + 1) w l (by omega) (by omega) hw rfl (by rw [gM ha,hp,hf]; simp) (fun m _=>rfl)
   refine ⟨y,?_,hry⟩
   unfold f17_1
   refine aa.tv rfl (aa.ite (mr hkl) (fun _=>?_) nofun)
   refine aa.nat hw.slLen (aa.nat ank (aa.chk (by simp [hw.slSize,hkl]) (aa.tvs he (aa.chk rfl (aa.call (hP a) (aa.chk rfl (aa.tv rfl (aa.ite (v:=true) (by rw [hp]; rfl) (fun _=>?_) nofun))))))))
   have hne:((k:Int) == (-1:Int))=false:=by simp
   exact aa.tv rfl (aa.ite (v:=false) (by simp only [asBool,hne]) nofun fun _=>aa.tv (inc hkl hbn) (f17_2_J hy))
theorem r71 {q:Option Bool} {e:List TV} {f:DFunc} (he:RFunc q e f) (n:Int):∃ y,dZ prog 17 [.agg e,I n] y/\RInts (some true) y (ig f.blocks n):=by
 have he0:=he
 obtain ⟨b,rfl,hb,_⟩:=he
 cases ht:eX f.blocks.length n with
 | false =>
  refine ⟨.lit bD,?_,by rw [zg ht]; exact .nil⟩
  refine dZ.of (f17_MR _ _) ?_
  unfold f17_M
  refine aa.chk rfl (aa.call (r70 he0 n) (aa.chk rfl (aa.tv rfl (aa.ite (v:=true) (by rw [ht]; rfl) (fun _=>aa.chk rfl aa.ret) nofun))))
 | true =>
  obtain ⟨bk,hbk,hnl,hn⟩:=zJ ht
  have key:∀ (w:TV),RInts (some true) w (nx bk)->∃ y,aa prog 17 (f17_0 (I f.params) (I f.regs) b w) y/\RInts (some true) y (ig f.blocks n):=fun w hw=>by
   obtain ⟨y,hy,hr⟩:=del1 (fun g=>r70 he0 g) hw (nx bk).length 0 (by omega) (by simp)
   refine ⟨y,?_,by rw [hnl]; exact hr⟩
   unfold f17_0
   exact aa.tv hw.len (f17_1_J hy)
  obtain ⟨e2,he2,hR⟩:=hb.idx (k:=.i64) hbk
  obtain ⟨v,hv,hvr⟩:=r15 hR
  have hR0:=hR
  obtain ⟨c,i,g,rfl,hc,hd,hi,hg,ho⟩:=hR
  rw [<- hn] at he2
  by_cases h4:bk.fin.kind=4
  ·obtain ⟨w,hw,hwr⟩:=hvr.app (e:=[I bk.fin.pad]) (a:=bk.fin.pad) ⟨rfl,ho.2.2.2.2.2.2⟩ (by have:(gl bk).length<=2:=by { unfold gl; split <;> split <;> simp }; omega)
   obtain ⟨y,hy,hr⟩:=key w (by unfold nx; rw [if_pos h4]; exact hwr)
   refine ⟨y,?_,hr⟩
   refine dZ.of (f17_MR _ _) ?_
   unfold f17_M
   refine aa.chk rfl (aa.call (r70 he0 n) (aa.chk rfl (aa.tv rfl (aa.ite (v:=false) (by rw [ht]; rfl) nofun fun _=>?_))))
   exact aa.tvs he2 (aa.chk rfl (aa.call hv (aa.chk (d7 hvr.isSl) (aa.tv rfl (aa.ite (v:=true) (by simp [asBool,h4]) (fun _=>aa.rws rfl (aa.tv hw (f17_0_J hy))) nofun)))))
  ·obtain ⟨y,hy,hr⟩:=key v (by unfold nx; rw [if_neg h4,List.append_nil]; exact hvr)
   refine ⟨y,?_,hr⟩
   refine dZ.of (f17_MR _ _) ?_
   unfold f17_M
   refine aa.chk rfl (aa.call (r70 he0 n) (aa.chk rfl (aa.tv rfl (aa.ite (v:=false) (by rw [ht]; rfl) nofun fun _=>?_))))
   exact aa.tvs he2 (aa.chk rfl (aa.call hv (aa.chk (d7 hvr.isSl) (aa.tv rfl (aa.ite (v:=false) (by simp [asBool,h4]) nofun fun _=>f17_0_J hy)))))
end Go.Ab.Q12
end
section
set_option maxRecDepth 10000
namespace Go.Ab
theorem AF {α:Type} {l:List α} {j:Nat} {a:α} (h:l[j]? = some a):l.take (j + 1)=l.take j ++ [a]:=by
 rw [List.take_add_one,h]; rfl
end Go.Ab
namespace Go.Ab.Q12
open Go Go.Ab Go.Proofs
section
variable {q:Option Bool} {b:TV} {bs:List DBlock} (hb:RL q 14 (RBlock q) b bs)
include hb
end
end Go.Ab.Q12
end
section
set_option maxRecDepth 10000
namespace Go.Ab
inductive Dfs (bs:List DBlock):List Bool->List (Nat × List Int)->List Int->List Bool->List Int->Prop
 | done {M:List Bool} {o:List Int}:Dfs bs M [] o M o
 | leave {M M':List Bool} {n:Nat} {st:List (Nat × List Int)} {o o':List Int}:Dfs bs M st ((n:Int) :: o) M' o'->Dfs bs M ((n,[]) :: st) o M' o'
 | skip {M M':List Bool} {n:Nat} {g:Int} {l:List Int} {st:List (Nat × List Int)} {o o':List Int}:M[g.toNat]? = some true->Dfs bs M ((n,l) :: st) o M' o'->Dfs bs M ((n,g :: l) :: st) o M' o'
 | enter {M M':List Bool} {n:Nat} {g:Int} {l:List Int} {st:List (Nat × List Int)} {o o':List Int}:M[g.toNat]? = some false->Dfs bs (M.set g.toNat true) ((g.toNat,aH bs g.toNat) :: (n,l) :: st) o M' o'->Dfs bs M ((n,g :: l) :: st) o M' o'
def wJ (bs:List DBlock) (o:List Int):Prop:=(bs=[]/\o=[])\/(bs≠[]/\∃ M',Dfs bs ((List.replicate bs.length false).set 0 true) [(0,aH bs 0)] [] M' o)
def work (M:List Bool) (st:List (Nat × List Int)):Nat:=M.count false * 5 + (st.map fun p=>p.2.length + 1).sum
theorem count_set {M:List Bool} {g:Nat} (h:M[g]? = some false):(M.set g true).count false + 1=M.count false:=by
 have hlt:=(Cx.1 h).1
 have hv:=(Cx.1 h).2
 have hm:false ∈ M:=CI h
 have:=List.count_pos_iff.2 hm
 rw [List.count_set hlt]
 simp [hv]
 omega
theorem wM (bs:List DBlock) (i:Nat):(aH bs i).length<=3:=by
 have:=yK bs (i:Int)
 rwa [jg] at this
structure WOk (bs:List DBlock) (M:List Bool) (st:List (Nat × List Int)) (o:List Int):Prop where
 len:M.length=bs.length
 at_:∀ p ∈ st,p.1 < bs.length/\∀ g ∈ p.2,0<=g/\g.toNat < bs.length
 room:st.length + o.length<=M.count true
theorem WOk.leave {bs:List DBlock} {M:List Bool} {st:List (Nat × List Int)} {o:List Int} {n:Nat} (h:WOk bs M ((n,[]) :: st) o):WOk bs M st ((n:Int) :: o) :=
 ⟨h.len,fun p hp=>h.at_ p (CH _ hp),by have:=h.room; simp at this ⊢; omega⟩
theorem WOk.skip {bs:List DBlock} {M:List Bool} {st:List (Nat × List Int)} {o:List Int} {n:Nat} {g:Int} {l:List Int} (h:WOk bs M ((n,g :: l) :: st) o):WOk bs M ((n,l) :: st) o :=
 ⟨h.len, fun p hp => by
  rcases List.mem_cons.1 hp with rfl | hp
  ·exact ⟨(h.at_ _ CG).1,fun g' hg=>(h.at_ _ CG).2 g' (CH _ hg)⟩
  ·exact h.at_ p (CH _ hp),h.room⟩
theorem WOk.enter {bs:List DBlock} {M:List Bool} {st:List (Nat × List Int)} {o:List Int} {n:Nat} {g:Int} {l:List Int} (h:WOk bs M ((n,g :: l) :: st) o) (hg:M[g.toNat]? = some false):WOk bs (M.set g.toNat true) ((g.toNat,aH bs g.toNat) :: (n,l) :: st) o:=by
 refine ⟨by rw [List.length_set]; exact h.len,fun p hp=>?_,?_⟩
 ·rcases List.mem_cons.1 hp with rfl | hp
  ·exact ⟨((h.at_ _ CG).2 g CG).2,fun g' hg=>gK hg⟩
  ·exact h.skip.at_ p hp
 ·have:=h.room
  rw [ss hg]
  simp at this ⊢
  omega
theorem WOk.cap {bs:List DBlock} {M:List Bool} {st:List (Nat × List Int)} {o:List Int} (h:WOk bs M st o):st.length + o.length<=bs.length:=by
 have:=zB M
 have:=h.room
 rw [<- h.len]
 omega
theorem dec7 {n:Nat} (h:0 < n) (hn:n<=9223372036854775807):pbin (.int .i64) .sub (I (n:Int)) (I (1:Int))=some (I ((n - 1:Nat):Int)):=by
 have h1:IntKind.i64.wrap ((n:Int) - 1)=((n - 1:Nat):Int):=by rw [IntKind.wrap_i64]; omega
 show some (TV.lit (.int .i64 (IntKind.i64.wrap ((n:Int) - 1))))=_
 rw [h1]
theorem si {g:Int} (h0:0<=g) (hi:inI g):aB (I g)=some g.toNat:=by
 show (if 0<=g/\g<=9223372036854775807 then some g.toNat else none)=some g.toNat
 exact if_pos ⟨h0,hi.2⟩
section
variable {s:Nat} {α:Type} {R:List TV->α->Prop} {y:TV} {l:List α} {q:Option Bool}
theorem RL.deep (hy:RL q s R y l) {i j:Nat} {e:List TV} {z:TV} (he:Go.Ab.pel y i=some e) (hj:e[j]? = some z):cu [(i,j)] y=some z:=by
 rcases hy with ⟨rfl,rfl⟩ | ⟨o,xs,rfl,hq,h,hb⟩
 ·simp [Go.Ab.pel] at he
 ·have he:xs[i]? = some e:=he
  simp only [cu,he,hj]
theorem RL.winD (hy:RL q s R y l) {k:Nat} (hk:k<=l.length):∃ y',eV k (l.length - k) y=some y'/\RL q s R y' (l.drop k):=by
 rcases hy with ⟨rfl,rfl⟩ | ⟨o,xs,rfl,hq,h,hb⟩
 ·have:k=0:=by simpa using hk
  subst this
  exact ⟨.lit bD,rfl,by simpa using RL.nil⟩
 ·have hxl:=h.length
  refine ⟨.sl o s ((xs.drop k).take (l.length - k)),?_,.sl hq ?_ (by simp; omega)⟩
  ·simp only [eV]
   rw [if_pos (by omega)]
  ·have:=(h.drop k).take (l.length - k)
   rwa [List.take_of_length_le (l:=l.drop k) (by simp)] at this
end
def RV (q:Option Bool) (e:List TV) (p:Nat × List Int):Prop:=∃ v,e=[I p.1,v]/\RInts q v p.2
theorem RV.weak {q:Option Bool} {e:List TV} {p:Nat × List Int} (h:RV q e p):RV none e p:=by
 obtain ⟨v,rfl,h⟩:=h
 exact ⟨v,rfl,h.weak fun _ _ h=>h⟩
theorem RL.toN {y:TV} {l:List (Nat × List Int)} {q:Option Bool} (h:RL (some true) 2 (RV q) y l):RL (some true) 2 (RV none) y l:=by
 rcases h with ⟨rfl,rfl⟩ | ⟨o,xs,rfl,hq,h,hb⟩
 ·exact .nil
 ·exact .sl hq (h.mono fun _ _ h=>h.weak) hb
theorem RL.cooled {y:TV} {l:List (Nat × List Int)} {q:Option Bool} (h:RL (some true) 2 (RV q) y l):RL (some true) 2 (RV (some false)) (cX y) l:=by
 rcases h with ⟨rfl,rfl⟩ | ⟨o,xs,rfl,hq,h,hb⟩
 ·exact .nil
 ·refine .sl hq ?_ (by rw [iZ,List.length_map]; exact hb)
  rw [iZ]
  exact h.mapL fun e p hp=>by
   obtain ⟨v,rfl,hv⟩:=hp
   exact ⟨Ab.frz v,rfl,hv.frz fun _ _ h=>h.frz⟩
end Go.Ab
namespace Go.Ab.Q12
open Go Go.Ab Go.Proofs
theorem B6 {L:List Int}:∀ (d i:Nat) (j:Int) (w:TV) (cur:List Int),(i:Int) + j=(L.length:Int) - 1->j - (i:Int)<=(d:Int)->i<=L.length->RInts (some true) w cur->cur.length=L.length ->
  (∀ k:Nat,k < L.length->cur[k]? = if k < i\/j < (k:Int) then L[L.length - 1 - k]? else L[k]?)->∃ y,aa prog 24 (f24_3 (I i) (I j) w) y/\RInts (some true) y L.reverse:=by
 have fin:∀ (i:Nat) (j:Int) (w:TV) (cur:List Int),(i:Int) + j=(L.length:Int) - 1->¬ (i:Int) < j->RInts (some true) w cur->cur.length=L.length ->
  (∀ k:Nat,k < L.length->cur[k]? = if k < i\/j < (k:Int) then L[L.length - 1 - k]? else L[k]?)->∃ y,aa prog 24 (f24_3 (I i) (I j) w) y/\RInts (some true) y L.reverse:=by
  intro i j w cur hij hn hw hcl hk
  have e:cur=L.reverse:=by
   apply List.ext_getElem?
   intro k
   by_cases h:k < L.length
   ·rw [hk k h,List.getElem?_reverse h]
    split
    ·rfl
    ·have:L.length - 1 - k=k:=by omega
     rw [this]
   ·rw [CL (by omega),CL (by simp; omega)]
  subst e
  refine ⟨w,?_,hw⟩
  unfold f24_3
  exact aa.tv rfl (aa.ite (v:=false) (by simp [asBool]; omega) nofun fun _=>aa.chk (hw.own fun _ _ h=>h.own) aa.ret)
 intro d
 induction d with
 | zero =>
  intro i j w cur hij hd hi hw hcl hk
  exact fin i j w cur hij (by omega) hw hcl hk
 | succ d ih =>
  intro i j w cur hij hd hi hw hcl hk
  by_cases hlt:(i:Int) < j
  ·have hbn:=hw.bnd
   obtain ⟨m,rfl⟩:∃ m:Nat,j=(m:Int):=⟨j.toNat,by omega⟩
   have hmc:m < cur.length:=by omega
   have hic:i < cur.length:=by omega
   obtain ⟨a,haa⟩:∃ a,a=cur[i]:=⟨_,rfl⟩
   obtain ⟨b,hbb⟩:∃ b,b=cur[m]:=⟨_,rfl⟩
   have ha:cur[i]? = some a:=by rw [haa]; exact Cy hic
   have hb:cur[m]? = some b:=by rw [hbb]; exact Cy hmc
   obtain ⟨e1,he1,rfl,hea⟩:=hw.pel ha
   obtain ⟨e2,he2,rfl,heb⟩:=hw.pel hb
   obtain ⟨w1,hw1,hr1⟩:=hw.nH he1 (d:=0) (ys:=[I b]) (a:=b) ⟨rfl,heb⟩
   have hb1:(cur.set i b)[m]? = some b:=by rw [List.getElem?_set_ne (by omega)]; exact hb
   obtain ⟨e3,he3,rfl,_⟩:=hr1.pel hb1
   obtain ⟨w2,hw2,hr2⟩:=hr1.nH he3 (d:=0) (ys:=[I a]) (a:=a) ⟨rfl,hea⟩
   obtain ⟨y,hy,hry⟩:=ih (i + 1) ((m - 1:Nat):Int) w2 _ (by omega) (by omega) (by omega) hr2 (by simpa using hcl) (fun k hkl=>by
    have hki:=hk i (by omega)
    have hkm:=hk m (by omega)
    rw [if_neg (by omega)] at hki hkm
    rw [List.getElem?_set,List.getElem?_set]
    by_cases h1:m=k
    ·subst h1
     rw [if_pos rfl,if_pos (by simpa using hmc),if_pos (by omega),<- ha,hki]
     congr 1
     omega
    ·rw [if_neg h1]
     by_cases h2:i=k
     ·subst h2
      rw [if_pos rfl,if_pos hic,if_pos (by omega),<- hb,hkm]
      congr 1
      omega
     ·rw [if_neg h2,hk k hkl]
      by_cases h3:k < i\/(m:Int) < (k:Int)
      ·rw [if_pos h3,if_pos (by omega)]
      ·rw [if_neg h3,if_neg (by omega)])
   refine ⟨y,?_,hry⟩
   have ani:aB (I i)=some i:=b8 (by omega)
   have anm:aB (I m)=some m:=b8 (by omega)
   have hm1:m < (cur.set i b).length:=by simpa using hmc
   unfold f24_3
   refine aa.tv rfl (aa.ite (v:=true) (by simp only [asBool]; exact congrArg some (decide_eq_true hlt)) (fun _=>?_) nofun)
   refine aa.nat hw.slLen (aa.nat anm (aa.chk (by simp [hw.slSize,hmc]) (aa.tvs he2 (aa.chk rfl ?_))))
   refine aa.nat hw.slLen (aa.nat ani (aa.chk (by simp [hw.slSize,hic]) (aa.tvs he1 (aa.chk rfl ?_))))
   refine aa.nat hw.slLen (aa.nat ani (aa.chk (by simp [hw.slSize,hic]) (aa.tvs he1 (aa.chk rfl (aa.tv hw1 ?_)))))
   refine aa.nat hr1.slLen (aa.nat anm (aa.chk (by simp only [hr1.slSize]; simpa using hmc) (aa.tvs he3 (aa.chk rfl (aa.tv hw2 ?_)))))
   exact aa.tv (inc hic hbn) (aa.tv (dec7 (by omega) (by omega)) (f24_3_J hy))
  ·exact fin i j w cur hij hlt hw hcl hk
end Go.Ab.Q12
end
